import PyProof.Rows.All
import Wide.All
import OpenK.AllK
import Wide.FinOn
import Lean
import PyProof.EqAt
import PyProof.EqKinds
import PyProof.TupleCall
import KE.KRevSl
import KE.KTryMore
import Open.Pieces
import OpenK.KQuick
import OpenK.KWalk
import PyProof.ExcAttrAll.ValueError
import PyProof.FitsBits
import PyProof.NeKinds
import PySem.Challenge.RW_countkin_k10_told_by_number
set_option Elab.async false
set_option linter.all false
set_option maxRecDepth 100000
namespace L2
open PySem PySem.Spec PyProof.Rows
noncomputable abbrev Key := Sum Int Str
noncomputable def keyIs : Key → Value → Bool
  | .inl k, v => Value.isInt k v
  | .inr x, v => Value.isStrOf x v
noncomputable def keyH (w : World) : Key → Int
  | .inl k => hashInt k
  | .inr x => hashStr w x
theorem keyIs_shape : ∀ {k : Key} {v : Value}, keyIs k v = true → (∃ i t, k = Sum.inl i ∧ v = Value.int i t) ∨ (∃ x t, k = Sum.inr x ∧ v = Value.str x t)
  | .inl i, v, h => by
    obtain ⟨t, e⟩ := Value.isInt_shape (k := i) (v := v) h
    exact .inl ⟨i, t, rfl, e⟩
  | .inr x, v, h => by
    obtain ⟨t, e⟩ := Value.isStrOf_shape (x := x) (v := v) h
    exact .inr ⟨x, t, rfl, e⟩
theorem key_ll (a b : Int) : decide ((Sum.inl a : Key) = Sum.inl b) = (a == b) := by
  by_cases e : a = b
  · subst e; simp
  · have h : ¬ (Sum.inl a : Key) = Sum.inl b := fun q => e (Sum.inl.inj q)
    rw [decide_eq_false h]
    exact (beq_eq_false_iff_ne.mpr e).symm
theorem key_rr (a b : Str) : decide ((Sum.inr a : Key) = Sum.inr b) = decide (a = b) := by
  by_cases e : a = b
  · subst e; simp
  · have h : ¬ (Sum.inr a : Key) = Sum.inr b := fun q => e (Sum.inr.inj q)
    rw [decide_eq_false h, decide_eq_false e]
theorem key_lr (a : Int) (b : Str) : decide ((Sum.inl a : Key) = Sum.inr b) = false := decide_eq_false (fun q => nomatch q)
theorem key_rl (a : Str) (b : Int) : decide ((Sum.inr a : Key) = Sum.inl b) = false := decide_eq_false (fun q => nomatch q)
noncomputable def mixKind (prog : Program) (w : World) : PySem.KeyKind prog w Key where
  is := keyIs
  hash := keyH w
  inj := fun v a b ha hb => by
    rcases keyIs_shape ha with ⟨i, t, rfl, rfl⟩ | ⟨x, t, rfl, rfl⟩
    · rcases keyIs_shape hb with ⟨j, u, rfl, e⟩ | ⟨y, u, rfl, e⟩
      · injection e with e1 _; rw [e1]
      · exact nomatch e
    · rcases keyIs_shape hb with ⟨j, u, rfl, e⟩ | ⟨y, u, rfl, e⟩
      · exact nomatch e
      · injection e with e1 _; rw [e1]
  byValue := fun k v h => by
    rcases keyIs_shape h with ⟨i, t, rfl, rfl⟩ | ⟨x, t, rfl, rfl⟩ <;> rfl
  pyHash := fun hv h => by
    rcases keyIs_shape hv with ⟨i, t, rfl, rfl⟩ | ⟨x, t, rfl, rfl⟩
    · exact wpAny_pyHash_int h
    · exact wpAny_pyHash_str h
  eqBool := fun hu hv h => by
    rcases keyIs_shape hu with ⟨i, t, rfl, rfl⟩ | ⟨x, t, rfl, rfl⟩
    · rcases keyIs_shape hv with ⟨j, u, rfl, rfl⟩ | ⟨y, u, rfl, rfl⟩
      · rw [key_ll] at h; exact wpAny_eqBool_int h
      · rw [key_lr] at h; exact SeqAt.EqAt.int_str i t y u _ _ _ _ h
    · rcases keyIs_shape hv with ⟨j, u, rfl, rfl⟩ | ⟨y, u, rfl, rfl⟩
      · rw [key_rl] at h; exact SeqAt.EqAt.str_int x t j u _ _ _ _ h
      · rw [key_rr] at h; exact wpAny_eqBool_str h
  «strs» := fun k x t v h => by
    rcases keyIs_shape h with ⟨i, u, rfl, e⟩ | ⟨y, u, rfl, e⟩
    · exact nomatch e
    · injection e with e1 _
      subst e1
      cases v <;> rfl
end L2
namespace L2
open PySem PySem.Spec PyProof.Rows
inductive V where
  | non | bl (b : Bool) | int (i : Int) | str (x : Str) | byt (b : Array UInt8) | flt (b : UInt64) | ref (a : Addr) | ty (n : String)
  deriving DecidableEq
noncomputable def RelV : V → Value → Prop
  | .non, u => u = Value.none
  | .bl b, u => u = Value.bool b
  | .int i, u => ∃ t, u = Value.int i t
  | .str x, u => ∃ t, u = Value.str x t
  | .byt b, u => ∃ t, u = Value.bytes b t
  | .flt b, u => ∃ t, u = Value.float b t
  | .ref a, u => u = Value.ref a
  | .ty n, u => u = Value.type n
noncomputable abbrev Vals : List V → List Value → Prop := Paired RelV
theorem Vals.length {xs : List V} {us : List Value} (r : Vals xs us) : xs.length = us.length := Paired.length r
theorem Vals.get : ∀ {xs : List V} {us : List Value} {i : Nat} {x : V}, Vals xs us → xs[i]? = some x → ∃ u, us[i]? = some u ∧ RelV x u
  | _, _, _, _, .nil, e => by simp at e
  | _, _, 0, _, .cons r _, e => by simp at e; subst e; exact ⟨_, rfl, r⟩
  | _, _, i + 1, x, .cons _ t, e => by
    obtain ⟨u, h1, h2⟩ := Vals.get (i := i) (x := x) t (by simpa using e)
    exact ⟨u, by simpa using h1, h2⟩
theorem Vals.set {x : V} {u : Value} (r : RelV x u) : ∀ {xs : List V} {us : List Value} (i : Nat), Vals xs us → Vals (xs.set i x) (us.set i u)
  | _, _, _, .nil => .nil
  | _, _, 0, .cons _ t => .cons r t
  | _, _, i + 1, .cons q t => .cons q (Vals.set r i t)
theorem Vals.append : ∀ {xs ys : List V} {us ws : List Value}, Vals xs us → Vals ys ws → Vals (xs ++ ys) (us ++ ws)
  | _, _, _, _, .nil, s => s
  | _, _, _, _, .cons r t, s => .cons r (Vals.append t s)
theorem Vals.take : ∀ {xs : List V} {us : List Value} (n : Nat), Vals xs us → Vals (xs.take n) (us.take n)
  | _, _, 0, _ => .nil
  | _, _, _ + 1, .nil => .nil
  | _, _, n + 1, .cons r t => .cons r (Vals.take n t)
theorem Vals.drop : ∀ {xs : List V} {us : List Value} (n : Nat), Vals xs us → Vals (xs.drop n) (us.drop n)
  | _, _, 0, r => r
  | _, _, _ + 1, .nil => .nil
  | _, _, n + 1, .cons _ t => Vals.drop n t
noncomputable def RelO : Option V → Option Value → Prop
  | some v, some u => RelV v u
  | none, none => True
  | _, _ => False
noncomputable def KV {κ : Type} : List (κ × V) → List (κ × Value) → Prop := Paired fun (p : κ × V) (q : κ × Value) => p.1 = q.1 ∧ RelV p.2 q.2
noncomputable def kV : Key → V
  | .inl i => .int i
  | .inr x => .str x
inductive HO where
  | lst (xs : List V)
  | tup (xs : List V)
  | dK (kvs : List (Key × V)) | dT (kvs : List (List Key × V))
  | set (S : Int → Bool) (n : Nat)
  | ins (C dx : Addr) (fs : List (Str × V))
  | own (x : Addr)
  | xd (fs : List (Str × V))
  | met (f x : Addr)
  | rng (lo hi : Int)
  | frz (o : Obj) (u : HO)
  | tbl (ps : Array Value)
  | ext (φ : Heap → Prop)
noncomputable abbrev Hp := Addr → Option HO
noncomputable def upd (H : Hp) (a : Addr) (o : HO) : Hp := fun b => if b = a then some o else H b
theorem upd_same {H : Hp} {a : Addr} {o : HO} : upd H a o a = some o := by unfold upd; rw [if_pos rfl]
theorem upd_ne {H : Hp} {a b : Addr} {o : HO} (h : b ≠ a) : upd H a o b = H b := by unfold upd; rw [if_neg h]
theorem upd_upd {H : Hp} {a : Addr} {o u : HO} : upd (upd H a o) a u = upd H a u := by
  funext b; unfold upd; split <;> rfl
theorem ne_of_none {H : Hp} {a b : Addr} {o : HO} (h : H a = some o) (h' : H b = none) : a ≠ b := by
  intro e; subst e; rw [h] at h'; cases h'
section
variable (P : Program) (w : World)
noncomputable def ObjOk (H : Hp) (h : Heap) (a : Addr) : HO → Prop
  | .lst xs => xs.length ≤ sizeLine ∧ ∃ (its : List Value) (n : Nat), Vals xs its ∧ h.get? a = some { cls := .type "list", data := .seq its.toArray n }
  | .tup xs => xs.length ≤ sizeLine ∧ ∃ its : List Value, Vals xs its ∧ IsTup h a its.toArray
  | .dK kvs => kvs.length ≤ sizeLine ∧ (a == sysModules) = false ∧ ∃ vs, KV kvs vs ∧ h.DictOf (mixKind P w) a vs
  | .dT kvs => kvs.length ≤ sizeLine ∧ (a == sysModules) = false ∧ ∃ xs : List (List Key × Addr × Value),
      Paired (fun (p : List Key × V) (q : List Key × Addr × Value) => p.1 = q.1 ∧ H q.2.1 = some (.tup (p.1.map kV)) ∧ RelV p.2 q.2.2) kvs xs ∧
      ∃ o es ep, h.get? a = some o ∧ o.ExactDict ∧ o.data = .dict es ep ∧ es.toList = xs.map (entryOfKey (tupleKind (mixKind P w))) ∧ (xs.map (·.1)).Nodup
  | .set S n => h.SetOf (intKind P w) a S n
  | .ins C dx fs => H dx = some (.own a) ∧ fs.length ≤ 1000 ∧ dx ≠ a ∧ h.get? a = some (PySem.W.instObj C dx) ∧
      ∃ mA, h.Ns1 dx mA ∧ (∀ f, RelO (fs.lookup f) (mA f)) ∧ PySem.Within mA (fs.map (·.1))
  | .own _ => ∃ o, h.get? a = some o
  | .xd fs => ∃ mA, h.Ns1 a mA ∧ ∀ f, RelO (fs.lookup f) (mA f)
  | .rng lo hi => ∃ t u v, h.get? a = some { cls := .type "range", data := .fields #[.int lo t, .int hi u, .int 1 v] }
  | .frz o u => h.get? a = some o ∧ ObjOk H h a u
  | .tbl ps => h.get? a = some { cls := .none, data := .fields ps }
  | .met f x => h.get? a = some (PySem.W.methodObj (.ref f) (.ref x))
  | .ext φ => φ h ∧ (∃ o, h.get? a = some o) ∧ ∀ h1 h2 : Heap, φ h1 → (∀ o, h1.get? a = some o → h2.get? a = some o) → φ h2
noncomputable def HOk (H : Hp) (h : Heap) : Prop := ∀ a o, H a = some o → ObjOk P w H h a o
end
section
variable {P : Program} {w : World} {H H' : Hp} {h h' : Heap} {a : Addr} {o : HO}
theorem ObjOk.lt (x : ObjOk P w H h a o) : a < h.objs.size := by
  cases o with
  | lst xs => obtain ⟨_, _, _, _, e⟩ := x; exact Heap.lt_size e
  | tup xs => obtain ⟨_, _, _, p⟩ := x; exact p.lt
  | dK kvs => obtain ⟨_, _, _, _, o, _, _, e, _⟩ := x; exact Heap.lt_size e
  | dT kvs => obtain ⟨_, _, _, _, o, _, _, e, _⟩ := x; exact Heap.lt_size e
  | set S n => obtain ⟨o, _, _, _, e, _⟩ := x; exact Heap.lt_size e
  | ins C dx fs => obtain ⟨_, _, _, e, _⟩ := x; exact Heap.lt_size e
  | own y => obtain ⟨_, e⟩ := x; exact Heap.lt_size e
  | xd fs => obtain ⟨_, ⟨_, _, _, e, _⟩, _⟩ := x; exact Heap.lt_size e
  | rng lo hi => obtain ⟨_, _, _, e⟩ := x; exact Heap.lt_size e
  | frz ob u => obtain ⟨e, _⟩ := x; exact Heap.lt_size e
  | tbl ps => exact Heap.lt_size (show h.get? a = some _ from x)
  | met f y => exact Heap.lt_size (show h.get? a = some _ from x)
  | ext φ => obtain ⟨_, ⟨_, e⟩, _⟩ := x; exact Heap.lt_size e
theorem Paired.mapP {α β : Type} {F G : α → β → Prop} : ∀ {l₁ : List α} {l₂ : List β}, Paired F l₁ l₂ → (∀ a b, F a b → G a b) → Paired G l₁ l₂
  | _, _, .nil, _ => .nil
  | _, _, .cons r t, f => .cons (f _ _ r) (Paired.mapP t f)
theorem ObjOk.stay (x : ObjOk P w H h a o) (k : ∀ b u, (b = a ∨ H b = some (.own a)) → h.get? b = some u → h'.get? b = some u)
    (ho : ∀ b, H b = some (.own a) → H' b = some (.own a)) (ht : ∀ b xs, H b = some (.tup xs) → H' b = some (.tup xs)) : ObjOk P w H' h' a o := by
  induction o with
  | lst xs => obtain ⟨z, its, n, r, e⟩ := x; exact ⟨z, its, n, r, k _ _ (.inl rfl) e⟩
  | tup xs => obtain ⟨z, its, r, ob, e, c⟩ := x; exact ⟨z, its, r, ob, k _ _ (.inl rfl) e, c⟩
  | dK kvs => obtain ⟨z, y, vs, r, ob, es, ep, e, c⟩ := x; exact ⟨z, y, vs, r, ob, es, ep, k _ _ (.inl rfl) e, c⟩
  | dT kvs =>
    obtain ⟨z, y, xs, r, ob, es, ep, e, c⟩ := x
    exact ⟨z, y, xs, Paired.mapP r fun p q z => ⟨z.1, ht _ _ z.2.1, z.2.2⟩, ob, es, ep, k _ _ (.inl rfl) e, c⟩
  | set S n => obtain ⟨ob, es, ep, t, e, c⟩ := x; exact ⟨ob, es, ep, t, k _ _ (.inl rfl) e, c⟩
  | ins C dx fs =>
    obtain ⟨d, z, ne, e, mA, ⟨od, es, ep, e2, c⟩, r⟩ := x
    exact ⟨ho _ d, z, ne, k _ _ (.inl rfl) e, mA, ⟨od, es, ep, k _ _ (.inr d) e2, c⟩, r⟩
  | own y => obtain ⟨ob, e⟩ := x; exact ⟨ob, k _ _ (.inl rfl) e⟩
  | xd fs => obtain ⟨mA, ⟨od, es, ep, e, c⟩, r⟩ := x; exact ⟨mA, ⟨od, es, ep, k _ _ (.inl rfl) e, c⟩, r⟩
  | rng lo hi => obtain ⟨t, u, v, e⟩ := x; exact ⟨t, u, v, k _ _ (.inl rfl) e⟩
  | frz ob u ih => obtain ⟨e, q⟩ := x; exact ⟨k _ _ (.inl rfl) e, ih q⟩
  | tbl ps =>
    have e : h.get? a = some { cls := .none, data := .fields ps } := x
    show h'.get? a = some { cls := .none, data := .fields ps }
    exact k a _ (.inl rfl) e
  | met f y =>
    have e : h.get? a = some (PySem.W.methodObj (.ref f) (.ref y)) := x
    show h'.get? a = some (PySem.W.methodObj (.ref f) (.ref y))
    exact k a _ (.inl rfl) e
  | ext φ => obtain ⟨p, ⟨o, e⟩, st⟩ := x; exact ⟨st _ _ p fun o q => k _ _ (.inl rfl) q, ⟨o, k _ _ (.inl rfl) e⟩, st⟩
theorem HOk.lt (x : HOk P w H h) (e : H a = some o) : a < h.objs.size := (x a o e).lt
theorem HOk.fresh (x : HOk P w H h) (e : h.objs.size ≤ a) : H a = none := by
  cases q : H a with
  | none => rfl
  | some u => exact absurd (Nat.lt_of_lt_of_le (x.lt q) e) (Nat.lt_irrefl _)
theorem HOk.kept (x : HOk P w H h) (k : ∀ b u, h.get? b = some u → h'.get? b = some u) : HOk P w H h' := fun a o e =>
  (x a o e).stay (fun b u _ q => k b u q) (fun _ q => q) fun _ _ q => q
theorem HOk.laid (x : HOk P w H h) (k : ∀ b u, h.get? b = some u → h'.get? b = some u) (hp : h.objs.size ≤ a) (new : ObjOk P w (upd H a o) h' a o) : HOk P w (upd H a o) h' := fun b u e => by
  have hn := x.fresh hp
  by_cases hb : b = a
  · subst hb; rw [upd_same] at e; cases e; exact new
  · rw [upd_ne hb] at e
    exact (x b u e).stay (fun c v _ q => k c v q) (fun c q => by rw [upd_ne (ne_of_none q hn)]; exact q) fun c xs q => by rw [upd_ne (ne_of_none q hn)]; exact q
end
noncomputable def Rd (H : Hp) (a : Addr) (u : HO) : Prop := H a = some u ∨ ∃ o, H a = some (.frz o u)
theorem Rd.ok {P : Program} {w : World} {H : Hp} {h : Heap} {a : Addr} {u : HO} (r : Rd H a u) (x : HOk P w H h) : ObjOk P w H h a u := by
  rcases r with r | ⟨o, r⟩
  · exact x a u r
  · obtain ⟨_, q⟩ := x a _ r
    exact q
noncomputable def Mut : Option HO → Prop
  | some (.lst _) => True
  | some (.dK _) => True
  | some (.dT _) => True
  | some (.set _ _) => True
  | some (.ins _ _ _) => True
  | some (.ext _) => True
  | _ => False
section
variable {P : Program} {w : World} {H : Hp} {h h' : Heap} {x e : Addr} {o' : HO}
theorem HOk.write (ok : HOk P w H h) (mu : Mut (H x)) (he : e = x ∨ H e = some (.own x)) (k : ∀ b u, b ≠ e → h.get? b = some u → h'.get? b = some u) (heo : ∃ u, h'.get? e = some u)
    (new : ObjOk P w (upd H x o') h' x o') : HOk P w (upd H x o') h' := fun b u q => by
  have nown : ∀ c y, H c = some (.own y) → c ≠ x := fun c y r z => by subst z; rw [r] at mu; exact mu
  have ntup : ∀ c xs, H c = some (.tup xs) → c ≠ x := fun c xs r z => by subst z; rw [r] at mu; exact mu
  by_cases hb : b = x
  · subst hb; rw [upd_same] at q; cases q; exact new
  · rw [upd_ne hb] at q
    by_cases hbe : b = e
    · have q' : H b = some (.own x) := by
        rcases he with z | z
        · exact absurd (hbe.trans z) hb
        · rw [hbe]; exact z
      rw [q] at q'; cases q'
      obtain ⟨v, hv⟩ := heo
      exact ⟨v, by rw [hbe]; exact hv⟩
    · refine (ok b u q).stay (fun c v hc r => k c v ?_ r) (fun c r => by rw [upd_ne (nown c b r)]; exact r) fun c xs r => by rw [upd_ne (ntup c xs r)]; exact r
      rcases hc with rfl | hc
      · exact hbe
      · rintro rfl
        rcases he with z | z
        · exact nown c b hc z
        · rw [hc] at z; cases z; exact hb rfl
end
structure Un (fs ex : List Addr) (H H' : Hp) (h h' : Heap) : Prop where
  keep : ∀ b o, h.get? b = some o → H b = none → b ∉ fs → b ∉ ex → h'.get? b = some o
  slot : ∀ b o, h.get? b = some o → H b = none → b ∈ fs → b ∉ ex → ∃ sl, h'.get? b = some { o with slots := sl }
  free : ∀ b o, h.get? b = some o → H b = none → b ∉ ex → H' b = none
  there : ∀ b o, h.get? b = some o → b ∉ ex → ∃ o', h'.get? b = some o'
  tups : ∀ b xs, H b = some (.tup xs) → H' b = some (.tup xs)
  frzs : ∀ b o u, H b = some (.frz o u) → H' b = some (.frz o u)
  tbls : ∀ b ps, H b = some (.tbl ps) → ∃ more, H' b = some (.tbl (ps ++ more))
section
variable {fs fs' ex ex' : List Addr} {H H1 H2 : Hp} {h h1 h2 h' : Heap} {a x e : Addr} {o : HO}
theorem Un.any (u : Un fs ex H H1 h h1) {b : Addr} {ob : Obj} (q : h.get? b = some ob) (n : H b = none) (hx : b ∉ ex) : ∃ sl, h1.get? b = some { ob with slots := sl } := by
  by_cases hb : b ∈ fs
  · exact u.slot b ob q n hb hx
  · exact ⟨ob.slots, u.keep b ob q n hb hx⟩
theorem Un.kept (k : ∀ b u, h.get? b = some u → h'.get? b = some u) : Un fs ex H H h h' :=
  ⟨fun b ob q _ _ _ => k b ob q, fun b ob q _ _ _ => ⟨ob.slots, k b ob q⟩, fun _ _ _ n _ => n, fun b ob q _ => ⟨ob, k b ob q⟩, fun _ _ q => q, fun _ _ _ q => q, fun _ ps q => ⟨#[], by rw [q]; simp⟩⟩
theorem Un.refl : Un fs ex H H h h := Un.kept fun _ _ q => q
theorem Un.laid (k : ∀ b u, h.get? b = some u → h'.get? b = some u) (hp : h.objs.size ≤ a) (hn : H a = none) : Un fs ex H (upd H a o) h h' where
  keep := fun b u q _ _ _ => k b u q
  slot := fun b u q _ _ _ => ⟨u.slots, k b u q⟩
  free := fun b u q n _ => by rw [upd_ne (Nat.ne_of_lt (Nat.lt_of_lt_of_le (Heap.lt_size q) hp))]; exact n
  there := fun b u q _ => ⟨u, k b u q⟩
  tups := fun b xs q => by rw [upd_ne (ne_of_none q hn)]; exact q
  frzs := fun b u xs q => by rw [upd_ne (ne_of_none q hn)]; exact q
  tbls := fun b ps q => ⟨#[], by rw [upd_ne (ne_of_none q hn), q]; simp⟩
theorem Un.write (mu : Mut (H x)) (he : e = x ∨ H e = some (.own x)) (k : ∀ b u, b ≠ e → h.get? b = some u → h'.get? b = some u) (heo : ∃ u, h'.get? e = some u) : Un fs ex H (upd H x o) h h' := by
  have hx : ∀ b, H b = none → b ≠ x := fun b n z => by subst z; rw [n] at mu; exact mu
  have hb : ∀ b, H b = none → b ≠ e := fun b n z => by
    subst z
    rcases he with r | r
    · exact hx b n r
    · rw [n] at r; cases r
  have hm : ∀ b u, H b = some u → ¬ Mut (some u) → b ≠ x := fun b u q nm z => by subst z; rw [q] at mu; exact nm mu
  refine ⟨fun b u q n _ _ => k b u (hb b n) q, fun b u q n _ _ => ⟨u.slots, k b u (hb b n) q⟩, fun b u q n _ => by rw [upd_ne (hx b n)]; exact n, fun b u q _ => ?_,
    fun b xs q => by rw [upd_ne (hm b _ q fun z => z)]; exact q, fun b u xs q => by rw [upd_ne (hm b _ q fun z => z)]; exact q, fun b ps q => ⟨#[], by rw [upd_ne (hm b _ q fun z => z), q]; simp⟩⟩
  by_cases hbe : b = e
  · subst hbe; exact heo
  · exact ⟨u, k b u hbe q⟩
end
noncomputable def trk (h : Heap) (H : Hp) : List Addr := (List.range h.objs.size).filter fun a => (H a).isSome
noncomputable def hidT (h : Heap) (H : Hp) : Heap := PySem.W.hideAll h (trk h H)
theorem hidT_size (h : Heap) (H : Hp) : (hidT h H).objs.size = h.objs.size := PySem.W.hideAll_size _ _
theorem hidT_get {h : Heap} {H : Hp} {b : Addr} {o : Obj} (e : h.get? b = some o) (n : H b = none) : (hidT h H).get? b = some o :=
  PySem.W.hideAll_get _ e fun hm => by
    have q : (H b).isSome = true := (List.mem_filter.mp hm).2
    rw [n] at q; simp at q
theorem of_hidT {h : Heap} {H : Hp} {b : Addr} {o : Obj} (e : (hidT h H).get? b = some o) : h.get? b = some o ∧ H b = none := by
  have e' : h.get? b = some o := PySem.W.of_hideAll (trk h H) e
  refine ⟨e', ?_⟩
  cases q : H b with
  | none => rfl
  | some x =>
    have hm : b ∈ trk h H := List.mem_filter.mpr ⟨List.mem_range.mpr (Heap.lt_size e'), by simp [q]⟩
    have z : (hidT h H).get? b = none := PySem.W.hideAll_none (trk h H) hm
    rw [z] at e; cases e
noncomputable def allNews (g h : Heap) (L : Addr) : List (Addr × Obj) := (List.range h.objs.size).filterMap fun a => if a = L ∨ (g.get? a).isSome = true then none else (h.get? a).map fun o => (a, o)
noncomputable def rest (g h : Heap) (L d : Addr) : List (Addr × Obj) := (allNews g h L).filter fun p => decide (p.1 ≠ d)
end L2
namespace L2
open PySem PySem.Spec PyProof.Rows
structure Mod (K : PySem.W.Frag) (mg : Str → Option Value) (base : Heap) : Prop where
  kin : K.In base
  glob : base.Ns mainGlobals mg
  blt : ∃ mb, base.Ns builtinsNs mb ∧ ∀ x : Str, x ≠ "__name__" → mb x = bootBuiltins x
  nolimit : base.NoLimit
structure Cx where
  prog : Program
  w : World
  K : PySem.W.Frag
  mg : Str → Option Value
  base : Heap
  A : Around
  N : List Str
  s₀ : Shared
  H₀ : Hp
  env : Env
  outer : List Env
  stack : List Env
  ex : List Addr
  fn : Str → Bool
  calm : Bool
  pn : List (Addr × Obj)
  xe : Value → Shared → Prop
noncomputable def frs (l : List Env) : List Addr := l.filterMap (·.frame)
noncomputable abbrev Cx.fs (X : Cx) : List Addr := frs X.outer
noncomputable def Vis (sc : Scope) (x : Str) : Prop := sc.names.lookup x = some .local ∨ sc.names.lookup x = some .cell ∨ sc.names.lookup x = some .free
noncomputable def Loc (sc : Scope) (x : Str) : Prop := sc.names.lookup x = some .local ∨ sc.names.lookup x = some .cell
noncomputable def Look (env : Env) (h : Heap) (m : Str → Option Value) (x : Str) (u : Value) : Prop :=
  (env.kindOf x = some .local ∧ m x = some u) ∨ ((env.kindOf x = some .cell ∨ env.kindOf x = some .free) ∧ ∃ c, env.cells.lookup x = some c ∧ h.IsCell c (some u))
structure Cx.Ok (X : Cx) : Prop where
  mod : Mod X.K X.mg X.base
  kind : X.env.scope.kind = .function
  glob : X.env.globals = mainGlobals
  blt : X.env.builtins = builtinsNs
  above : X.s₀.heap.objs.size ≤ X.env.locals
  inj : ∀ x y c, X.env.cells.lookup x = some c → X.env.cells.lookup y = some c → x = y
  has : ∀ x, (X.env.kindOf x = some .cell ∨ X.env.kindOf x = some .free) → ∃ c, X.env.cells.lookup x = some c
  cab : ∀ x c, X.fn x = true → X.env.cells.lookup x = some c → X.s₀.heap.objs.size ≤ c
  hd : X.calm = true → X.A.handled = none
  frames : X.A.frames = some X.stack
  stk : X.stack = X.outer ∨ (X.stack = X.env :: X.outer ∧ X.env.frame = some X.env.locals)
  exf : ∀ b ∈ X.ex, b ≠ X.env.locals ∧ ∀ x c, X.env.cells.lookup x = some c → c ≠ b
  bs : ∀ b o, X.base.get? b = some o → X.s₀.heap.get? b = some o ∧ X.H₀ b = none
  bsz : X.base.objs.size ≤ X.s₀.heap.objs.size
  noex : ∀ b o, X.base.get? b = some o → b ∉ X.ex
  exfs : ∀ b ∈ X.ex, b ∉ X.fs
  funs : X.s₀.heap.FunFrames X.base X.outer
  frf : ∀ b ∈ X.fs, X.H₀ b = none
structure Inv (X : Cx) (pins : List (Addr × Obj)) (σ : List (Option V)) (H : Hp) (s : Shared) : Prop where
  ok : X.Ok
  os : s.os = X.s₀.os
  bare : AllBare s.gens
  base : Un X.fs X.ex X.H₀ H X.s₀.heap s.heap
  loc : ∃ m, s.heap.Ns X.env.locals m ∧ ∀ (i : Nat) (x : Str) (v : V), X.N[i]? = some x → σ[i]? = some (some v) → Vis X.env.scope x → ∃ u, RelV v u ∧ Look X.env s.heap m x u
  cell : ∀ x c, X.env.cells.lookup x = some c → ∃ v, s.heap.IsCell c v
  free : H X.env.locals = none
  freeC : ∀ x c, X.env.cells.lookup x = some c → H c = none
  pin : ∀ p ∈ X.pn ++ pins, s.heap.get? p.1 = some p.2 ∧ H p.1 = none ∧ p.1 ≠ X.env.locals ∧ p.1 ∉ X.fs ∧ ∀ v, p.2.data ≠ .cell v
  hok : HOk X.prog X.w H s.heap
  len : σ.length = X.N.length
section
variable {X : Cx} {pins : List (Addr × Obj)} {σ : List (Option V)} {H H' : Hp} {s : Shared} {h' : Heap}
theorem Cx.Ok.nofr (ok : X.Ok) {b : Addr} {o : Obj} (e : X.base.get? b = some o) : b ∉ X.fs := fun hb => by
  have := (ok.funs.mem hb).1
  rw [e] at this; cases this
theorem Inv.bs (I : Inv X pins σ H s) : ∀ b o, X.base.get? b = some o → s.heap.get? b = some o ∧ H b = none := fun b o e =>
  ⟨I.base.keep b o (I.ok.bs b o e).1 (I.ok.bs b o e).2 (I.ok.nofr e) (I.ok.noex b o e), I.base.free b o (I.ok.bs b o e).1 (I.ok.bs b o e).2 (I.ok.noex b o e)⟩
theorem Inv.bk (I : Inv X pins σ H s) : ∀ b o, X.base.get? b = some o → s.heap.get? b = some o := fun b o e => (I.bs b o e).1
theorem Inv.mod (I : Inv X pins σ H s) : Mod X.K X.mg X.base := I.ok.mod
theorem Inv.kIn (I : Inv X pins σ H s) : X.K.In s.heap := I.ok.mod.kin.keeps I.bk
theorem Inv.fr (I : Inv X pins σ H s) : ∃ m, Fr X.base X.env.locals s.heap m :=
  let ⟨m, hn, _⟩ := I.loc
  ⟨m, hn, I.bk, Nat.le_trans I.ok.bsz I.ok.above⟩
theorem Inv.lt (I : Inv X pins σ H s) : X.env.locals < s.heap.objs.size := let ⟨_, hn, _⟩ := I.loc; hn.lt
theorem Inv.sz (I : Inv X pins σ H s) : X.s₀.heap.objs.size ≤ s.heap.objs.size := Nat.le_trans I.ok.above (Nat.le_of_lt I.lt)
theorem Inv.nofs (I : Inv X pins σ H s) {a : Addr} (h : s.heap.objs.size ≤ a) : a ∉ X.fs := fun hb => by
  obtain ⟨_, o, ho, _⟩ := I.ok.funs.mem hb
  exact absurd (Nat.lt_of_lt_of_le (Heap.lt_size ho) (Nat.le_trans I.sz h)) (Nat.lt_irrefl _)
theorem Inv.cne (I : Inv X pins σ H s) : ∀ x c, X.env.cells.lookup x = some c → c ≠ X.env.locals := fun x c e z => by
  obtain ⟨v, o, ho, hd⟩ := I.cell x c e
  obtain ⟨m, ⟨o', es, ep, ho', hd', _⟩, _⟩ := I.loc
  rw [z, ho'] at ho; cases ho; rw [hd'] at hd; cases hd
theorem Inv.funs (I : Inv X pins σ H s) : s.heap.FunFrames X.base X.outer := by
  have all : ∀ (l : List Env), (∀ b ∈ frs l, b ∈ X.fs) → X.s₀.heap.FunFrames X.base l → s.heap.FunFrames X.base l := by
    intro l
    induction l with
    | nil => intro _ _; trivial
    | cons env r ih =>
      intro hs hl
      obtain ⟨hk, ⟨L, o, hf, hn, ho, hd⟩, hr⟩ := hl
      have hL : L ∈ X.fs := hs L (by unfold frs; rw [List.filterMap_cons, hf]; exact List.mem_cons_self)
      obtain ⟨sl, e⟩ := I.base.slot L o ho (I.ok.frf L hL) hL fun z => I.ok.exfs L z hL
      exact ⟨hk, ⟨L, _, hf, hn, e, hd⟩, ih (fun b hb => hs b (by unfold frs; rw [List.filterMap_cons, hf]; exact List.mem_cons_of_mem _ hb)) hr⟩
  exact all X.outer (fun _ hb => hb) I.ok.funs
theorem Inv.stack (I : Inv X pins σ H s) : s.heap.FunFrames X.base X.stack := by
  rcases I.ok.stk with e | ⟨e, hf⟩
  · rw [e]; exact I.funs
  · rw [e]
    obtain ⟨m, hn, _⟩ := I.loc
    refine .cons (by rw [I.ok.kind]; decide) hf hn ?_ I.funs
    exact Heap.get?_none_of_le (Nat.le_trans I.ok.bsz I.ok.above)
theorem Inv.stkSub (I : Inv X pins σ H s) : ∀ b ∈ frs X.stack, b ∈ X.env.locals :: X.fs := fun b hb => by
  rcases I.ok.stk with e | ⟨e, hf⟩
  · rw [e] at hb; exact List.mem_cons_of_mem _ hb
  · rw [e] at hb
    unfold frs at hb
    rw [List.filterMap_cons, hf] at hb
    exact hb
theorem Inv.stkFree (I : Inv X pins σ H s) : ∀ b ∈ frs X.stack, H b = none := fun b hb => by
  rcases List.mem_cons.mp (I.stkSub b hb) with e | hb
  · rw [e]; exact I.free
  · obtain ⟨_, o, ho, _⟩ := I.ok.funs.mem hb
    exact I.base.free b o ho (I.ok.frf b hb) fun z => I.ok.exfs b z hb
theorem Inv.step {g' : Array GenState} {t' : Nat} {d' : Drawn} {ch : List Addr} (I : Inv X pins σ H s)
    (hch : ∀ b ∈ ch, (b ∈ X.ex ∨ X.s₀.heap.objs.size ≤ b) ∧ b ≠ X.env.locals ∧ (∀ x c, X.env.cells.lookup x = some c → c ≠ b) ∧ ∀ p ∈ X.pn ++ pins, p.1 ≠ b)
    (keep : ∀ b o, b ≠ X.env.locals → b ∉ X.fs → b ∉ ch → s.heap.get? b = some o → H b = none → h'.get? b = some o)
    (slot : ∀ b o, b ≠ X.env.locals → b ∈ X.fs → b ∉ ch → s.heap.get? b = some o → H b = none → ∃ sl, h'.get? b = some { o with slots := sl }) (free : ∀ b o, b ∉ ch → s.heap.get? b = some o → H b = none → H' b = none)
    (there : ∀ b o, b ∉ ch → s.heap.get? b = some o → ∃ o', h'.get? b = some o')
    (tups : ∀ b xs, H b = some (.tup xs) → H' b = some (.tup xs)) (frzs : ∀ b o u, H b = some (.frz o u) → H' b = some (.frz o u)) (tbls : ∀ b ps, H b = some (.tbl ps) → ∃ more, H' b = some (.tbl (ps ++ more)))
    (ns : ∀ m, s.heap.Ns X.env.locals m → h'.Ns X.env.locals m) (hok : HOk X.prog X.w H' h') (hg : AllBare g') :
    Inv X pins σ H' { s with heap := h', gens := g', drawn := d', toks := t' } := by
  have neL : ∀ b o, X.s₀.heap.get? b = some o → b ≠ X.env.locals := fun b o e => Nat.ne_of_lt (Nat.lt_of_lt_of_le (Heap.lt_size e) I.ok.above)
  have neC : ∀ b o, X.s₀.heap.get? b = some o → b ∉ X.ex → b ∉ ch := fun b o e hx hb => by
    rcases (hch b hb).1 with z | z
    · exact hx z
    · exact absurd (Nat.lt_of_lt_of_le (Heap.lt_size e) z) (Nat.lt_irrefl _)
  have cellK : ∀ x c, X.env.cells.lookup x = some c → ∀ v, s.heap.IsCell c v → h'.IsCell c v := fun x c e v ⟨o, ho, hd⟩ => by
    have nch : c ∉ ch := fun z => (hch c z).2.2.1 x c e rfl
    by_cases hc : c ∈ X.fs
    · obtain ⟨sl, q⟩ := slot c o (I.cne x c e) hc nch ho (I.freeC x c e)
      exact ⟨_, q, hd⟩
    · exact ⟨o, keep c o (I.cne x c e) hc nch ho (I.freeC x c e), hd⟩
  refine ⟨I.ok, I.os, hg, ⟨fun b o e n hb hx => ?_, fun b o e n hb hx => ?_, fun b o e n hx => ?_, fun b o e hx => ?_, fun b xs e => tups b xs (I.base.tups b xs e), fun b o xs e => frzs b o xs (I.base.frzs b o xs e), fun b ps e => ?_⟩, ?_, fun x c e => ?_, ?_, fun x c e => ?_, fun p hp => ?_, hok, I.len⟩
  · exact keep b o (neL b o e) hb (neC b o e hx) (I.base.keep b o e n hb hx) (I.base.free b o e n hx)
  · obtain ⟨sl, e1⟩ := I.base.slot b o e n hb hx
    obtain ⟨sl', e2⟩ := slot b _ (neL b o e) hb (neC b o e hx) e1 (I.base.free b o e n hx)
    exact ⟨sl', e2⟩
  · obtain ⟨o', e1⟩ := I.base.there b o e hx
    exact free b o' (neC b o e hx) e1 (I.base.free b o e n hx)
  · obtain ⟨o', e1⟩ := I.base.there b o e hx
    exact there b o' (neC b o e hx) e1
  · obtain ⟨m1, e1⟩ := I.base.tbls b ps e
    obtain ⟨m2, e2⟩ := tbls b _ e1
    exact ⟨m1 ++ m2, by rw [e2, Array.append_assoc]⟩
  · obtain ⟨m, hn, hl⟩ := I.loc
    refine ⟨m, ns m hn, fun i x v e1 e2 e3 => ?_⟩
    obtain ⟨u, r, l⟩ := hl i x v e1 e2 e3
    refine ⟨u, r, ?_⟩
    rcases l with l | ⟨k, c, e, z⟩
    · exact .inl l
    · exact .inr ⟨k, c, e, cellK x c e _ z⟩
  · obtain ⟨v, z⟩ := I.cell x c e
    exact ⟨v, cellK x c e v z⟩
  · obtain ⟨m, ⟨o, _, _, ho, _⟩, _⟩ := I.loc
    exact free _ o (fun z => (hch _ z).2.1 rfl) ho I.free
  · obtain ⟨v, o, ho, hd⟩ := I.cell x c e
    exact free c o (fun z => (hch c z).2.2.1 x c e rfl) ho (I.freeC x c e)
  · obtain ⟨e, n, ne, nf, d⟩ := I.pin p hp
    have nch : p.1 ∉ ch := fun z => (hch p.1 z).2.2.2 p hp rfl
    exact ⟨keep p.1 p.2 ne nf nch e n, free p.1 p.2 nch e n, ne, nf, d⟩
theorem Inv.un {t' : Nat} (I : Inv X pins σ H s) (u : Un X.fs [] H H' s.heap h') (hok : HOk X.prog X.w H' h') : Inv X pins σ H' { s with heap := h', toks := t' } := by
  obtain ⟨m, ⟨o, es, ep, ho, r⟩, _⟩ := id I.loc
  obtain ⟨sl, hL⟩ := u.any ho I.free (by simp)
  exact I.step (g' := s.gens) (d' := s.drawn) (ch := []) (fun _ z => nomatch z) (fun b o _ hb _ e n => u.keep b o e n hb (by simp)) (fun b o _ hb _ e n => u.slot b o e n hb (by simp)) (fun b o _ e n => u.free b o e n (by simp)) (fun b o _ e => u.there b o e (by simp)) u.tups u.frzs u.tbls (fun m' hm => by
    obtain ⟨o', es', ep', ho', r'⟩ := hm
    rw [ho] at ho'; cases ho'
    exact ⟨_, es', ep', hL, r'⟩) hok I.bare
theorem Inv.call {g' : Array GenState} {t' : Nat} {d' : Drawn} {ch : List Addr} (I : Inv X pins σ H s) (u : Un (frs X.stack) ch H H' s.heap h') (hok : HOk X.prog X.w H' h') (hg : AllBare g')
    (hch : ∀ b ∈ ch, (b ∈ X.ex ∨ X.s₀.heap.objs.size ≤ b) ∧ b ≠ X.env.locals ∧ (∀ x c, X.env.cells.lookup x = some c → c ≠ b) ∧ ∀ p ∈ X.pn ++ pins, p.1 ≠ b) :
    Inv X pins σ H' { s with heap := h', gens := g', drawn := d', toks := t' } := by
  obtain ⟨m, ⟨o, es, ep, ho, r⟩, _⟩ := id I.loc
  obtain ⟨sl, hL⟩ := u.any ho I.free fun z => (hch _ z).2.1 rfl
  exact I.step (ch := ch) hch (fun b o hL hb hc e n => u.keep b o e n (fun z => (List.mem_cons.mp (I.stkSub b z)).elim hL hb) hc) (fun b o _ _ hc e n => u.any e n hc) (fun b o hc e n => u.free b o e n hc) (fun b o hc e => u.there b o e hc) u.tups u.frzs u.tbls (fun m' hm => by
    obtain ⟨o', es', ep', ho', r'⟩ := hm
    rw [ho] at ho'; cases ho'
    exact ⟨_, es', ep', hL, r'⟩) hok hg
theorem Inv.turned {t' : Nat} {it : Addr} (I : Inv X pins σ H s) (k : ∀ b o, b ≠ it → s.heap.get? b = some o → h'.get? b = some o) (hn : H it = none) (hL : it ≠ X.env.locals)
    (h1 : it ∈ X.ex ∨ X.s₀.heap.objs.size ≤ it) (h2 : ∀ x c, X.env.cells.lookup x = some c → c ≠ it) (h3 : ∀ p ∈ X.pn ++ pins, p.1 ≠ it) : Inv X pins σ H { s with heap := h', toks := t' } := by
  have nit : ∀ b u, H b = some u → b ≠ it := fun b u e z => by rw [z, hn] at e; cases e
  refine I.step (g' := s.gens) (d' := s.drawn) (ch := [it]) (fun b hb => ?_) (fun b o _ _ hc e _ => k b o (fun z => hc (by simp [z])) e) (fun b o _ _ hc e _ => ⟨o.slots, k b o (fun z => hc (by simp [z])) e⟩) (fun _ _ _ _ n => n)
    (fun b o hc e => ⟨o, k b o (fun z => hc (by simp [z])) e⟩) (fun _ _ e => e) (fun _ _ _ e => e) (fun b ps e => ⟨#[], by rw [e]; simp⟩) (fun m hm => ?_) (fun b u e => ?_) I.bare
  · have e : b = it := by simpa using hb
    subst e
    exact ⟨h1, hL, h2, h3⟩
  · obtain ⟨o, es, ep, ho, r⟩ := hm
    exact ⟨o, es, ep, k _ o (Ne.symm hL) ho, r⟩
  · refine (I.hok b u e).stay (fun c v hc q => k c v ?_ q) (fun _ q => q) fun _ _ q => q
    rcases hc with z | z
    · rw [z]; exact nit b u e
    · exact nit c _ z
theorem Inv.tok (I : Inv X pins σ H s) (t : Nat) : Inv X pins σ H { s with toks := t } := I.un (h' := s.heap) (t' := t) Un.refl I.hok
theorem Inv.kept {t' : Nat} (I : Inv X pins σ H s) (k : ∀ b u, s.heap.get? b = some u → h'.get? b = some u) : Inv X pins σ H { s with heap := h', toks := t' } := I.un (Un.kept k) (I.hok.kept k)
theorem Inv.laid {a : Addr} {o : HO} {t' : Nat} (I : Inv X pins σ H s) (k : ∀ b u, s.heap.get? b = some u → h'.get? b = some u) (hp : s.heap.objs.size ≤ a) (new : ObjOk X.prog X.w (upd H a o) h' a o) :
    Inv X pins σ (upd H a o) { s with heap := h', toks := t' } := I.un (Un.laid k hp (I.hok.fresh hp)) (I.hok.laid k hp new)
theorem Inv.write {x e : Addr} {o : HO} {t' : Nat} (I : Inv X pins σ H s) (mu : Mut (H x)) (he : e = x ∨ H e = some (.own x)) (k : ∀ b u, b ≠ e → s.heap.get? b = some u → h'.get? b = some u) (heo : ∃ u, h'.get? e = some u)
    (new : ObjOk X.prog X.w (upd H x o) h' x o) : Inv X pins σ (upd H x o) { s with heap := h', toks := t' } := I.un (Un.write mu he k heo) (I.hok.write mu he k heo new)
theorem Inv.weak {σ' : List (Option V)} (I : Inv X pins σ H s) (hl : σ'.length = σ.length) (w : ∀ (i : Nat) v, σ'[i]? = some (some v) → σ[i]? = some (some v)) : Inv X pins σ' H s :=
  ⟨I.ok, I.os, I.bare, I.base, let ⟨m, hn, hl'⟩ := I.loc; ⟨m, hn, fun i x v e1 e2 e3 => hl' i x v e1 (w i v e2) e3⟩, I.cell, I.free, I.freeC, I.pin, I.hok, hl.trans I.len⟩
theorem Inv.pins_of {pins' : List (Addr × Obj)} (I : Inv X pins σ H s) (h : ∀ p ∈ pins', s.heap.get? p.1 = some p.2 ∧ H p.1 = none ∧ p.1 ≠ X.env.locals ∧ p.1 ∉ X.fs ∧ ∀ v, p.2.data ≠ .cell v) : Inv X pins' σ H s :=
  ⟨I.ok, I.os, I.bare, I.base, I.loc, I.cell, I.free, I.freeC, fun p hp => (List.mem_append.mp hp).elim (fun z => I.pin p (List.mem_append_left _ z)) (h p), I.hok, I.len⟩
theorem nodup_ix {N : List Str} (hN : N.Nodup) {i j : Nat} {x : Str} (a : N[i]? = some x) (b : N[j]? = some x) : i = j := by
  obtain ⟨h1, e1⟩ := List.getElem?_eq_some_iff.mp a
  obtain ⟨h2, e2⟩ := List.getElem?_eq_some_iff.mp b
  exact (List.getElem_inj hN).mp (e1.trans e2.symm)
theorem store_ok2 {M : Model} {A : Around} {E : Value → Shared → Prop} {i : Nat} {x : Str} {v : V} {u : Value} {Q : Unit → Shared → Prop} (I : Inv X pins σ H s) (hN : X.N.Nodup) (hi : X.N[i]? = some x) (hx : Loc X.env.scope x) (r : RelV v u)
    (h : ∀ s', Inv X pins (σ.set i (some v)) H s' → (∃ a, Heap.SameBut a s.heap s'.heap ∧ (a = X.env.locals ∨ X.env.cells.lookup x = some a)) → Q () s') (hf : X.fn x = true ∨ X.env.scope.names.lookup x = some .local := by first | exact .inl rfl | exact .inr rfl | assumption) : wpAny M A (storeName X.env x u) Q E s := by
  obtain ⟨m, hn, hl⟩ := id I.loc
  have hcls : (X.env.scope.kind == .class || (X.env.scope.kind == .module && X.env.locals != X.env.globals)) = false := by rw [I.ok.kind]; rfl
  have hiσ : i < σ.length := by rw [I.len]; exact (List.getElem?_eq_some_iff.mp hi).1
  have cne := I.cne
  have tracked : ∀ {a : Addr} {h' : Heap}, (∃ o, s.heap.get? a = some o ∧ H a = none) → Heap.SameBut a s.heap h' → HOk X.prog X.w H h' := fun {a h'} ha hs b ob e => by
    obtain ⟨_, _, hfree⟩ := ha
    refine (I.hok b ob e).stay (fun c w' hc q => (hs.2 c ?_).trans q) (fun _ q => q) fun _ _ q => q
    rintro rfl
    rcases hc with rfl | hc
    · rw [hfree] at e; cases e
    · rw [hfree] at hc; cases hc
  rcases hx with hk | hk
  · refine wpAny_storeName_local hk hn (fun h' hn' hs => ?_) hcls
    obtain ⟨oL, _, _, hoL, _⟩ := id hn
    refine h _ ⟨I.ok, I.os, I.bare, ⟨fun b o e n hb hx => ?_, fun b o e n hb hx => ?_, I.base.free, fun b o e hx => ?_, I.base.tups, I.base.frzs, I.base.tbls⟩, ⟨_, hn', fun j y v' e1 e2 e3 => ?_⟩, fun y c e => ?_, I.free, I.freeC, fun p hp => ?_, tracked ⟨oL, hoL, I.free⟩ hs, by simpa using I.len⟩ ⟨_, hs, .inl rfl⟩
    · exact (hs.2 b (Nat.ne_of_lt (Nat.lt_of_lt_of_le (Heap.lt_size e) I.ok.above))).trans (I.base.keep b o e n hb hx)
    · obtain ⟨sl, e1⟩ := I.base.slot b o e n hb hx
      exact ⟨sl, (hs.2 b (Nat.ne_of_lt (Nat.lt_of_lt_of_le (Heap.lt_size e) I.ok.above))).trans e1⟩
    · obtain ⟨o', e1⟩ := I.base.there b o e hx
      exact ⟨o', (hs.2 b (Nat.ne_of_lt (Nat.lt_of_lt_of_le (Heap.lt_size e) I.ok.above))).trans e1⟩
    · by_cases hj : j = i
      · subst hj
        rw [hi] at e1; cases e1
        rw [List.getElem?_set_self hiσ] at e2
        cases e2
        exact ⟨u, r, .inl ⟨hk, by simp⟩⟩
      · rw [List.getElem?_set_ne (Ne.symm hj)] at e2
        obtain ⟨u', r', q⟩ := hl j y v' e1 e2 e3
        refine ⟨u', r', ?_⟩
        rcases q with ⟨k, e⟩ | ⟨k, c, e, z⟩
        · refine .inl ⟨k, ?_⟩
          have : y ≠ x := fun e => hj (nodup_ix hN e1 (e ▸ hi))
          simp [this, e]
        · exact .inr ⟨k, c, e, z.sameBut hs (cne y c e)⟩
    · obtain ⟨w', z⟩ := I.cell y c e
      exact ⟨w', z.sameBut hs (cne y c e)⟩
    · obtain ⟨e, n, ne, nf, d⟩ := I.pin p hp
      exact ⟨(hs.2 p.1 ne).trans e, n, ne, nf, d⟩
  · have hfn : X.fn x = true := by
      rcases hf with z | z
      · exact z
      · rw [z] at hk; cases hk
    obtain ⟨c, hc⟩ := I.ok.has x (.inl hk)
    obtain ⟨w', z⟩ := I.cell x c hc
    refine wpAny_storeName_cell I.ok.kind hk hc z (fun h' hc' hs => ?_)
    obtain ⟨oc, hoc, hocd⟩ := id z
    refine h { s with heap := h' } ⟨I.ok, I.os, I.bare, ⟨fun b o e n hb hx => ?_, fun b o e n hb hx => ?_, I.base.free, fun b o e hx => ?_, I.base.tups, I.base.frzs, I.base.tbls⟩, ⟨m, hn.sameBut hs (Ne.symm (cne x c hc)), fun j y v' e1 e2 e3 => ?_⟩, fun y c' e => ?_, I.free, I.freeC, fun p hp => ?_, tracked ⟨oc, hoc, I.freeC x c hc⟩ hs, by simpa using I.len⟩ ⟨c, hs, .inr hc⟩
    · exact (hs.2 b (Nat.ne_of_lt (Nat.lt_of_lt_of_le (Heap.lt_size e) (I.ok.cab x c hfn hc)))).trans (I.base.keep b o e n hb hx)
    · obtain ⟨sl, e1⟩ := I.base.slot b o e n hb hx
      exact ⟨sl, (hs.2 b (Nat.ne_of_lt (Nat.lt_of_lt_of_le (Heap.lt_size e) (I.ok.cab x c hfn hc)))).trans e1⟩
    · obtain ⟨o', e1⟩ := I.base.there b o e hx
      exact ⟨o', (hs.2 b (Nat.ne_of_lt (Nat.lt_of_lt_of_le (Heap.lt_size e) (I.ok.cab x c hfn hc)))).trans e1⟩
    · by_cases hj : j = i
      · subst hj
        rw [hi] at e1; cases e1
        rw [List.getElem?_set_self hiσ] at e2
        cases e2
        exact ⟨u, r, .inr ⟨.inl hk, c, hc, hc'⟩⟩
      · rw [List.getElem?_set_ne (Ne.symm hj)] at e2
        obtain ⟨u', r', q⟩ := hl j y v' e1 e2 e3
        refine ⟨u', r', ?_⟩
        rcases q with q | ⟨k, c', e, z'⟩
        · exact .inl q
        · refine .inr ⟨k, c', e, z'.sameBut hs ?_⟩
          rintro rfl
          exact hj (nodup_ix hN e1 (I.ok.inj _ _ _ e hc ▸ hi))
    · by_cases hcc : c' = c
      · subst hcc; exact ⟨_, hc'⟩
      · obtain ⟨w2, z2⟩ := I.cell y c' e
        exact ⟨w2, z2.sameBut hs hcc⟩
    · obtain ⟨e, n, ne, nf, d⟩ := I.pin p hp
      refine ⟨(hs.2 p.1 ?_).trans e, n, ne, nf, d⟩
      intro q
      rw [q, hoc] at e
      have q' : oc = p.2 := Option.some.inj e
      exact d w' (by rw [← q']; exact hocd)
theorem store_ok {M : Model} {A : Around} {E : Value → Shared → Prop} {i : Nat} {x : Str} {v : V} {u : Value} {Q : Unit → Shared → Prop} (I : Inv X pins σ H s) (hN : X.N.Nodup) (hi : X.N[i]? = some x) (hx : Loc X.env.scope x) (r : RelV v u)
    (h : ∀ s', Inv X pins (σ.set i (some v)) H s' → Q () s') (hf : X.fn x = true ∨ X.env.scope.names.lookup x = some .local := by first | exact .inl rfl | exact .inr rfl | assumption) : wpAny M A (storeName X.env x u) Q E s :=
  store_ok2 I hN hi hx r (fun s' I' _ => h s' I') hf
theorem Inv.call' {s' : Shared} {ch : List Addr} (I : Inv X pins σ H s) (ho : s'.os = s.os) (u : Un (frs X.stack) ch H H' s.heap s'.heap) (hok : HOk X.prog X.w H' s'.heap) (hg : AllBare s'.gens)
    (hch : ∀ b ∈ ch, (b ∈ X.ex ∨ X.s₀.heap.objs.size ≤ b) ∧ b ≠ X.env.locals ∧ (∀ x c, X.env.cells.lookup x = some c → c ≠ b) ∧ ∀ p ∈ X.pn ++ pins, p.1 ≠ b) : Inv X pins σ H' s' := by
  obtain ⟨h', g', d', t', o'⟩ := s'
  have e : o' = s.os := ho
  subst e
  exact I.call (g' := g') (t' := t') (d' := d') u hok hg hch
end
noncomputable abbrev XK := Value → Option Addr → Hp → Prop
noncomputable abbrev St := List (Option V)
noncomputable abbrev VK := V → Hp → Prop
noncomputable abbrev TE := St → Hp → VK → Prop
noncomputable abbrev TT := St → Hp → (Bool → Hp → Prop) → Prop
noncomputable abbrev TA := St → Hp → (List V → Hp → Prop) → Prop
structure Ends where
  nx : St → Hp → Prop
  rt : VK
  bk : St → Hp → Prop := fun _ _ => False
  ct : St → Hp → Prop := fun _ _ => False
noncomputable abbrev TS := Ends → St → Hp → Prop
noncomputable def EP (X : Cx) (pins : List (Addr × Obj)) (σ : St) (Q : VK) (u : Value) (s' : Shared) : Prop := ∃ v H', Inv X pins σ H' s' ∧ RelV v u ∧ Q v H'
noncomputable def TP (X : Cx) (pins : List (Addr × Obj)) (σ : St) (Q : Bool → Hp → Prop) (b : Bool) (s' : Shared) : Prop := ∃ H', Inv X pins σ H' s' ∧ Q b H'
noncomputable def AP (X : Cx) (pins : List (Addr × Obj)) (σ : St) (Q : List V → Hp → Prop) (us : List Value) (s' : Shared) : Prop := ∃ vs H', Inv X pins σ H' s' ∧ Vals vs us ∧ Q vs H'
noncomputable def SP (X : Cx) (pins : List (Addr × Obj)) (D : Ends) (f : Flow) (s' : Shared) : Prop :=
  match f with
  | .next => ∃ σ' H', Inv X pins σ' H' s' ∧ D.nx σ' H'
  | .brk => ∃ σ' H', Inv X pins σ' H' s' ∧ D.bk σ' H'
  | .cont => ∃ σ' H', Inv X pins σ' H' s' ∧ D.ct σ' H'
  | .ret u => ∃ v σ' H', Inv X pins σ' H' s' ∧ RelV v u ∧ D.rt v H'
noncomputable def PE (X : Cx) (e : Expr) (t : TE) : Prop :=
  ∀ (pins : List (Addr × Obj)) (s : Shared) (σ : St) (H : Hp) (Q : VK), Inv X pins σ H s → t σ H Q → wpAny (model X.prog X.w) X.A (eval e X.env) (EP X pins σ Q) X.xe s
noncomputable def PT (X : Cx) (e : Expr) (t : TT) : Prop :=
  ∀ (pins : List (Addr × Obj)) (s : Shared) (σ : St) (H : Hp) (Q : Bool → Hp → Prop), Inv X pins σ H s → t σ H Q → wpAny (model X.prog X.w) X.A (isTrue e X.env (eval e X.env)) (TP X pins σ Q) X.xe s
noncomputable def PW (X : Cx) (e : Expr) (t : TT) : Prop :=
  ∀ (whole : Sem Value) (pins : List (Addr × Obj)) (s : Shared) (σ : St) (H : Hp) (Q : Bool → Hp → Prop), Inv X pins σ H s → t σ H Q → wpAny (model X.prog X.w) X.A (isTrue e X.env whole) (TP X pins σ Q) X.xe s
theorem PW.pt {X : Cx} {e : Expr} {t : TT} (h : PW X e t) : PT X e t := h _
noncomputable def PA (X : Cx) (es : List Expr) (t : TA) : Prop :=
  ∀ (pos : Pos) (pins : List (Addr × Obj)) (s : Shared) (σ : St) (H : Hp) (Q : List V → Hp → Prop), Inv X pins σ H s → t σ H Q → wpAny (model X.prog X.w) X.A (spliced (backTo pos (starEach es X.env))) (AP X pins σ Q) X.xe s
noncomputable def PS (X : Cx) (st : Stmt) (t : TS) : Prop :=
  ∀ (pins : List (Addr × Obj)) (s : Shared) (σ : St) (H : Hp) (D : Ends), Inv X pins σ H s → t D σ H → wpAny (model X.prog X.w) X.A (exec st X.env) (SP X pins D) X.xe s
noncomputable def PSs (X : Cx) (st : List Stmt) (t : TS) : Prop :=
  ∀ (pins : List (Addr × Obj)) (s : Shared) (σ : St) (H : Hp) (D : Ends), Inv X pins σ H s → t D σ H → wpAny (model X.prog X.w) X.A (execs st X.env) (SP X pins D) X.xe s
theorem thn {α : Type} {t : Sem α} {Q Q' : α → Shared → Prop} {M : Model} {A : Around} {E : Value → Shared → Prop} {s : Shared} (h : wpAny M A t Q E s) (hQ : ∀ a s, Q a s → Q' a s) : wpAny M A t Q' E s := wpAny_mono h hQ fun _ _ x => x
end L2
namespace L2
open PySem PySem.Spec PyProof.Rows
section
variable {X : Cx}
theorem bin {a b : Expr} {ta tb : TE} (ha : PE X a ta) (hb : PE X b tb) {pins : List (Addr × Obj)} {s : Shared} {σ : St} {H : Hp} {R : V → V → Hp → Prop} (I : Inv X pins σ H s) (h : ta σ H fun x H1 => tb σ H1 fun y H2 => R x y H2)
    {α : Type} {Q : α → Shared → Prop} {f : Value → Value → Sem α}
    (hf : ∀ v u s2 x y H2, Inv X pins σ H2 s2 → RelV x v → RelV y u → R x y H2 → wpAny (model X.prog X.w) X.A (f v u) Q X.xe s2) :
    wpAny (model X.prog X.w) X.A (eval a X.env) (fun v s₁ => wpAny (model X.prog X.w) X.A (eval b X.env) (fun u s₂ => wpAny (model X.prog X.w) X.A (f v u) Q X.xe s₂) X.xe s₁) X.xe s := by
  refine thn (ha pins s σ H _ I h) fun v s1 ⟨x, H1, I1, r1, q1⟩ => ?_
  refine thn (hb pins s1 σ H1 _ I1 q1) fun u s2 ⟨y, H2, I2, r2, q2⟩ => ?_
  exact hf v u s2 x y H2 I2 r1 r2 q2
noncomputable def tVar (i : Nat) : TE := fun σ H Q => ∃ v, σ[i]? = some (some v) ∧ Q v H
noncomputable def tC (v : V) : TE := fun _ H Q => Q v H
theorem pe_var {i : Nat} {x : Str} {pos : Pos} (hN : X.N[i]? = some x) (hv : Vis X.env.scope x) (hd : (x == ("__debug__" : Str)) = false := by decide) (hcd : (x == ("__classdict__" : Str)) = false := by decide) : PE X (.Name x pos) (tVar i) := by
  intro pins s σ H Q I h
  obtain ⟨v, e, h⟩ := h
  obtain ⟨m, hn, hl⟩ := I.loc
  obtain ⟨u, r, l⟩ := hl i x v hN e hv
  have fin : EP X pins σ Q u s := ⟨v, H, I, r, h⟩
  rcases l with ⟨hk, hm⟩ | ⟨hk, c, hc, hcell⟩
  · exact wpAny_Name (wpAny_loadName_local I.ok.kind hk hn hm fin) hd
  · rcases hk with hk | hk
    · exact wpAny_Name (wpAny_loadName_cell I.ok.kind hk hc hcell fin) hd
    · exact wpAny_Name (wpAny_loadName_free I.ok.kind hk hc hcell fin hcd) hd
theorem pe_int {i j pos} : PE X (.Constant (.int i) j pos) (tC (.int i)) := fun _ _ _ H _ I h => wpAny_Constant_int ⟨.int i, H, I.tok _, ⟨_, rfl⟩, h⟩
theorem pe_bl {b j pos} : PE X (.Constant (.bool b) j pos) (tC (.bl b)) := fun _ _ _ H _ I h => Constant_bool ⟨.bl b, H, I, rfl, h⟩
theorem pe_non {j pos} : PE X (.Constant .none j pos) (tC .non) := fun _ _ _ H _ I h => Constant_none ⟨.non, H, I, rfl, h⟩
theorem pe_str {x j pos} : PE X (.Constant (.str x) j pos) (tC (.str x)) := fun _ _ _ H _ I h => Calls.Constant_str ⟨.str x, H, I.tok _, ⟨_, rfl⟩, h⟩
noncomputable def Gl (X : Cx) (x : Str) : Prop := X.env.kindOf x = some .globalImplicit
theorem ld_glob {E : Value → Shared → Prop} {pins : List (Addr × Obj)} {s : Shared} {σ : St} {H : Hp} {x : Str} {u : Value} {pos : Pos} {Q : Value → Shared → Prop} (I : Inv X pins σ H s) (hg : Gl X x) (hm : X.mg x = some u) (h : Q u s)
    (hd : (x == ("__debug__" : Str)) = false := by decide) : wpAny (model X.prog X.w) X.A (eval (.Name x pos) X.env) Q E s :=
  Calls.Name_function_global I.ok.kind hg (Calls.loadGlobal_global (by rw [I.ok.glob]; exact I.mod.glob.keeps I.bk) hm h) hd
theorem ld_blt {E : Value → Shared → Prop} {pins : List (Addr × Obj)} {s : Shared} {σ : St} {H : Hp} {x : Str} {u : Value} {pos : Pos} {Q : Value → Shared → Prop} (I : Inv X pins σ H s) (hg : Gl X x) (hm : X.mg x = none) (hv : bootBuiltins x = some u) (h : Q u s)
    (hn : x ≠ "__name__" := by decide) (hd : (x == ("__debug__" : Str)) = false := by decide) : wpAny (model X.prog X.w) X.A (eval (.Name x pos) X.env) Q E s := by
  obtain ⟨mb, h1, h2⟩ := I.mod.blt
  exact Calls.Name_function_global I.ok.kind hg (Calls.loadGlobal_builtin (by rw [I.ok.glob]; exact I.mod.glob.keeps I.bk) hm (by rw [I.ok.blt]; exact h1.keeps I.bk) ((h2 x hn).trans hv) h) hd
theorem pe_glob {x : Str} {v : V} {u : Value} {pos : Pos} (hg : Gl X x) (hm : X.mg x = some u) (r : RelV v u) (hd : (x == ("__debug__" : Str)) = false := by decide) : PE X (.Name x pos) (tC v) :=
  fun _ _ _ H _ I h => ld_glob I hg hm ⟨v, H, I, r, h⟩ hd
theorem pe_bltn {x : Str} {v : V} {u : Value} {pos : Pos} (hg : Gl X x) (hm : X.mg x = none) (hv : bootBuiltins x = some u) (r : RelV v u) (hn : x ≠ "__name__" := by decide) (hd : (x == ("__debug__" : Str)) = false := by decide) : PE X (.Name x pos) (tC v) :=
  fun _ _ _ H _ I h => ld_blt I hg hm hv ⟨v, H, I, r, h⟩ hn hd
variable {a b : Expr} {ta tb : TE} {pos : Pos}
noncomputable def PC (X : Cx) (op : CmpOp) (a b : Expr) (t : TE) : Prop :=
  ∀ (pins : List (Addr × Obj)) (s : Shared) (σ : St) (H : Hp) (Q : VK), Inv X pins σ H s → t σ H Q →
    wpAny (model X.prog X.w) X.A (eval a X.env) (fun v s₁ => wpAny (model X.prog X.w) X.A (eval b X.env) (fun u s₂ => wpAny (model X.prog X.w) X.A (compareOp op v u) (EP X pins σ Q) X.xe s₂) X.xe s₁) X.xe s
theorem nobehind (b : Expr) {op : CmpOp} (h : op ≠ .In) (h2 : op ≠ .NotIn) : behindInMarks op b = false := by
  have e1 : (op == CmpOp.In) = false := by cases op <;> first | rfl | exact absurd rfl h
  have e2 : (op == CmpOp.NotIn) = false := by cases op <;> first | rfl | exact absurd rfl h2
  cases b <;> simp [behindInMarks, e1, e2]
noncomputable def tB (t : TE) : TT := fun σ H Q => t σ H fun x H1 => ∃ c, x = .bl c ∧ Q c H1
theorem pt_cmp {op : CmpOp} {t : TE} (h : PC X op a b t) (h1 : behindInMarks op b = false := by first | exact nobehind _ (by decide) (by decide) | rfl) : PT X (.Compare a [op] [b] pos) (tB t) := by
  intro pins s σ H Q I hw
  refine wpAny_isTrue_Compare1 (thn (h pins s σ H _ I hw) fun v s1 h1 => thn h1 fun u s2 h2 => thn h2 fun c s3 ⟨x, H1, I1, r1, q1⟩ => ?_) h1
  obtain ⟨d, rfl, q⟩ := q1
  cases r1
  exact wpAny_truthy_bool ⟨H1, I1, q⟩
theorem pt_val {e : Expr} {t : TE} (h : PE X e t) (he : ∀ whole, isTrue e X.env whole = (do let v ← whole; standAt e.pos; holding [v] (truthy v)) := by intro _; rfl) : PT X e (tB t) := by
  intro pins s σ H Q I hw
  refine isTrue_plain (thn (h pins s σ H _ I hw) fun v s1 ⟨x, H1, I1, r1, q1⟩ => ?_) (he _)
  obtain ⟨d, rfl, q⟩ := q1
  cases r1
  exact wpAny_truthy_bool ⟨H1, I1, q⟩
variable {tA tB' : TT} {rest : List Expr}
noncomputable def tAnd (t u : TT) : TT := fun σ H Q => t σ H fun c H1 => if c = true then u σ H1 Q else Q false H1
noncomputable def tOr (t u : TT) : TT := fun σ H Q => t σ H fun c H1 => if c = true then Q true H1 else u σ H1 Q
noncomputable def tNot (t : TT) : TT := fun σ H Q => t σ H fun c H1 => Q (!c) H1
theorem pw_and1 (ha : PT X a tA) : PW X (.BoolOp .And [a] pos) tA := by
  intro wh pins s σ H Q I h
  refine isTrue_and (thn (ha pins s σ H Q I h) fun c s1 e => ?_)
  cases c with
  | true => exact isTrue_and_nil e
  | false => exact e
theorem pw_or1 (ha : PT X a tA) : PW X (.BoolOp .Or [a] pos) tA := by
  intro wh pins s σ H Q I h
  refine isTrue_or (thn (ha pins s σ H Q I h) fun c s1 e => ?_)
  cases c with
  | false => exact isTrue_or_nil e
  | true => exact e
theorem pw_and (ha : PT X a tA) (hb : PW X (.BoolOp .And (b :: rest) pos) tB') : PW X (.BoolOp .And (a :: b :: rest) pos) (tAnd tA tB') := by
  intro wh pins s σ H Q I h
  refine isTrue_and (thn (ha pins s σ H _ I h) fun c s1 ⟨H1, I1, q1⟩ => ?_)
  cases c with
  | true => exact hb wh pins s1 σ H1 Q I1 q1
  | false => exact ⟨H1, I1, q1⟩
theorem pw_or (ha : PT X a tA) (hb : PW X (.BoolOp .Or (b :: rest) pos) tB') : PW X (.BoolOp .Or (a :: b :: rest) pos) (tOr tA tB') := by
  intro wh pins s σ H Q I h
  refine isTrue_or (thn (ha pins s σ H _ I h) fun c s1 ⟨H1, I1, q1⟩ => ?_)
  cases c with
  | true => exact ⟨H1, I1, q1⟩
  | false => exact hb wh pins s1 σ H1 Q I1 q1
theorem pt_not (ha : PT X a tA) : PT X (.UnaryOp .Not a pos) (tNot tA) := by
  intro pins s σ H Q I h
  exact isTrue_not (ha pins s σ H (fun c H1 => Q (!c) H1) I h)
noncomputable def tAndV (ta tb : TE) : TE := fun σ H Q => ta σ H fun x H1 => ∃ c, x = .bl c ∧ if c = true then tb σ H1 Q else Q (.bl false) H1
noncomputable def tNotV (ta : TE) : TE := fun σ H Q => ta σ H fun x H1 => ∃ c, x = .bl c ∧ Q (.bl (!c)) H1
theorem pe_one {op} {t : TE} (h : PE X a t) : PE X (.BoolOp op [a] pos) t := fun pins s σ H Q I hw => BoolOp_one (h pins s σ H Q I hw)
theorem pe_and (ha : PE X a ta) (hb : PE X (.BoolOp .And (b :: rest) pos) tb) : PE X (.BoolOp .And (a :: b :: rest) pos) (tAndV ta tb) := by
  intro pins s σ H Q I h
  refine BoolOp_and (thn (ha pins s σ H _ I h) fun v s1 ⟨x, H1, I1, r1, q1⟩ => ?_)
  obtain ⟨c, rfl, q1⟩ := q1
  cases r1
  refine wpAny_truthy_bool ?_
  cases c with
  | true => exact hb pins s1 σ H1 Q I1 q1
  | false => exact ⟨.bl false, H1, I1, rfl, q1⟩
theorem pe_not (ha : PE X a ta) : PE X (.UnaryOp .Not a pos) (tNotV ta) := by
  intro pins s σ H Q I h
  refine UnaryOp_ (thn (ha pins s σ H _ I h) fun v s1 ⟨x, H1, I1, r1, q1⟩ => ?_)
  obtain ⟨c, rfl, q1⟩ := q1
  cases r1
  exact not_of (wpAny_truthy_bool ⟨.bl (!c), H1, I1, rfl, q1⟩)
end
end L2
namespace L2
open PySem PySem.Spec PyProof.Rows
noncomputable def SqL (K : PySem.W.Frag) (H : Hp) (a : Addr) (xs : List V) : Prop :=
  Rd H a (.lst xs) ∨
    ∃ (o : Obj) (its : Array Value) (n : Nat), K.lookup a = some o ∧ o.cls = .type "list" ∧ o.dict = none ∧ o.data = .seq its n ∧ its.size ≤ sizeLine ∧ Vals xs its.toList
noncomputable def SqT (K : PySem.W.Frag) (H : Hp) (a : Addr) (xs : List V) : Prop :=
  Rd H a (.tup xs) ∨
    ∃ (o : Obj) (its : Array Value) (n : Nat), K.lookup a = some o ∧ o.cls = .type "tuple" ∧ o.data = .seq its n ∧ its.size ≤ sizeLine ∧ Vals xs its.toList
noncomputable def absV : Value → Option V
  | .none => some .non
  | .bool b => some (.bl b)
  | .int i _ => some (.int i)
  | .str x _ => some (.str x)
  | .bytes b _ => some (.byt b)
  | .float b _ => some (.flt b)
  | .ref a => some (.ref a)
  | .type n => some (.ty n)
  | _ => none
theorem RelV.abs {x : V} {u : Value} (r : RelV x u) : absV u = some x := by
  cases x with
  | non => cases r; rfl
  | bl _ => cases r; rfl
  | int _ => obtain ⟨t, rfl⟩ := r; rfl
  | str _ => obtain ⟨t, rfl⟩ := r; rfl
  | byt _ => obtain ⟨t, rfl⟩ := r; rfl
  | flt _ => obtain ⟨t, rfl⟩ := r; rfl
  | ref _ => cases r; rfl
  | ty _ => cases r; rfl
theorem RelV.inj {x y : V} {u : Value} (r : RelV x u) (q : RelV y u) : x = y := Option.some.inj (r.abs.symm.trans q.abs)
theorem Vals.inj : ∀ {xs ys : List V} {us : List Value}, Vals xs us → Vals ys us → xs = ys
  | _, _, _, .nil, .nil => rfl
  | _, _, _, .cons r t, .cons r' t' => by rw [r.inj r', Vals.inj t t']
section
variable {X : Cx} {pins : List (Addr × Obj)} {σ : St} {H : Hp} {s : Shared} {a : Addr} {xs ys : List V}
theorem SqL.of {K : PySem.W.Frag} (h : H a = some (.lst xs)) : SqL K H a xs := .inl (.inl h)
theorem SqT.of {K : PySem.W.Frag} (h : H a = some (.tup xs)) : SqT K H a xs := .inl (.inl h)
theorem Inv.list (I : Inv X pins σ H s) (h : SqL X.K H a xs) : ∃ its : List Value, Vals xs its ∧ PlainL s.heap a its.toArray ∧ xs.length ≤ sizeLine := by
  rcases h with h | ⟨o, its, n, hk, hc, hd, hs, hz, r⟩
  · obtain ⟨z, its, n, r, e⟩ := h.ok I.hok
    exact ⟨its, r, ⟨_, n, e, rfl, rfl, rfl⟩, z⟩
  · refine ⟨its.toList, r, ⟨o, n, I.kIn a o hk, hc, hd, by simpa using hs⟩, ?_⟩
    have e := r.length
    simp only [Array.length_toList] at e
    omega
theorem Inv.tuple (I : Inv X pins σ H s) (h : SqT X.K H a xs) : ∃ its : List Value, Vals xs its ∧ IsTup s.heap a its.toArray ∧ xs.length ≤ sizeLine := by
  rcases h with h | ⟨o, its, n, hk, hc, hs, hz, r⟩
  · obtain ⟨z, its, r, p⟩ := h.ok I.hok
    exact ⟨its, r, p, z⟩
  · refine ⟨its.toList, r, ⟨o, I.kIn a o hk, hc, n, by simpa using hs⟩, ?_⟩
    have e := r.length
    simp only [Array.length_toList] at e
    omega
theorem Inv.list_inj (I : Inv X pins σ H s) (h : SqL X.K H a xs) (h' : SqL X.K H a ys) : xs = ys := by
  obtain ⟨its, r, ⟨o, n, e, _, _, d⟩, _⟩ := I.list h
  obtain ⟨its', r', ⟨o', n', e', _, _, d'⟩, _⟩ := I.list h'
  rw [e] at e'; cases e'
  rw [d] at d'
  injection d' with d1 _
  have : its = its' := by simpa using congrArg Array.toList d1
  subst this
  exact r.inj r'
end
noncomputable abbrev Cx.wish (X : Cx) (E : Value → Shared → Prop) : Cx := { X with xe := E }
noncomputable abbrev Cx.nox (X : Cx) : Cx := X.wish fun _ _ => False
theorem Cx.Ok.wish {X : Cx} (ok : X.Ok) (E : Value → Shared → Prop) : (X.wish E).Ok :=
  ⟨ok.mod, ok.kind, ok.glob, ok.blt, ok.above, ok.inj, ok.has, ok.cab, ok.hd, ok.frames, ok.stk, ok.exf, ok.bs, ok.bsz, ok.noex, ok.exfs, ok.funs, ok.frf⟩
theorem Cx.Ok.unwish {X : Cx} {E : Value → Shared → Prop} (ok : (X.wish E).Ok) : X.Ok :=
  ⟨ok.mod, ok.kind, ok.glob, ok.blt, ok.above, ok.inj, ok.has, ok.cab, ok.hd, ok.frames, ok.stk, ok.exf, ok.bs, ok.bsz, ok.noex, ok.exfs, ok.funs, ok.frf⟩
section
variable {X : Cx} {pins : List (Addr × Obj)} {σ : St} {H : Hp} {s : Shared} {E : Value → Shared → Prop}
theorem Inv.wish (I : Inv X pins σ H s) (E : Value → Shared → Prop) : Inv (X.wish E) pins σ H s := ⟨I.ok.wish E, I.os, I.bare, I.base, I.loc, I.cell, I.free, I.freeC, I.pin, I.hok, I.len⟩
theorem Inv.unwish (I : Inv (X.wish E) pins σ H s) : Inv X pins σ H s := ⟨I.ok.unwish, I.os, I.bare, I.base, I.loc, I.cell, I.free, I.freeC, I.pin, I.hok, I.len⟩
theorem SP.unwish {D : Ends} {f : Flow} {s' : Shared} (h : SP (X.wish E) pins D f s') : SP X pins D f s' := by
  cases f with
  | next => obtain ⟨σ', H', I, q⟩ := h; exact ⟨σ', H', I.unwish, q⟩
  | brk => obtain ⟨σ', H', I, q⟩ := h; exact ⟨σ', H', I.unwish, q⟩
  | cont => obtain ⟨σ', H', I, q⟩ := h; exact ⟨σ', H', I.unwish, q⟩
  | ret u => obtain ⟨v, σ', H', I, r, q⟩ := h; exact ⟨v, σ', H', I.unwish, r, q⟩
theorem PSs.nox {st : List Stmt} {t : TS} (h : PSs X.nox st t) : PSs X st t := fun pins s σ H D I hw =>
  wpAny_mono (h pins s σ H D (I.wish _) hw) (fun _ _ q => q.unwish) fun _ _ z => False.elim z
end
section
variable {X : Cx} {st : Stmt} {rest : List Stmt} {t u : TS} {e : Expr} {te : TE} {pos : Pos}
noncomputable def tNext : TS := fun D σ H => D.nx σ H
noncomputable def tSeq (t u : TS) : TS := fun D σ H => t { D with nx := u D } σ H
theorem pss_nil : PSs X [] tNext := fun _ _ σ H _ I h => wpAny_execs_nil ⟨σ, H, I, h⟩
theorem pss_cons (h1 : PS X st t) (h2 : PSs X rest u) : PSs X (st :: rest) (tSeq t u) := by
  intro pins s σ H D I h
  refine wpAny_execs_cons (thn (h1 pins s σ H { D with nx := u D } I h) fun f s1 q => ?_)
  cases f with
  | next =>
    obtain ⟨σ', H', I', q⟩ := q
    exact h2 pins s1 σ' H' D I' q
  | ret v => exact q
  | brk => exact q
  | cont => exact q
theorem pss_one (h1 : PS X st t) : PSs X [st] t := by
  intro pins s σ H D I h
  refine wpAny_execs_cons (thn (h1 pins s σ H D I h) fun f s1 q => ?_)
  cases f with
  | next => exact wpAny_execs_nil q
  | ret v => exact q
  | brk => exact q
  | cont => exact q
theorem Inv.quiet {pins : List (Addr × Obj)} {σ : St} {H : Hp} {s : Shared} (I : Inv X pins σ H s) : interactive X.env = false := by simp [interactive, I.ok.kind]
noncomputable def tDrop (te : TE) : TS := fun D σ H => te σ H fun _ H1 => D.nx σ H1
theorem ps_expr (he : PE X e te) (hs : swapsWith e none pos.line X.env = pure false := by rfl) : PS X (.Expr e pos) (tDrop te) := by
  intro pins s σ H D I h
  exact wpAny_Expr_any (thn (he pins s σ H _ I h) fun v s1 ⟨x, H1, I1, r1, q1⟩ => ⟨σ, H1, I1, q1⟩) I.quiet hs
noncomputable def tRet (te : TE) : TS := fun D σ H => te σ H D.rt
theorem ps_ret (he : PE X e te) : PS X (.Return (some e) pos) (tRet te) := by
  intro pins s σ H D I h
  exact wpAny_Return_some (thn (he pins s σ H _ I h) fun v s1 ⟨x, H1, I1, r1, q1⟩ => ⟨x, σ, H1, I1, r1, q1⟩)
noncomputable def tIfS (c : TT) (t u : TS) : TS := fun D σ H => c σ H fun b H1 => if b = true then t D σ H1 else u D σ H1
theorem ps_if {c : Expr} {a b : List Stmt} {tc : TT} (hc : PT X c tc) (ha : PSs X a t) (hb : PSs X b u) : PS X (.If c a b pos) (tIfS tc t u) := by
  intro pins s σ H D I h
  refine wpAny_If (thn (hc pins s σ H _ I h) fun d s1 ⟨H1, I1, q1⟩ => ?_)
  cases d with
  | true => exact ha pins s1 σ H1 D I1 q1
  | false => exact hb pins s1 σ H1 D I1 q1
end
noncomputable abbrev TG := V → St → Hp → (St → Hp → Prop) → Prop
noncomputable abbrev TGs := List V → St → Hp → (St → Hp → Prop) → Prop
noncomputable def PG (X : Cx) (target : Expr) (t : TG) : Prop :=
  ∀ (pins : List (Addr × Obj)) (s : Shared) (σ : St) (H : Hp) (v : V) (u : Value) (Q : St → Hp → Prop), Inv X pins σ H s → RelV v u → t v σ H Q →
    wpAny (model X.prog X.w) X.A (assign target X.env u) (fun _ s' => ∃ σ' H', Inv X pins σ' H' s' ∧ Q σ' H') X.xe s
noncomputable def PGs (X : Cx) (ts : List Expr) (t : TGs) : Prop :=
  ∀ (pins : List (Addr × Obj)) (s : Shared) (σ : St) (H : Hp) (vs : List V) (us : List Value) (Q : St → Hp → Prop), Inv X pins σ H s → Vals vs us → t vs σ H Q →
    wpAny (model X.prog X.w) X.A (assignInOrder ((assignEach ts X.env).map (·.2)) us) (fun _ s' => ∃ σ' H', Inv X pins σ' H' s' ∧ Q σ' H') X.xe s
noncomputable abbrev TSet := V → V → V → Hp → (Hp → Prop) → Prop
noncomputable def PSet (X : Cx) (t : TSet) : Prop :=
  ∀ (pins : List (Addr × Obj)) (s : Shared) (σ : St) (H : Hp) (o i v : V) (ov iv u : Value) (Q : Hp → Prop), Inv X pins σ H s → RelV o ov → RelV i iv → RelV v u → t o i v H Q →
    wpAny (model X.prog X.w) X.A (setItem ov iv u) (fun _ s' => ∃ H', Inv X pins σ H' s' ∧ Q H') X.xe s
noncomputable abbrev TIp := V → V → Hp → VK → Prop
noncomputable def PIp (X : Cx) (op : Operator) (t : TIp) : Prop :=
  ∀ (pins : List (Addr × Obj)) (s : Shared) (σ : St) (H : Hp) (x y : V) (v u : Value) (Q : VK), Inv X pins σ H s → RelV x v → RelV y u → t x y H Q →
    wpAny (model X.prog X.w) X.A (inplaceOp op v u) (EP X pins σ Q) X.xe s
section
variable {X : Cx} {pos : Pos}
noncomputable def gName (i : Nat) : TG := fun v σ H Q => Q (σ.set i (some v)) H
theorem pg_name {i : Nat} {x : Str} (hN : X.N.Nodup) (hi : X.N[i]? = some x) (hx : Loc X.env.scope x) (hf : X.fn x = true ∨ X.env.scope.names.lookup x = some .local := by first | exact .inl rfl | exact .inr rfl | assumption) : PG X (.Name x pos) (gName i) := by
  intro pins s σ H v u Q I r h
  exact wpAny_assign_Name (store_ok I hN hi hx r (fun s' I' => ⟨_, H, I', h⟩) hf)
noncomputable def gNil : TGs := fun vs σ H Q => vs = [] ∧ Q σ H
noncomputable def gCons (t : TG) (u : TGs) : TGs := fun vs σ H Q => ∃ v r, vs = v :: r ∧ t v σ H fun σ' H' => u r σ' H' Q
theorem pgs_nil : PGs X [] gNil := by
  intro pins s σ H vs us Q I r h
  obtain ⟨e, h⟩ := h
  subst e
  cases r
  exact assignInOrder_nil ⟨σ, H, I, h⟩
theorem pgs_cons {e : Expr} {es : List Expr} {t : TG} {u : TGs} (h1 : PG X e t) (h2 : PGs X es u)
    (hs : (assignEach (e :: es) X.env).map (·.2) = assign e X.env :: (assignEach es X.env).map (·.2) := by rfl) : PGs X (e :: es) (gCons t u) := by
  intro pins s σ H vs us Q I r h
  obtain ⟨v, vr, e1, h⟩ := h
  subst e1
  cases r with
  | cons r rr =>
    rw [hs]
    refine assignInOrder_cons (thn (h1 pins s σ H _ _ _ I r h) fun _ s1 ⟨σ1, H1, I1, q1⟩ => ?_)
    exact h2 pins s1 σ1 H1 _ _ Q I1 rr q1
noncomputable def gTup (K : PySem.W.Frag) (n : Nat) (t : TGs) : TG := fun v σ H Q => ∃ a xs, v = .ref a ∧ SqT K H a xs ∧ xs.length = n ∧ t xs σ H Q
theorem pg_tup {es : List Expr} {k : Nat} {t : TGs} {n : Nat} (hc : X.calm = true) (h : PGs X es t)
    (hn : (assignEach es X.env).length = n := by rfl) (hst : (assignEach es X.env).findIdx? (·.1) = none := by rfl) : PG X (.Tuple es k pos) (gTup X.K n t) := by
  intro pins s σ H v u Q I r hw
  obtain ⟨a, xs, e1, hq, hl, hw⟩ := hw
  subst e1
  cases r
  obtain ⟨its, rv, ht, hz⟩ := I.tuple hq
  refine assign_Tuple_tuple (I.ok.hd hc) ht (by simp [hn, ← hl, rv.length]) hst fun h' hx => ?_
  have I1 : Inv X pins σ H { s with heap := h' } := I.kept (t' := s.toks) fun b o e => hx b o (Nat.ne_of_lt (Heap.lt_size e)) e
  exact h pins _ σ H xs _ Q I1 (by simpa using rv) hw
noncomputable def gSub (to ti : TE) (t : TSet) : TG := fun v σ H Q => to σ H fun o H1 => ti σ H1 fun i H2 => t o i v H2 fun H3 => Q σ H3
theorem pg_sub {o i : Expr} {to ti : TE} {t : TSet} (ho : PE X o to) (hi : PE X i ti) (hs : PSet X t)
    (ha : ∀ v, assign (.Subscript o i pos) X.env v = (do
      let ov ← holding [v] (eval o X.env)
      let iv ← holding [v, ov] (eval i X.env)
      standAt pos
      holding [v, ov, iv] (setItem ov iv v)
      release [v, ov, iv] []) := by intro _; rfl) : PG X (.Subscript o i pos) (gSub to ti t) := by
  intro pins s σ H v u Q I r h
  rw [ha]
  refine wpAny_bind (wpAny_holding (thn (ho pins s σ H _ I h) fun ov s1 ⟨x, H1, I1, r1, q1⟩ => ?_))
  refine wpAny_bind (wpAny_holding (thn (hi pins s1 σ H1 _ I1 q1) fun iv s2 ⟨y, H2, I2, r2, q2⟩ => ?_))
  refine wpAny_bind (wpAny_standAt (wpAny_bind (wpAny_holding (thn (hs pins s2 σ H2 x y v ov iv u _ I2 r1 r2 r q2) fun _ s3 ⟨H3, I3, q3⟩ => ?_))))
  exact wpAny_release ⟨σ, H3, I3, q3⟩
noncomputable def tAsg (te : TE) (g : TG) : TS := fun D σ H => te σ H fun x H1 => g x σ H1 D.nx
theorem ps_asg {tg e : Expr} {te : TE} {g : TG} (he : PE X e te) (hg : PG X tg g) (hs : swapsWithSole [tg] e pos.line X.env = pure false := by rfl) (hw : swappedStores [tg] e X.env = pure none := by rfl)
    (h1 : (assignEach [tg] X.env).map (·.2) = [assign tg X.env] := by rfl) : PS X (.Assign [tg] e pos) (tAsg te g) := by
  intro pins s σ H D I h
  refine wpAny_Assign_stores (thn (he pins s σ H _ I h) fun v s1 ⟨x, H1, I1, r1, q1⟩ => ?_) hs hw
  rw [h1]
  exact thn (hg pins s1 σ H1 x v _ I1 r1 q1) fun _ s2 q => q
theorem ps_set {i : Nat} {x : Str} {e : Expr} {te : TE} {pos' : Pos} (hN : X.N.Nodup) (hi : X.N[i]? = some x) (hx : Loc X.env.scope x) (he : PE X e te) (hs : swapsWith e (some (.Name x pos')) pos.line X.env = pure false := by rfl) (hf : X.fn x = true ∨ X.env.scope.names.lookup x = some .local := by first | exact .inl rfl | exact .inr rfl | assumption) :
    PS X (.Assign [.Name x pos'] e pos) (tAsg te (gName i)) := by
  intro pins s σ H D I h
  refine wpAny_Assign_Name (thn (he pins s σ H _ I h) fun v s1 ⟨y, H1, I1, r1, q1⟩ => ?_) hs
  exact store_ok I1 hN hi hx r1 (fun s2 I2 => ⟨_, H1, I2, q1⟩) hf
noncomputable def tAug (i : Nat) (te : TE) (ti : TIp) : TS := fun D σ H => ∃ x, σ[i]? = some (some x) ∧ te σ H fun y H1 => ti x y H1 fun z H2 => D.nx (σ.set i (some z)) H2
theorem ps_aug {i : Nat} {x : Str} {e : Expr} {te : TE} {op : Operator} {ti : TIp} {pos' : Pos} (hN : X.N.Nodup) (hi : X.N[i]? = some x) (hx : Loc X.env.scope x) (he : PE X e te) (ho : PIp X op ti) (hf : X.fn x = true ∨ X.env.scope.names.lookup x = some .local := by first | exact .inl rfl | exact .inr rfl | assumption) :
    PS X (.AugAssign (.Name x pos') op e pos) (tAug i te ti) := by
  intro pins s σ H D I h
  obtain ⟨v, e1, h⟩ := h
  obtain ⟨m, hn, hl⟩ := I.loc
  have vis : Vis X.env.scope x := by rcases hx with k | k; exact .inl k; exact .inr (.inl k)
  obtain ⟨u, r, l⟩ := hl i x v hi e1 vis
  refine wpAny_AugAssign_Name ?_
  have go : wpAny (model X.prog X.w) X.A (eval e X.env) (fun w s₂ => wpAny (model X.prog X.w) X.A (inplaceOp op u w) (fun r s₃ => wpAny (model X.prog X.w) X.A (storeName X.env x r) (fun _ => SP X pins D .next) X.xe s₃) X.xe s₂) X.xe s := by
    refine thn (he pins s σ H _ I h) fun w s1 ⟨y, H1, I1, r1, q1⟩ => ?_
    refine thn (ho pins s1 σ H1 v y u w _ I1 r r1 q1) fun z s2 ⟨zv, H2, I2, r2, q2⟩ => ?_
    exact store_ok I2 hN hi hx r2 (fun s3 I3 => ⟨_, H2, I3, q2⟩) hf
  rcases l with ⟨hk, hm⟩ | ⟨hk, c, hc, hcell⟩
  · exact wpAny_loadName_local I.ok.kind hk hn hm go
  · rcases hk with hk | hk
    · exact wpAny_loadName_cell I.ok.kind hk hc hcell go
    · rcases hx with k | k
      · have : X.env.scope.names.lookup x = some .free := hk
        rw [k] at this; cases this
      · have : X.env.scope.names.lookup x = some .free := hk
        rw [k] at this; cases this
noncomputable def ipI (f : Int → Int → Int) : TIp := fun x y H Q => ∃ i j, x = .int i ∧ y = .int j ∧ Q (.int (f i j)) H
theorem ip_add : PIp X .Add (ipI fun i j => i + j) := by
  intro pins s σ H x y v u Q I r1 r2 h
  obtain ⟨i, j, e1, e2, q⟩ := h
  subst e1; subst e2
  obtain ⟨t, rfl⟩ := r1
  obtain ⟨t', rfl⟩ := r2
  exact iadd_int ⟨.int _, H, I.tok _, ⟨_, rfl⟩, q⟩
theorem ip_sub : PIp X .Sub (ipI fun i j => i - j) := by
  intro pins s σ H x y v u Q I r1 r2 h
  obtain ⟨i, j, e1, e2, q⟩ := h
  subst e1; subst e2
  obtain ⟨t, rfl⟩ := r1
  obtain ⟨t', rfl⟩ := r2
  exact isub_int ⟨.int _, H, I.tok _, ⟨_, rfl⟩, q⟩
end
section
variable {X : Cx} {pos : Pos}
noncomputable def tWhile (c : TT) (tb : TS) : TS := fun D σ H => ∃ W : Nat → St → Hp → Prop, (∃ m, W m σ H) ∧ ∀ m σ H, W m σ H →
  c σ H fun b H1 => if b = true then ∃ N : St → Hp → Prop, (∀ σ' H', N σ' H' → ∃ m', m' < m ∧ W m' σ' H') ∧ tb { D with nx := N, ct := N, bk := D.nx } σ H1 else D.nx σ H1
theorem ps_while {c : Expr} {body : List Stmt} {tc : TT} {tb : TS} (hp : PassesOwn (model X.prog X.w) X.A X.env X.xe) (hc : PT X c tc) (hb : PSs X body tb) : PS X (.While c body [] pos) (tWhile tc tb) := by
  intro pins s σ H D I h
  obtain ⟨W, ⟨m0, w0⟩, turn⟩ := h
  refine wpAny_While (codeAny_whileLoop (fun n s' => ∃ σ' H', Inv X pins σ' H' s' ∧ W n σ' H') ?_ m0 ⟨σ, H, I, w0⟩)
  rintro n s1 ⟨σ1, H1, I1, w1⟩
  refine wpAny_passesOwn hp (thn (hc pins s1 σ1 H1 _ I1 (turn n σ1 H1 w1)) fun b s2 ⟨H2, I2, q2⟩ => ?_)
  cases b with
  | true =>
    obtain ⟨N, hN, q2⟩ := q2
    rw [if_pos rfl]
    refine wpAny_passesOwn hp (thn (hb pins s2 σ1 H2 _ I2 q2) fun f s3 q3 => ?_)
    cases f with
    | next =>
      obtain ⟨σ3, H3, I3, n3⟩ := q3
      obtain ⟨m', hm, w3⟩ := hN σ3 H3 n3
      exact ⟨m', hm, σ3, H3, I3, w3⟩
    | cont =>
      obtain ⟨σ3, H3, I3, n3⟩ := q3
      obtain ⟨m', hm, w3⟩ := hN σ3 H3 n3
      exact ⟨m', hm, σ3, H3, I3, w3⟩
    | brk => exact q3
    | ret v => exact q3
  | false =>
    rw [if_neg Bool.false_ne_true]
    exact wpAny_execs_nil ⟨σ1, H2, I2, q2⟩
end
structure It where
  go : Nat → Hp → Prop
  yld : Nat → Hp → V → Hp → Prop
  stop : Nat → Hp → Prop
noncomputable def FpOk (X : Cx) (pins : List (Addr × Obj)) (H : Hp) (b : Addr) : Prop :=
  H b = none ∧ b ≠ X.env.locals ∧ b ∉ X.fs ∧ (b ∈ X.ex ∨ X.s₀.heap.objs.size ≤ b) ∧ (∀ x c, X.env.cells.lookup x = some c → c ≠ b) ∧ ∀ p ∈ X.pn ++ pins, p.1 ≠ b
theorem Inv.fpOk {X : Cx} {pins : List (Addr × Obj)} {σ : St} {H H' : Hp} {s : Shared} {b : Addr} (I : Inv X pins σ H s) (hb : s.heap.objs.size ≤ b) (hn : H' b = none) : FpOk X pins H' b := by
  refine ⟨hn, Nat.ne_of_gt (Nat.lt_of_lt_of_le I.lt hb), I.nofs hb, .inr (Nat.le_trans I.sz hb), fun x c e z => ?_, fun p hp z => ?_⟩
  · obtain ⟨v, q⟩ := I.cell x c e
    exact absurd (Nat.lt_of_lt_of_le q.lt (by rw [z]; exact hb)) (Nat.lt_irrefl _)
  · exact absurd (Nat.lt_of_lt_of_le (Heap.lt_size (I.pin p hp).1) (by rw [z]; exact hb)) (Nat.lt_irrefl _)
structure Turn (P : Program) (w : World) (K : PySem.W.Frag) (tg : Expr) (J : It) (fp : List Addr) (it : Addr) (tn : Nat → Heap → Prop) : Prop where
  mem : it ∈ fp
  obj : ∀ i h, tn i h → ∀ b ∈ fp, ∃ o, h.get? b = some o ∧ ∀ v, o.data ≠ .cell v
  keep : ∀ i h h', tn i h → (∀ b ∈ fp, ∀ o, h.get? b = some o → h'.get? b = some o) → tn i h'
  item : ∀ (X : Cx), X.prog = P → X.w = w → X.K = K → X.calm = true → ∀ (i : Nat) (pins : List (Addr × Obj)) (s : Shared) (σ : St) (H : Hp) (E : Value → Shared → Prop), Inv X pins σ H s → (∀ b ∈ fp, FpOk X pins H b) → tn i s.heap → J.go i H →
    wpAny (model P w) X.A (pyNext (.ref it)) (fun r s1 => ∃ u, r = some u ∧
      wpAny (model P w) X.A (letOwnedTupleGo tg (.ref it) u) (fun _ s2 => ∃ x H', Inv X pins σ H' s2 ∧ RelV x u ∧ J.yld i H x H' ∧ tn (i + 1) s2.heap ∧ ∀ b ∈ fp, H' b = none) E s1) E s
  done : ∀ (X : Cx), X.prog = P → X.w = w → X.K = K → X.calm = true → ∀ (i : Nat) (pins : List (Addr × Obj)) (s : Shared) (σ : St) (H : Hp) (E : Value → Shared → Prop), Inv X pins σ H s → (∀ b ∈ fp, FpOk X pins H b) → tn i s.heap → J.stop i H →
    wpAny (model P w) X.A (pyNext (.ref it)) (fun r s1 => r = none ∧ Inv X pins σ H s1) E s
  self : ∀ (A : Around) (i : Nat) (s : Shared) (Q : Value → Shared → Prop) (E : Value → Shared → Prop), tn i s.heap → Q (.ref it) s → wpAny (model P w) A (pyIter (.ref it)) Q E s
noncomputable abbrev TI := St → Hp → (It → Hp → Prop) → Prop
noncomputable def PIE (X : Cx) (pins : List (Addr × Obj)) (σ : St) (tg : Expr) (R : It → Hp → Prop) (itv : Value) (s2 : Shared) : Prop :=
  ∃ (it : Addr) (fp : List Addr) (tn : Nat → Heap → Prop) (J : It) (H' : Hp), itv = .ref it ∧ Inv X pins σ H' s2 ∧ Turn X.prog X.w X.K tg J fp it tn ∧ tn 0 s2.heap ∧ (∀ b ∈ fp, FpOk X pins H' b) ∧ R J H'
noncomputable def PI (X : Cx) (tg iter : Expr) (wi : TI) : Prop :=
  ∀ (pins : List (Addr × Obj)) (s : Shared) (σ : St) (H : Hp) (R : It → Hp → Prop), Inv X pins σ H s → wi σ H R →
    wpAny (model X.prog X.w) X.A (eval iter X.env) (fun v s1 => wpAny (model X.prog X.w) X.A (pyIter v) (PIE X pins σ tg R) X.xe s1) X.xe s
theorem go_of {M : Model} {A : Around} {E : Value → Shared → Prop} {s : Shared} {tg : Expr} {it : Addr} {u : Value} {o : Obj} {n : String} {vs : Array Value} {Q : Unit → Shared → Prop} (ho : s.heap.get? it = some o) (hc : o.cls = .type n) (hd : o.data = .fields vs)
    (hn : ["enumerate", "zip", "dict_itemiterator", "dict_reverseitemiterator", "odict_iterator", "itertools.zip_longest", "itertools.pairwise"].contains n = false) (hQ : Q () s) : wpAny M A (letOwnedTupleGo tg (.ref it) u) Q E s := by
  unfold letOwnedTupleGo
  cases tg <;> first
    | exact wpAny_pure hQ
    | (cases u <;> first
        | exact wpAny_pure hQ
        | (refine wpAny_bind (wpAny_load ho ?_)
           rw [hc, hd]
           show wpAny M A (if (["enumerate", "zip", "dict_itemiterator", "dict_reverseitemiterator", "odict_iterator", "itertools.zip_longest", "itertools.pairwise"].contains n && vs[0]? == some (rawInt _)) = true then _ else _) Q E s
           rw [if_neg (by intro h; rw [hn, Bool.false_and] at h; cases h)]
           exact wpAny_pure hQ))
noncomputable def Itl (K : PySem.W.Frag) (a : Addr) : It :=
  ⟨fun i H => ∃ xs x, SqL K H a xs ∧ xs[i]? = some x, fun i H x H' => H' = H ∧ ∀ xs, SqL K H a xs → xs[i]? = some x, fun i H => ∃ xs, SqL K H a xs ∧ xs.length ≤ i⟩
noncomputable def Itr (lo : Int) (n : Nat) : It := ⟨fun i _ => i < n, fun i H x H' => H' = H ∧ x = .int (lo + i), fun i _ => n ≤ i⟩
theorem turn_list {P : Program} {w : World} {K : PySem.W.Frag} {tg : Expr} (a it : Addr) : Turn P w K tg (Itl K a) [it] it (fun i h => h.IsListIter it a i) where
  mem := by simp
  obj := fun i h st b hb => by
    have e : b = it := by simpa using hb
    subst e
    obtain ⟨o, e, c, d⟩ := st
    exact ⟨o, e, fun v z => by rw [d] at z; cases z⟩
  keep := fun i h h' st k => st.at fun o e => k it (by simp) o e
  item := by
    intro X hP hw hK hc i pins s σ H E I hf st hg
    subst hP hw hK
    obtain ⟨xs, x, hq, hx⟩ := hg
    obtain ⟨its, rv, p, hz⟩ := I.list hq
    obtain ⟨u, hu, ru⟩ := rv.get hx
    obtain ⟨f0, f1, f2, f3, f4, f5⟩ := hf it (by simp)
    refine wpAny_pyNext_list_item st p.isList (x := u) (by simpa using hu) fun h' st' sb => ?_
    have I1 : Inv X pins σ H { s with heap := h' } := I.turned (t' := s.toks) (fun b o hb e => (sb.2 b hb).trans e) f0 f1 f3 f4 f5
    obtain ⟨o, e, c, d⟩ := id st'
    exact ⟨u, rfl, go_of (s := { s with heap := h' }) e c d (by decide) ⟨x, H, I1, ru, ⟨rfl, fun ys hy => by rw [I.list_inj hy hq]; exact hx⟩, st', fun b hb => (hf b hb).1⟩⟩
  done := by
    intro X hP hw hK hc i pins s σ H E I hf st hg
    subst hP hw hK
    obtain ⟨xs, hq, hx⟩ := hg
    obtain ⟨its, rv, p, hz⟩ := I.list hq
    obtain ⟨f0, f1, f2, f3, f4, f5⟩ := hf it (by simp)
    have hl := rv.length
    exact wpAny_pyNext_list_end (I.ok.hd hc) st p.isList (by simp; omega) fun h' eb => ⟨rfl, I.turned (t' := s.toks) (fun b o hb e => eb b o hb e) f0 f1 f3 f4 f5⟩
  self := fun _ _ _ _ _ st h => wpAny_pyIter_listiter st h
theorem turn_range {P : Program} {w : World} {K : PySem.W.Frag} {tg : Expr} (it : Addr) (lo : Int) (n : Nat) : Turn P w K tg (Itr lo n) [it] it (fun i h => IsRangeIter h it (lo + (i : Nat) * 1) ((n : Int) - (i : Nat)) 1) where
  mem := by simp
  obj := fun i h st b hb => by
    have e : b = it := by simpa using hb
    subst e
    exact ⟨_, st, fun v z => by
      have z' : Data.fields _ = Data.cell v := z
      cases z'⟩
  keep := fun i h h' st k => k it (by simp) _ st
  item := by
    intro X hP hw hK hc i pins s σ H E I hf st hg
    subst hP hw hK
    obtain ⟨f0, f1, f2, f3, f4, f5⟩ := hf it (by simp)
    have W := Walks.range (prog := X.prog) (w := X.w) (I.ok.hd hc) it lo 1 n
    refine W.item i s _ _ hg st fun v h' tk hv st' kk => ?_
    obtain ⟨t, rfl⟩ := hv
    have I1 : Inv X pins σ H { s with heap := h', toks := tk } := I.turned (fun b o hb e => kk b o (by simpa using hb) e) f0 f1 f3 f4 f5
    refine ⟨_, rfl, go_of (s := { s with heap := h', toks := tk }) (n := "range_iterator") st' rfl rfl (by decide) ⟨.int (lo + i), H, I1, ⟨t, ?_⟩, ⟨rfl, rfl⟩, st', fun b hb => (hf b hb).1⟩⟩
    rw [Int.mul_one]
  done := by
    intro X hP hw hK hc i pins s σ H E I hf st hg
    subst hP hw hK
    obtain ⟨f0, f1, f2, f3, f4, f5⟩ := hf it (by simp)
    exact wpAny_pyNext_range_end (I.ok.hd hc) st (by have : n ≤ i := hg; omega) fun h' eb => ⟨rfl, I.turned (t' := s.toks) (fun b o hb e => eb b o hb e) f0 f1 f3 f4 f5⟩
  self := fun _ _ _ _ _ st h => wpAny_pyIter_rangeiter st h
end L2
namespace L2
open PySem PySem.Spec PyProof.Rows
section
variable {X : Cx} {tg : Expr}
noncomputable def iList (K : PySem.W.Frag) (tl : TE) : TI := fun σ H R => tl σ H fun x H1 => ∃ a, x = .ref a ∧ (∃ xs, SqL K H1 a xs) ∧ R (Itl K a) H1
theorem pi_list {l : Expr} {tl : TE} (hl : PE X l tl) : PI X tg l (iList X.K tl) := by
  intro pins s σ H R I h
  refine thn (hl pins s σ H _ I h) fun v s1 ⟨x, H1, I1, r1, q1⟩ => ?_
  obtain ⟨a, e, ⟨xs, hq⟩, q⟩ := q1
  subst e
  cases r1
  obtain ⟨its, rv, p, hz⟩ := I1.list hq
  refine wpAny_pyIter_list p.isList ?_
  refine ⟨s1.heap.objs.size, [s1.heap.objs.size], _, _, H1, rfl, I1.kept (t' := s1.toks) fun b o e => Heap.get?_push_of_some _ e, turn_list a _, ⟨_, Heap.get?_push_size _ rfl, rfl, rfl⟩, fun b hb => ?_, q⟩
  have e : b = s1.heap.objs.size := by simpa using hb
  subst e
  exact I1.fpOk (Nat.le_refl _) (I1.hok.fresh (Nat.le_refl _))
theorem range_it {pins : List (Addr × Obj)} {σ : St} {H : Hp} {s : Shared} {R : It → Hp → Prop} {E : Value → Shared → Prop} {lo hi : Int} {t u v : Tok} {tk : Nat} (I : Inv X pins σ H s) (h1 : -(2 ^ 62) ≤ lo) (h2 : lo < 2 ^ 62) (h3 : -(2 ^ 62) ≤ hi) (h4 : hi < 2 ^ 62)
    (q : R (Itr lo (hi - lo).toNat) H) : wpAny (model X.prog X.w) X.A (pyIter (.ref s.heap.objs.size)) (PIE X pins σ tg R) E { s with heap := s.heap.push { cls := .type "range", data := .fields #[.int lo t, .int hi u, .int 1 v] }, toks := tk } := by
  refine wpAny_pyIter_range (IsRange.new ..) (small_one h1 h2 h3 h4) ?_
  have I1 : Inv X pins σ H { s with heap := s.heap.push { cls := .type "range", data := .fields #[.int lo t, .int hi u, .int 1 v] }, toks := tk } := I.kept fun b o e => Heap.get?_push_of_some _ e
  refine ⟨(s.heap.push { cls := .type "range", data := .fields #[.int lo t, .int hi u, .int 1 v] }).objs.size, [(s.heap.push { cls := .type "range", data := .fields #[.int lo t, .int hi u, .int 1 v] }).objs.size], _, _, H, rfl,
    I1.kept (t' := tk) fun b o e => Heap.get?_push_of_some _ e, turn_range _ lo (hi - lo).toNat, ?_, fun b hb => ?_, q⟩
  · have e1 : lo + ((0 : Nat) : Int) * 1 = lo := by simp
    have e2 : (((hi - lo).toNat : Nat) : Int) - ((0 : Nat) : Int) = Builtin.Range.rangeSize lo hi 1 := by rw [rangeSize_one]; split <;> omega
    show IsRangeIter _ _ (lo + ((0 : Nat) : Int) * 1) ((((hi - lo).toNat : Nat) : Int) - ((0 : Nat) : Int)) 1
    rw [e1, e2]
    exact Heap.get?_push_size _ rfl
  · have e : b = (s.heap.push { cls := .type "range", data := .fields #[.int lo t, .int hi u, .int 1 v] }).objs.size := by simpa using hb
    subst e
    exact I1.fpOk (Nat.le_refl _) (I1.hok.fresh (Nat.le_refl _))
noncomputable def iRng1 (ta : TA) : TI := fun σ H R => ta σ H fun vs H1 => ∃ j : Int, vs = [.int j] ∧ -(2 ^ 62) ≤ j ∧ j < 2 ^ 62 ∧ R (Itr 0 j.toNat) H1
noncomputable def iRng2 (ta : TA) : TI := fun σ H R => ta σ H fun vs H1 => ∃ i j : Int, vs = [.int i, .int j] ∧ (-(2 ^ 62) ≤ i ∧ i < 2 ^ 62 ∧ -(2 ^ 62) ≤ j ∧ j < 2 ^ 62) ∧ R (Itr i (j - i).toNat) H1
theorem pi_range1 {a : Expr} {ta : TA} {p pos : Pos} (hg : Gl X "range") (hm : X.mg "range" = none) (ha : PA X [a] ta) (hs : starEach [a] X.env = [(false, eval a X.env)] := by rfl) : PI X tg (.Call (.Name "range" p) [a] [] pos) (iRng1 ta) := by
  intro pins s σ H R I h
  refine Call_ (ld_blt I hg hm boot_range (PyProof.Rows.callWith_type1 (thn (ha pos pins s σ H _ I h) fun us s1 ⟨vs, H1, I1, r1, q1⟩ => ?_) hs rfl))
  obtain ⟨j, e, q1, q2, q⟩ := q1
  subst e
  cases r1 with
  | cons r rr =>
    cases rr
    obtain ⟨t, rfl⟩ := r
    exact call_range_1 (range_it I1 (by omega) (by omega) q1 q2 (by simpa using q))
theorem pi_range2 {a b : Expr} {ta : TA} {p pos : Pos} (hg : Gl X "range") (hm : X.mg "range" = none) (ha : PA X [a, b] ta) (hs : starEach [a, b] X.env = [(false, eval a X.env), (false, eval b X.env)] := by rfl) (hs2 : starEach [b] X.env = [(false, eval b X.env)] := by rfl) :
    PI X tg (.Call (.Name "range" p) [a, b] [] pos) (iRng2 ta) := by
  intro pins s σ H R I h
  refine Call_ (ld_blt I hg hm boot_range (PyProof.Rows.callWith_type1 (thn (ha pos pins s σ H _ I h) fun us s1 ⟨vs, H1, I1, r1, q1⟩ => ?_) (by rw [hs, hs2]) (by rw [hs2]; rfl)))
  obtain ⟨i, j, e, ⟨q1, q2, q3, q4⟩, q⟩ := q1
  subst e
  cases r1 with
  | cons r rr =>
    cases rr with
    | cons r' rr =>
      cases rr
      obtain ⟨t, rfl⟩ := r
      obtain ⟨t', rfl⟩ := r'
      exact call_range_2 (range_it I1 q1 q2 q3 q4 q)
noncomputable def tFor (wi : TI) (g : TG) (tb : TS) : TS := fun D σ H => wi σ H fun J H1 => ∃ W : Nat → Nat → St → Hp → Prop, (∃ m, W 0 m σ H1) ∧ ∀ i m σ H, W i m σ H →
  (J.stop i H ∧ D.nx σ H) ∨ (J.go i H ∧ ∃ N : St → Hp → Prop, (∀ σ' H', N σ' H' → ∃ m', m' < m ∧ W (i + 1) m' σ' H') ∧ ∀ x H', J.yld i H x H' → g x σ H' fun σ2 H2 => tb { D with nx := N, ct := N, bk := D.nx } σ2 H2)
noncomputable def pinsAt (fp : List Addr) (h : Heap) : List (Addr × Obj) := fp.filterMap fun b => (h.get? b).map fun o => (b, o)
theorem mem_pinsAt {fp : List Addr} {h : Heap} {b : Addr} {o : Obj} (hb : b ∈ fp) (e : h.get? b = some o) : (b, o) ∈ pinsAt fp h := List.mem_filterMap.mpr ⟨b, hb, by rw [e]; rfl⟩
theorem of_pinsAt {fp : List Addr} {h : Heap} {p : Addr × Obj} (hp : p ∈ pinsAt fp h) : p.1 ∈ fp ∧ h.get? p.1 = some p.2 := by
  obtain ⟨b, hb, e⟩ := List.mem_filterMap.mp hp
  cases q : h.get? b with
  | none => rw [q] at e; cases e
  | some o =>
    rw [q] at e
    have e' : (b, o) = p := Option.some.inj e
    subst e'
    exact ⟨hb, q⟩
theorem Inv.pinned {pins : List (Addr × Obj)} {σ : St} {H : Hp} {s : Shared} {fp : List Addr} (I : Inv X pins σ H s) (hf : ∀ b ∈ fp, FpOk X pins H b) (ho : ∀ b ∈ fp, ∃ o, s.heap.get? b = some o ∧ ∀ v, o.data ≠ .cell v) : Inv X (pins ++ pinsAt fp s.heap) σ H s :=
  I.pins_of fun p hp => (List.mem_append.mp hp).elim (fun z => I.pin p (List.mem_append_right _ z)) fun z => by
    obtain ⟨hb, e⟩ := of_pinsAt z
    obtain ⟨f0, f1, f2, _⟩ := hf p.1 hb
    obtain ⟨o, e', d⟩ := ho p.1 hb
    rw [e] at e'; cases e'
    exact ⟨e, f0, f1, f2, d⟩
theorem Inv.unpinned {pins pl : List (Addr × Obj)} {σ : St} {H : Hp} {s : Shared} (I : Inv X (pins ++ pl) σ H s) : Inv X pins σ H s := I.pins_of fun p hp => I.pin p (List.mem_append_right _ (List.mem_append_left _ hp))
theorem ps_for {iter : Expr} {body : List Stmt} {wi : TI} {g : TG} {tb : TS} {pos : Pos} (hp : PassesOwn (model X.prog X.w) X.A X.env X.xe) (hc : X.calm = true) (hi : PI X tg iter wi) (hg : PG X tg g) (hb : PSs X body tb)
    (hs : ∀ x, foldedSetIterable iter X.env x = pure x := by intro _; rfl) : PS X (.For tg iter body [] pos) (tFor wi g tb) := by
  intro pins s σ H D I h
  refine wpAny_For (thn (hi pins s σ H _ I h) fun v s1 h1 => thn h1 fun itv s2 h2 => ?_) hs
  obtain ⟨it, fp, tn, J, H2, e, I2, T, st2, f2, W, ⟨m0, w0⟩, turn⟩ := h2
  subst e
  -- what stays true of the iterator's objects through the loop
  have stat : ∀ {H' : Hp}, (∀ b ∈ fp, H' b = none) → ∀ b ∈ fp, FpOk X pins H' b := fun hn b hb => ⟨hn b hb, (f2 b hb).2⟩
  refine codeAny_forLoop_any (fun n s' => ∃ i σ' H', Inv X pins σ' H' s' ∧ tn i s'.heap ∧ (∀ b ∈ fp, H' b = none) ∧ W i n σ' H') ?_ m0 ⟨0, σ, H2, I2, st2, fun b hb => (f2 b hb).1, w0⟩
  rintro n s3 ⟨i, σ3, H3, I3, st3, fr3, w3⟩
  rcases turn i n σ3 H3 w3 with ⟨stop, qn⟩ | ⟨go, N, hN, step⟩
  · refine wpAny_passesOwn hp (thn (T.done X rfl rfl rfl hc i pins s3 σ3 H3 X.xe I3 (stat fr3) st3 stop) fun r s4 ⟨hr, I4⟩ => ?_)
    subst hr
    exact wpAny_execs_nil ⟨σ3, H3, I4, qn⟩
  · refine wpAny_passesOwn hp (thn (T.item X rfl rfl rfl hc i pins s3 σ3 H3 X.xe I3 (stat fr3) st3 go) fun r s4 ⟨u, hr, h4⟩ => ?_)
    subst hr
    refine wpAny_passesOwn hp (thn h4 fun _ s5 ⟨x, H5, I5, r5, y5, st5, fr5⟩ => ?_)
    have I5' := I5.pinned (stat fr5) (T.obj _ _ st5)
    refine wpAny_passesOwn hp (thn (hg _ s5 σ3 H5 x u _ I5' r5 (step x H5 y5)) fun _ s6 ⟨σ6, H6, I6, q6⟩ => ?_)
    refine wpAny_passesOwn hp (thn (hb _ s6 σ6 H6 _ I6 q6) fun f s7 q7 => ?_)
    have again : ∀ {σ7 : St} {H7 : Hp}, Inv X (pins ++ pinsAt fp s5.heap) σ7 H7 s7 → N σ7 H7 → ∃ m, m < n ∧ ∃ i σ' H', Inv X pins σ' H' s7 ∧ tn i s7.heap ∧ (∀ b ∈ fp, H' b = none) ∧ W i m σ' H' := fun {σ7 H7} I7 n7 => by
      obtain ⟨m', hm, w7⟩ := hN σ7 H7 n7
      refine ⟨m', hm, i + 1, σ7, H7, I7.unpinned, T.keep _ _ _ st5 fun b hb o e => (I7.pin (b, o) (List.mem_append_right _ (List.mem_append_right _ (mem_pinsAt hb e)))).1, fun b hb => ?_, w7⟩
      obtain ⟨o, e, d⟩ := T.obj _ _ st5 b hb
      exact (I7.pin (b, o) (List.mem_append_right _ (List.mem_append_right _ (mem_pinsAt hb e)))).2.1
    cases f with
    | next => obtain ⟨σ7, H7, I7, n7⟩ := q7; exact again I7 n7
    | cont => obtain ⟨σ7, H7, I7, n7⟩ := q7; exact again I7 n7
    | brk => obtain ⟨σ7, H7, I7, q7⟩ := q7; exact ⟨σ7, H7, I7.unpinned, q7⟩
    | ret v => obtain ⟨x7, σ7, H7, I7, r7, q7⟩ := q7; exact ⟨x7, σ7, H7, I7.unpinned, r7, q7⟩
end
theorem for_list {K : PySem.W.Frag} {a : Addr} {xs : List V} {g : TG} {tb : TS} {D : Ends} {σ : St} {H : Hp} (Pv : Nat → St → Hp → Prop) (h0 : Pv 0 σ H) (hl : ∀ i σ H, i ≤ xs.length → Pv i σ H → SqL K H a xs)
    (hs : ∀ i x σ H, xs[i]? = some x → Pv i σ H → g x σ H fun σ2 H2 => tb { D with nx := Pv (i + 1), ct := Pv (i + 1), bk := D.nx } σ2 H2) (hd : ∀ σ H, Pv xs.length σ H → D.nx σ H) :
    ∃ W : Nat → Nat → St → Hp → Prop, (∃ m, W 0 m σ H) ∧ ∀ i m σ H, W i m σ H →
      ((Itl K a).stop i H ∧ D.nx σ H) ∨ ((Itl K a).go i H ∧ ∃ N : St → Hp → Prop, (∀ σ' H', N σ' H' → ∃ m', m' < m ∧ W (i + 1) m' σ' H') ∧ ∀ x H', (Itl K a).yld i H x H' → g x σ H' fun σ2 H2 => tb { D with nx := N, ct := N, bk := D.nx } σ2 H2) := by
  refine ⟨fun i m σ H => m = xs.length - i ∧ i ≤ xs.length ∧ Pv i σ H, ⟨xs.length, by simp, Nat.zero_le _, h0⟩, ?_⟩
  rintro i m σ H ⟨rfl, hi, p⟩
  have q := hl i σ H hi p
  by_cases hlt : i < xs.length
  · refine .inr ⟨⟨xs, xs[i], q, by simp [hlt]⟩, Pv (i + 1), fun σ' H' p' => ⟨xs.length - (i + 1), by omega, rfl, hlt, p'⟩, fun x H' y => ?_⟩
    obtain ⟨e, y⟩ := y
    subst e
    exact hs i x σ _ (y xs q) p
  · have e : i = xs.length := by omega
    subst e
    exact .inl ⟨⟨xs, q, Nat.le_refl _⟩, hd σ H p⟩
theorem for_range {lo : Int} {n : Nat} {g : TG} {tb : TS} {D : Ends} {σ : St} {H : Hp} (Pv : Nat → St → Hp → Prop) (h0 : Pv 0 σ H)
    (hs : ∀ i σ H, i < n → Pv i σ H → g (.int (lo + i)) σ H fun σ2 H2 => tb { D with nx := Pv (i + 1), ct := Pv (i + 1), bk := D.nx } σ2 H2) (hd : ∀ σ H, Pv n σ H → D.nx σ H) :
    ∃ W : Nat → Nat → St → Hp → Prop, (∃ m, W 0 m σ H) ∧ ∀ i m σ H, W i m σ H →
      ((Itr lo n).stop i H ∧ D.nx σ H) ∨ ((Itr lo n).go i H ∧ ∃ N : St → Hp → Prop, (∀ σ' H', N σ' H' → ∃ m', m' < m ∧ W (i + 1) m' σ' H') ∧ ∀ x H', (Itr lo n).yld i H x H' → g x σ H' fun σ2 H2 => tb { D with nx := N, ct := N, bk := D.nx } σ2 H2) := by
  refine ⟨fun i m σ H => m = n - i ∧ i ≤ n ∧ Pv i σ H, ⟨n, by simp, Nat.zero_le _, h0⟩, ?_⟩
  rintro i m σ H ⟨rfl, hi, p⟩
  by_cases hlt : i < n
  · refine .inr ⟨hlt, Pv (i + 1), fun σ' H' p' => ⟨n - (i + 1), by omega, rfl, hlt, p'⟩, fun x H' y => ?_⟩
    obtain ⟨e, y⟩ := y
    subst e y
    exact hs i σ _ hlt p
  · have e : i = n := by omega
    subst e
    exact .inl ⟨Nat.le_refl _, hd σ H p⟩
end L2
namespace L2
open PySem PySem.Spec PyProof.Rows
noncomputable abbrev R2 := V → V → Hp → VK → Prop
noncomputable def OpR (X : Cx) (f : Value → Value → Sem Value) (r : R2) : Prop :=
  ∀ (pins : List (Addr × Obj)) (s : Shared) (σ : St) (H : Hp) (x y : V) (v u : Value) (Q : VK), Inv X pins σ H s → RelV x v → RelV y u → r x y H Q →
    wpAny (model X.prog X.w) X.A (f v u) (EP X pins σ Q) X.xe s
noncomputable def UnR (X : Cx) (f : Value → Sem Value) (r : V → Hp → VK → Prop) : Prop :=
  ∀ (pins : List (Addr × Obj)) (s : Shared) (σ : St) (H : Hp) (x : V) (v : Value) (Q : VK), Inv X pins σ H s → RelV x v → r x H Q →
    wpAny (model X.prog X.w) X.A (f v) (EP X pins σ Q) X.xe s
noncomputable def CallR (X : Cx) (f : Value) (r : List V → Hp → VK → Prop) : Prop :=
  ∀ (pins : List (Addr × Obj)) (s : Shared) (σ : St) (H : Hp) (xs : List V) (us : List Value) (Q : VK), Inv X pins σ H s → Vals xs us → r xs H Q →
    wpAny (model X.prog X.w) X.A (call f us) (EP X pins σ Q) X.xe s
noncomputable def tOp (r : R2) (ta tb : TE) : TE := fun σ H Q => ta σ H fun x H1 => tb σ H1 fun y H2 => r x y H2 Q
noncomputable def tUn (r : V → Hp → VK → Prop) (ta : TE) : TE := fun σ H Q => ta σ H fun x H1 => r x H1 Q
noncomputable def rI (C : Int → Int → Prop) (g : Int → Int → V) : R2 := fun x y H Q => ∃ i j, x = .int i ∧ y = .int j ∧ C i j ∧ Q (g i j) H
noncomputable def rI0 (g : Int → Int → V) : R2 := fun x y H Q => ∃ i j, x = .int i ∧ y = .int j ∧ Q (g i j) H
noncomputable def rU (g : Int → V) : V → Hp → VK → Prop := fun x H Q => ∃ i, x = .int i ∧ Q (g i) H
section
variable {X : Cx} {a b c : Expr} {ta tb tc : TE} {pos : Pos}
theorem binT (ha : PE X a ta) (hb : PE X b tb) {pins : List (Addr × Obj)} {s : Shared} {σ : St} {H : Hp} {R : V → V → Hp → Prop} (I : Inv X pins σ H s)
    (h : ta σ H fun x H1 => tb σ H1 fun y H2 => R x y H2) {Q : Value → Shared → Prop} {f : Value → Value → Sem Value}
    (hf : ∀ v u s2 x y H2, Inv X pins σ H2 s2 → RelV x v → RelV y u → R x y H2 → wpAny (model X.prog X.w) X.A (f v u) Q X.xe s2) :
    wpAny (model X.prog X.w) X.A (eval a X.env) (fun v s₁ => wpAny (model X.prog X.w) X.A (eval b X.env) (fun u s₂ => wpAny (model X.prog X.w) X.A (f v u) Q X.xe s₂) X.xe s₁) X.xe s := by
  refine thn (ha pins s σ H _ I h) fun v s1 ⟨x, H1, I1, r1, q1⟩ => ?_
  refine thn (hb pins s1 σ H1 _ I1 q1) fun u s2 ⟨y, H2, I2, r2, q2⟩ => ?_
  exact hf v u s2 x y H2 I2 r1 r2 q2
theorem pe_op {op : Operator} {r : R2} (ho : OpR X (binaryOp op) r) (ha : PE X a ta) (hb : PE X b tb) : PE X (.BinOp a op b pos) (tOp r ta tb) := by
  intro pins s σ H Q I h
  exact wpAny_BinOp (binT ha hb I h fun v u s2 x y H2 I2 rx ry q => ho pins s2 σ H2 x y v u Q I2 rx ry q)
theorem pe_un {op : UnaryOp} {r : V → Hp → VK → Prop} (ho : UnR X (unaryOp op) r) (ha : PE X a ta) : PE X (.UnaryOp op a pos) (tUn r ta) := by
  intro pins s σ H Q I h
  exact UnaryOp_ (thn (ha pins s σ H _ I h) fun v s1 ⟨x, H1, I1, r1, q1⟩ => ho pins s1 σ H1 x v Q I1 r1 q1)
theorem opI {f : Value → Value → Sem Value} {C : Int → Int → Prop} {g : Int → Int → Int}
    (rule : ∀ (i j : Int) (t u : Tok) (s : Shared) (Q : Value → Shared → Prop) (E : Value → Shared → Prop), C i j → Q (.int (g i j) s.toks) { s with toks := s.toks + 1 } → wpAny (model X.prog X.w) X.A (f (.int i t) (.int j u)) Q E s) :
    OpR X f (rI C fun i j => .int (g i j)) := by
  intro pins s σ H x y v u Q I rx ry h
  obtain ⟨i, j, rfl, rfl, hc, q⟩ := h
  obtain ⟨t, rfl⟩ := rx
  obtain ⟨t', rfl⟩ := ry
  exact rule i j t t' s _ _ hc ⟨.int (g i j), H, I.tok _, ⟨_, rfl⟩, q⟩
theorem opI0 {f : Value → Value → Sem Value} {g : Int → Int → Int}
    (rule : ∀ (i j : Int) (t u : Tok) (s : Shared) (Q : Value → Shared → Prop) (E : Value → Shared → Prop), Q (.int (g i j) s.toks) { s with toks := s.toks + 1 } → wpAny (model X.prog X.w) X.A (f (.int i t) (.int j u)) Q E s) :
    OpR X f (rI0 fun i j => .int (g i j)) := by
  intro pins s σ H x y v u Q I rx ry h
  obtain ⟨i, j, rfl, rfl, q⟩ := h
  obtain ⟨t, rfl⟩ := rx
  obtain ⟨t', rfl⟩ := ry
  exact rule i j t t' s _ _ ⟨.int (g i j), H, I.tok _, ⟨_, rfl⟩, q⟩
theorem opB0 {f : Value → Value → Sem Value} {g : Int → Int → Bool}
    (rule : ∀ (i j : Int) (t u : Tok) (s : Shared) (Q : Value → Shared → Prop) (E : Value → Shared → Prop), Q (.bool (g i j)) s → wpAny (model X.prog X.w) X.A (f (.int i t) (.int j u)) Q E s) :
    OpR X f (rI0 fun i j => .bl (g i j)) := by
  intro pins s σ H x y v u Q I rx ry h
  obtain ⟨i, j, rfl, rfl, q⟩ := h
  obtain ⟨t, rfl⟩ := rx
  obtain ⟨t', rfl⟩ := ry
  exact rule i j t t' s _ _ ⟨.bl (g i j), H, I, rfl, q⟩
noncomputable def CPow (i j : Int) : Prop := 0 ≤ j ∧ j ≤ 1000000 ∧ i.natAbs < 2 ^ 64
noncomputable def CMul (i j : Int) : Prop := (-(2 ^ 64) < i ∧ i < 2 ^ 64) ∨ (-(2 ^ 64) < j ∧ j < 2 ^ 64)
theorem CMul.ok {i j : Int} (h : CMul i j) : IntMulOk i j := by
  rcases h with ⟨h1, h2⟩ | ⟨h1, h2⟩
  · exact .of_left (intBits_le_64 h1 h2)
  · exact .of_right (intBits_le_64 h1 h2)
theorem op_add : OpR X (binaryOp .Add) (rI0 fun i j => .int (i + j)) := opI0 fun _ _ _ _ _ _ _ q => add_int q
theorem op_sub : OpR X (binaryOp .Sub) (rI0 fun i j => .int (i - j)) := opI0 fun _ _ _ _ _ _ _ q => sub_int q
theorem op_mul : OpR X (binaryOp .Mult) (rI CMul fun i j => .int (i * j)) := opI fun _ _ _ _ _ _ _ hc q => mul_int q hc.ok
theorem op_mod : OpR X (binaryOp .Mod) (rI (fun _ j => 0 < j) fun i j => .int (i % j)) := opI fun i j _ _ _ _ _ hc q => by
  have h1 : (0 : Int) < j := hc
  exact mod_int' (by omega) (by rw [Int.fmod_eq_emod_of_nonneg i (by omega)]; exact q)
theorem op_pow : OpR X (binaryOp .Pow) (rI CPow fun i j => .int (i ^ j.toNat)) := opI fun _ _ _ _ _ _ _ hc q => pow_int_small hc.1 hc.2.1 hc.2.2 q
theorem unI {f : Value → Sem Value} {g : Int → Int}
    (rule : ∀ (i : Int) (t : Tok) (s : Shared) (Q : Value → Shared → Prop) (E : Value → Shared → Prop), Q (.int (g i) s.toks) { s with toks := s.toks + 1 } → wpAny (model X.prog X.w) X.A (f (.int i t)) Q E s) :
    UnR X f (rU fun i => .int (g i)) := by
  intro pins s σ H x v Q I rx h
  obtain ⟨i, rfl, q⟩ := h
  obtain ⟨t, rfl⟩ := rx
  exact rule i t s _ _ ⟨.int (g i), H, I.tok _, ⟨_, rfl⟩, q⟩
theorem un_neg : UnR X (unaryOp .USub) (rU fun i => .int (-i)) := unI fun _ _ _ _ _ q => neg_int q
end
noncomputable def scal : V → V → Bool
  | .non, .non => true | .non, .int _ => true | .int _, .non => true | .non, .bl _ => true | .bl _, .non => true | .non, .str _ => true | .str _, .non => true
  | .int _, .int _ => true | .bl _, .bl _ => true | .str _, .str _ => true | .byt _, .byt _ => true
  | .int _, .str _ => true | .str _, .int _ => true | .bl _, .str _ => true | .str _, .bl _ => true
  | _, _ => false
noncomputable def rEq : R2 := fun x y H Q => scal x y = true ∧ Q (.bl (decide (x = y))) H
noncomputable def rNe : R2 := fun x y H Q => scal x y = true ∧ Q (.bl (!decide (x = y))) H
theorem dec_int {i j : Int} : decide (V.int i = V.int j) = (i == j) := by
  rw [Bool.eq_iff_iff]
  simp
theorem dec_bl {i j : Bool} : decide (V.bl i = V.bl j) = (i == j) := by
  rw [Bool.eq_iff_iff]
  simp
theorem dec_str {i j : Str} : decide (V.str i = V.str j) = (i == j) := by
  rw [Bool.eq_iff_iff]
  simp
theorem dec_byt {i j : Array UInt8} : decide (V.byt i = V.byt j) = (i.toList == j.toList) := by
  rw [Bool.eq_iff_iff]
  cases i
  cases j
  simp
section
variable {X : Cx} {a b c : Expr} {ta tb tc : TE} {pos : Pos}
theorem fin_bl {pins : List (Addr × Obj)} {σ : St} {H : Hp} {s : Shared} {Q : VK} {k k' : Bool} (I : Inv X pins σ H s) (q : Q (.bl k) H) (e : k = k') : EP X pins σ Q (.bool k') s := by
  subst e
  exact ⟨.bl k, H, I, rfl, q⟩
theorem op_eq : OpR X (compareOp .Eq) rEq := by
  intro pins s σ H x y v u Q I rx ry h
  obtain ⟨hs, q⟩ := h
  cases x with
  | non =>
    cases rx
    cases y with
    | non => cases ry; exact PySem.EqNone.eq_none_none (fin_bl I q (by simp))
    | bl j => cases ry; exact PySem.EqNone.eq_none_bool (fin_bl I q (by simp))
    | int j => obtain ⟨t', rfl⟩ := ry; exact PySem.EqNone.eq_none_int (fin_bl I q (by simp))
    | str j => obtain ⟨t', rfl⟩ := ry; exact PySem.EqNone.eq_none_str (fin_bl I q (by simp))
    | _ => exact absurd (show false = true from hs) Bool.false_ne_true
  | bl i =>
    cases rx
    cases y with
    | non => cases ry; exact PySem.EqNone.eq_bool_none (fin_bl I q (by simp))
    | bl j => cases ry; exact eq_bool (fin_bl I q dec_bl)
    | str j => obtain ⟨t', rfl⟩ := ry; exact PySem.EqMixed.eq_bool_str (fin_bl I q (by simp))
    | _ => exact absurd (show false = true from hs) Bool.false_ne_true
  | int i =>
    obtain ⟨t, rfl⟩ := rx
    cases y with
    | non => cases ry; exact PySem.EqNone.eq_int_none (fin_bl I q (by simp))
    | int j => obtain ⟨t', rfl⟩ := ry; exact eq_int (fin_bl I q dec_int)
    | str j => obtain ⟨t', rfl⟩ := ry; exact PySem.EqMixed.eq_int_str (fin_bl I q (by simp))
    | _ => exact absurd (show false = true from hs) Bool.false_ne_true
  | str i =>
    obtain ⟨t, rfl⟩ := rx
    cases y with
    | non => cases ry; exact PySem.EqNone.eq_str_none (fin_bl I q (by simp))
    | bl j => cases ry; exact PySem.EqMixed.eq_str_bool (fin_bl I q (by simp))
    | int j => obtain ⟨t', rfl⟩ := ry; exact PySem.EqMixed.eq_str_int (fin_bl I q (by simp))
    | str j => obtain ⟨t', rfl⟩ := ry; exact eq_str (fin_bl I q dec_str)
    | _ => exact absurd (show false = true from hs) Bool.false_ne_true
  | byt i =>
    obtain ⟨t, rfl⟩ := rx
    cases y with
    | byt j => obtain ⟨t', rfl⟩ := ry; exact PySem.W.eq_bytes (fin_bl I q dec_byt)
    | _ => exact absurd (show false = true from hs) Bool.false_ne_true
  | _ => cases y <;> exact absurd (show false = true from hs) Bool.false_ne_true
theorem op_ne : OpR X (compareOp .NotEq) rNe := by
  intro pins s σ H x y v u Q I rx ry h
  obtain ⟨hs, q⟩ := h
  cases x with
  | non =>
    cases rx
    cases y with
    | non => cases ry; exact PySem.EqNone.ne_none_none (fin_bl I q (by simp))
    | bl j => cases ry; exact PySem.EqNone.ne_none_bool (fin_bl I q (by simp))
    | int j => obtain ⟨t', rfl⟩ := ry; exact PySem.EqNone.ne_none_int (fin_bl I q (by simp))
    | str j => obtain ⟨t', rfl⟩ := ry; exact PySem.EqNone.ne_none_str (fin_bl I q (by simp))
    | _ => exact absurd (show false = true from hs) Bool.false_ne_true
  | bl i =>
    cases rx
    cases y with
    | non => cases ry; exact PySem.EqNone.ne_bool_none (fin_bl I q (by simp))
    | bl j => cases ry; exact ne_bool (fin_bl I q (congrArg not dec_bl))
    | str j => obtain ⟨t', rfl⟩ := ry; exact PySem.EqMixed.ne_bool_str (fin_bl I q (by simp))
    | _ => exact absurd (show false = true from hs) Bool.false_ne_true
  | int i =>
    obtain ⟨t, rfl⟩ := rx
    cases y with
    | non => cases ry; exact PySem.EqNone.ne_int_none (fin_bl I q (by simp))
    | int j => obtain ⟨t', rfl⟩ := ry; exact ne_int (fin_bl I q (congrArg not dec_int))
    | str j => obtain ⟨t', rfl⟩ := ry; exact PySem.EqMixed.ne_int_str (fin_bl I q (by simp))
    | _ => exact absurd (show false = true from hs) Bool.false_ne_true
  | str i =>
    obtain ⟨t, rfl⟩ := rx
    cases y with
    | non => cases ry; exact PySem.EqNone.ne_str_none (fin_bl I q (by simp))
    | bl j => cases ry; exact PySem.EqMixed.ne_str_bool (fin_bl I q (by simp))
    | int j => obtain ⟨t', rfl⟩ := ry; exact PySem.EqMixed.ne_str_int (fin_bl I q (by simp))
    | str j => obtain ⟨t', rfl⟩ := ry; exact ne_str (fin_bl I q (congrArg not dec_str))
    | _ => exact absurd (show false = true from hs) Bool.false_ne_true
  | byt i =>
    obtain ⟨t, rfl⟩ := rx
    cases y with
    | byt j => obtain ⟨t', rfl⟩ := ry; exact PySem.W.ne_bytes (fin_bl I q (congrArg not dec_byt))
    | _ => exact absurd (show false = true from hs) Bool.false_ne_true
  | _ => cases y <;> exact absurd (show false = true from hs) Bool.false_ne_true
theorem op_lt : OpR X (compareOp .Lt) (rI0 fun i j => .bl (decide (i < j))) := opB0 fun _ _ _ _ _ _ _ q => lt_int q
theorem op_gt : OpR X (compareOp .Gt) (rI0 fun i j => .bl (decide (j < i))) := opB0 fun _ _ _ _ _ _ _ q => gt_int q
theorem op_ge : OpR X (compareOp .GtE) (rI0 fun i j => .bl (decide (j ≤ i))) := opB0 fun _ _ _ _ _ _ _ q => ge_int q
theorem op_isN : OpR X (compareOp .Is) (fun x y H Q => y = .non ∧ Q (.bl (decide (x = .non))) H) := by
  intro pins s σ H x y v u Q I rx ry h
  obtain ⟨rfl, q⟩ := h
  cases ry
  refine is_none_gen (fin_bl I q ?_)
  cases x <;> first
    | (cases rx; rfl)
    | (obtain ⟨t, rfl⟩ := rx; rfl)
theorem OpR.or {f : Value → Value → Sem Value} {r r' : R2} (h : OpR X f r) (h' : OpR X f r') : OpR X f (fun x y H Q => r x y H Q ∨ r' x y H Q) := by
  intro pins s σ H x y v u Q I rx ry q
  rcases q with q | q
  · exact h pins s σ H x y v u Q I rx ry q
  · exact h' pins s σ H x y v u Q I rx ry q
theorem nomark (b : Expr) {op : CmpOp} (h : op ≠ .In := by decide) (h2 : op ≠ .NotIn := by decide) : behindInMarks op b = false := by
  have e1 : (op == CmpOp.In) = false := by cases op <;> first | rfl | exact absurd rfl h
  have e2 : (op == CmpOp.NotIn) = false := by cases op <;> first | rfl | exact absurd rfl h2
  cases b <;> simp [behindInMarks, e1, e2]
theorem pe_cmpR {op : CmpOp} {r : R2} (ho : OpR X (compareOp op) r) (ha : PE X a ta) (hb : PE X b tb) (hm : behindInMarks op b = false) : PE X (.Compare a [op] [b] pos) (tOp r ta tb) := by
  intro pins s σ H Q I h
  exact wpAny_Compare1 (binT ha hb I h fun v u s2 x y H2 I2 rx ry q => ho pins s2 σ H2 x y v u Q I2 rx ry q) hm
noncomputable def tTest (t : TE) : TT := fun σ H Q => t σ H fun x H' => ∃ k, x = .bl k ∧ Q k H'
theorem pt_cmpR {op : CmpOp} {r : R2} (ho : OpR X (compareOp op) r) (ha : PE X a ta) (hb : PE X b tb) (hm : behindInMarks op b = false) : PT X (.Compare a [op] [b] pos) (tTest (tOp r ta tb)) := by
  intro pins s σ H Q I h
  refine wpAny_isTrue_Compare1 (thn (ha pins s σ H _ I h) fun v s1 ⟨x, H1, I1, r1, q1⟩ => thn (hb pins s1 σ H1 _ I1 q1) fun u s2 ⟨y, H2, I2, r2, q2⟩ =>
    thn (ho pins s2 σ H2 x y v u _ I2 r1 r2 q2) fun c s3 ⟨z, H3, I3, r3, k, e, q3⟩ => ?_) hm
  subst e
  cases r3
  exact wpAny_truthy_bool ⟨H3, I3, q3⟩
theorem line63 : (sizeLine : Nat) < 2 ^ 63 := by rw [sizeLine_eq]; decide
theorem op_add_str : OpR X (binaryOp .Add) (fun x y H Q => ∃ i j, x = .str i ∧ y = .str j ∧ i.length + j.length ≤ sizeLine ∧ Q (.str (i ++ j)) H) := by
  intro pins s σ H x y v u Q I rx ry h
  obtain ⟨i, j, rfl, rfl, hz, q⟩ := h
  obtain ⟨t, rfl⟩ := rx
  obtain ⟨t', rfl⟩ := ry
  exact add_str (fun t' tk => ⟨.str (i ++ j), H, I.tok _, ⟨_, rfl⟩, q⟩) hz
theorem vals1 {x : V} {us : List Value} (r : Vals [x] us) : ∃ u, us = [u] ∧ RelV x u := by
  cases r with
  | cons r1 r2 => cases r2; exact ⟨_, rfl, r1⟩
theorem vals2 {x y : V} {us : List Value} (r : Vals [x, y] us) : ∃ u w', us = [u, w'] ∧ RelV x u ∧ RelV y w' := by
  cases r with
  | cons r1 r2 =>
    cases r2 with
    | cons r3 r4 => cases r4; exact ⟨_, _, rfl, r1, r3⟩
end
end L2
namespace L2
open PySem PySem.Spec PyProof.Rows
structure ObjM (h : Heap) (x dx C : Addr) (mA : Str → Option Value) : Prop where
  obj : h.get? x = some (PySem.W.instObj C dx)
  ns : h.Ns1 dx mA
  ne : dx ≠ x
theorem lookIn_ns {h : Heap} {dx : Addr} {mA : Str → Option Value} (n : h.Ns1 dx mA) : ∃ od, h.get? dx = some od ∧ ∀ name, PySem.W.lookIn name od = some (mA name) := by
  obtain ⟨o, es, ep, ho, hd, hk, _, hm⟩ := n
  refine ⟨o, ho, fun name => ?_⟩
  have e := hm name
  unfold nsFind findBy at e
  rw [← Array.find?_toList] at e
  unfold PySem.W.lookIn
  rw [hd]
  dsimp only
  split
  · rename_i y q
    rw [q] at e
    exact congrArg some e
  · rename_i q
    rw [q] at e
    have a : es.toList.any (·.refKey) = false := by
      rw [List.any_eq_false]
      intro y hy
      obtain ⟨z, t, hkey⟩ := hk y (Array.mem_toList_iff.mp hy)
      simp [DictEntry.refKey, hkey]
    have a' : ¬ es.toList.any (·.refKey) = true := by rw [a]; exact Bool.false_ne_true
    rw [if_neg a']
    exact congrArg some e
theorem ObjM.look {h : Heap} {x dx C : Addr} {mA : Str → Option Value} (I : ObjM h x dx C mA) : ∃ od, PySem.W.InstAt h x (PySem.W.instObj C dx) C (some od) ∧ ∀ name, PySem.W.lookIn name od = some (mA name) :=
  let ⟨od, ho, hl⟩ := lookIn_ns I.ns
  ⟨od, ⟨I.obj, rfl, rfl, ho⟩, hl⟩
section
variable {prog : Program} {w : World} {A : Around} {E : Value → Shared → Prop} {s : Shared} {K : PySem.W.Frag} {x dx C f : Addr} {mA : Str → Option Value} {name : Str} {v : Value}
theorem get_map {expr : Bool} {Q : Value → Shared → Prop} (X : K.In s.heap) (I : ObjM s.heap x dx C mA) (hg : PySem.W.plainGet K C name = true) (hh : PySem.W.hasDictIn K C = true)
    (ha : PySem.W.findIn K (.ref C) name = some none) (hv : mA name = some v) (hv' : PySem.W.handedIn v = true) (h : Q v { s with toks := s.toks + 1 }) :
    wpAny (model prog w) A (getAttr (.ref x) name expr) Q E s := by
  obtain ⟨od, J, hl⟩ := I.look
  exact PySem.W.get_value X J (PySem.W.plainGet_of hg).1 (PySem.W.findObj_own hh ha rfl (by rw [hl, hv])) hv' h
theorem get_meth {pl : Sem Bool} {Q : Value × List Value → Shared → Prop} (X : K.In s.heap) (I : ObjM s.heap x dx C mA) (hg : PySem.W.plainGet K C name = true)
    (hf : PySem.W.findIn K (.ref C) name = some (some (.ref f))) (ht : PySem.W.isFn K (.ref f) = true) (hv : mA name = none) (h : Q (.ref f, [.ref x]) s) :
    wpAny (model prog w) A (getMethod (.ref x) name pl) Q E s := by
  obtain ⟨od, J, hl⟩ := I.look
  exact PySem.W.method_fn X J (PySem.W.plainGet_of hg).1 (PySem.W.plainGet_of hg).2 hf (beq_iff_eq.mp ht) (by show (PySem.W.lookIn name od).map (·.isSome) = some false; rw [hl, hv]; rfl) h
theorem set_map {ns : List Str} {Q : Unit → Shared → Prop} (X : K.In s.heap) (I : ObjM s.heap x dx C mA)
    (hs : PySem.W.findIn K (.ref C) "__setattr__" = some (some (.builtin "object.__setattr__"))) (hp : PySem.W.plainOver K C = true) (ht : PySem.W.takerIn K C name = some none) (hh : PySem.W.hasDictIn K C = true)
    (hw : PySem.Within mA ns) (hsz : ns.length ≤ sizeLine)
    (h : ∀ h', ObjM h' x dx C (fun y => if y = name then some v else mA y) → Heap.SameBut dx s.heap h' → Q () { s with heap := h', toks := s.toks + 2 }) :
    wpAny (model prog w) A (setAttr (.ref x) name v) Q E s := by
  obtain ⟨od, J, hl⟩ := I.look
  refine PySem.W.set_plain X J hs (PySem.W.osa_open (s := { s with toks := s.toks + 1 }) (r := none) X J hp ht fun b => ?_)
  obtain ⟨cd, hc, hd'⟩ := PySem.W.any_some hh
  have hx : s.heap.get? x = some ⟨.ref C, some dx, .plain, #[]⟩ := I.obj
  refine wpAny_bind (wpAny_pure (wpAny_bind (wpAny_bind (wpAny_loadPart hx (wpAny_bind (PySem.W.Looks.here (s := { s with toks := s.toks + 1 }) (PySem.W.looks_clsIn X hc) ?_))))))
  rw [hd']
  refine wpAny_pure (a := some dx) (wpAny_bind (wpAny_pure (wpAny_bind ?_)))
  refine wpAny_nsSet1 (s := { s with toks := s.toks + 1 }) I.ns fun h' hn2 hs2 => ?_
  obtain ⟨oD, esD, epD, hoD, hdD, hcD⟩ := hn2.count (PySem.Within.cons name v hw)
  refine wpAny_bind (wpAny_lookBehind hoD (by rw [hdD]; exact pastItsLine_dict (Nat.le_trans hcD (by rw [List.length_cons]; omega))) ?_)
  exact wpAny_pure (h _ ⟨(hs2.2 _ (Ne.symm I.ne)).trans I.obj, hn2, I.ne⟩ hs2)
theorem make_map {R : Result → Shared → Prop} {vs : List Value} {kw : List (Str × Value)} (X : K.In s.heap) (hm : PySem.W.makesIn K C = true)
    (hi : PySem.W.findIn K (.ref C) "__init__" = some (some (.ref f))) (hf : PySem.W.typeIn K (.ref f) = some (.type "function"))
    (h : codeAny (model prog w) (A.under (.builtin "type.__call__" ⟨.ref C :: vs, kw⟩)) (.call (.ref f) ⟨.ref (s.heap.objs.size + 1) :: vs, kw⟩) (PySem.W.InitBack (s.heap.objs.size + 1) R)
      { s with heap := (s.heap.push PySem.W.emptyDict).push (PySem.W.instObj C s.heap.objs.size) }) :
    codeAny (model prog w) A (.call (.ref C) ⟨vs, kw⟩) R s := by
  obtain ⟨hh, g, d, t, os⟩ := s
  exact PySem.W.make_core (PySem.W.makes_of X hm) (PySem.W.looks_findIn X hi) (fun self => PySem.W.bind_fn X self hf) (.inl rfl) h
end
noncomputable def putF (f : Str) (v : V) : List (Str × V) → List (Str × V)
  | [] => [(f, v)]
  | (g, x) :: r => if g = f then (g, v) :: r else (g, x) :: putF f v r
theorem lookup_putF (f g : Str) (v : V) : ∀ fs : List (Str × V), (putF f v fs).lookup g = if g = f then some v else fs.lookup g
  | [] => by
    show List.lookup g [(f, v)] = _
    by_cases h : g = f
    · have hb : (g == f) = true := beq_iff_eq.mpr h
      simp only [List.lookup, hb, if_pos h]
    · have hb : (g == f) = false := beq_eq_false_iff_ne.mpr h
      simp only [List.lookup, hb, if_neg h]
  | (k, x) :: r => by
    have ih := lookup_putF f g v r
    rw [show putF f v ((k, x) :: r) = (if k = f then (k, v) :: r else (k, x) :: putF f v r) from rfl]
    by_cases hk : k = f
    · rw [if_pos hk]
      by_cases h : g = k
      · have hb : (g == k) = true := beq_iff_eq.mpr h
        simp only [List.lookup, hb, if_pos (h.trans hk)]
      · have hb : (g == k) = false := beq_eq_false_iff_ne.mpr h
        simp only [List.lookup, hb, if_neg (fun e : g = f => h (e.trans hk.symm))]
    · rw [if_neg hk]
      by_cases h : g = k
      · have hb : (g == k) = true := beq_iff_eq.mpr h
        simp only [List.lookup, hb, if_neg (fun e : g = f => hk (h.symm.trans e))]
      · have hb : (g == k) = false := beq_eq_false_iff_ne.mpr h
        simp only [List.lookup, hb]
        exact ih
theorem keys_putF (f : Str) (v : V) : ∀ fs : List (Str × V), f ∈ (putF f v fs).map (·.1) ∧ ∀ g, g ∈ fs.map (·.1) → g ∈ (putF f v fs).map (·.1)
  | [] => ⟨by simp [putF], fun g h => by simp at h⟩
  | (k, x) :: r => by
    obtain ⟨i1, i2⟩ := keys_putF f v r
    rw [show putF f v ((k, x) :: r) = (if k = f then (k, v) :: r else (k, x) :: putF f v r) from rfl]
    by_cases hk : k = f
    · rw [if_pos hk]
      subst hk
      exact ⟨by simp, fun g h => by simpa using h⟩
    · rw [if_neg hk]
      refine ⟨?_, fun g h => ?_⟩
      · rw [List.map_cons]
        exact List.mem_cons_of_mem _ i1
      · rw [List.map_cons] at h ⊢
        rcases List.mem_cons.mp h with e | e
        · exact List.mem_cons.mpr (.inl e)
        · exact List.mem_cons_of_mem _ (i2 g e)
theorem length_putF (f : Str) (v : V) : ∀ fs : List (Str × V), (putF f v fs).length ≤ fs.length + 1
  | [] => by simp [putF]
  | (k, x) :: r => by
    have ih := length_putF f v r
    rw [show putF f v ((k, x) :: r) = (if k = f then (k, v) :: r else (k, x) :: putF f v r) from rfl]
    by_cases hk : k = f
    · rw [if_pos hk, List.length_cons, List.length_cons]; omega
    · rw [if_neg hk, List.length_cons, List.length_cons]; omega
theorem RelO.some_of {v : V} {o : Option Value} (r : RelO (some v) o) : ∃ u, o = some u ∧ RelV v u := by
  cases o with
  | none => exact (show False from r).elim
  | some u => exact ⟨u, rfl, r⟩
theorem RelO.none_of {o : Option Value} (r : RelO none o) : o = none := by
  cases o with
  | none => rfl
  | some u => exact (show False from r).elim
theorem handed_of {v : V} {u : Value} (r : RelV v u) : PySem.W.handedIn u = true := by
  cases v with
  | non => cases (show u = Value.none from r); rfl
  | bl b => cases (show u = Value.bool b from r); rfl
  | int i => obtain ⟨t, e⟩ := (show ∃ t, u = Value.int i t from r); cases e; rfl
  | str x => obtain ⟨t, e⟩ := (show ∃ t, u = Value.str x t from r); cases e; rfl
  | byt b => obtain ⟨t, e⟩ := (show ∃ t, u = Value.bytes b t from r); cases e; rfl
  | flt b => obtain ⟨t, e⟩ := (show ∃ t, u = Value.float b t from r); cases e; rfl
  | ref a => cases (show u = Value.ref a from r); rfl
  | ty n => cases (show u = Value.type n from r); rfl
section
variable {P : Program} {w : World} {H H' : Hp} {h h' : Heap} {a C dx : Addr} {fs fs' : List (Str × V)}
theorem ins_get (hok : HOk P w H h) (e : H a = some (.ins C dx fs)) : ∃ mA, ObjM h a dx C mA ∧ (∀ f, RelO (fs.lookup f) (mA f)) ∧ PySem.Within mA (fs.map (·.1)) ∧ fs.length ≤ 1000 ∧ H dx = some (.own a) := by
  obtain ⟨d, z, ne, ob, mA, n, r, q⟩ := (show ObjOk P w H h a (.ins C dx fs) from hok a _ e)
  exact ⟨mA, ⟨ob, n, ne⟩, r, q, z, d⟩
end
structure Cls (K : PySem.W.Frag) (C : Addr) : Prop where
  pg : PySem.W.plainGet K C Str.empty = true
  hd : PySem.W.hasDictIn K C = true
  po : PySem.W.plainOver K C = true
  sa : PySem.W.findIn K (.ref C) "__setattr__" = some (some (.builtin "object.__setattr__"))
theorem Cls.get {K : PySem.W.Frag} {C : Addr} (c : Cls K C) (f : Str) : PySem.W.plainGet K C f = true := c.pg
noncomputable def NoAttr (K : PySem.W.Frag) (C : Addr) (f : Str) : Prop := PySem.W.findIn K (.ref C) f = some none
theorem NoAttr.taker {K : PySem.W.Frag} {C : Addr} {f : Str} (n : NoAttr K C f) : PySem.W.takerIn K C f = some none := by
  unfold PySem.W.takerIn
  rw [show PySem.W.findIn K (.ref C) f = some none from n]
  rfl
structure Meth (K : PySem.W.Frag) (C : Addr) (m : Str) (f : Addr) : Prop where
  at_ : PySem.W.findIn K (.ref C) m = some (some (.ref f))
  fn : PySem.W.isFn K (.ref f) = true
  kp : PySem.W.keepIn K (.ref f) = true
section
variable {X : Cx} {pins : List (Addr × Obj)} {σ : St} {H : Hp} {s : Shared} {a C dx : Addr} {fs : List (Str × V)} {f : Str} {v : V} {A : Around} {E : Value → Shared → Prop}
theorem getattr_ok {b : Bool} {Q : Value → Shared → Prop} (I : Inv X pins σ H s) (e : H a = some (.ins C dx fs)) (c : Cls X.K C) (n : NoAttr X.K C f) (l : fs.lookup f = some v)
    (h : ∀ u s', Inv X pins σ H s' → RelV v u → Q u s') : wpAny (model X.prog X.w) A (getAttr (.ref a) f b) Q E s := by
  obtain ⟨mA, O, r, _, _, _⟩ := ins_get I.hok e
  obtain ⟨u, hu, ru⟩ := RelO.some_of (v := v) (o := mA f) (by rw [← l]; exact r f)
  exact get_map I.kIn O (c.get f) c.hd n hu (handed_of ru) (h u _ (I.tok _) ru)
theorem getmeth_ok {m : Str} {g : Addr} {pl : Sem Bool} {Q : Value × List Value → Shared → Prop} (I : Inv X pins σ H s) (e : H a = some (.ins C dx fs)) (c : Cls X.K C) (k : Meth X.K C m g) (l : fs.lookup m = none)
    (h : Q (.ref g, [.ref a]) s) : wpAny (model X.prog X.w) A (getMethod (.ref a) m pl) Q E s := by
  obtain ⟨mA, O, r, _, _, _⟩ := ins_get I.hok e
  have hn : mA m = none := RelO.none_of (by rw [← l]; exact r m)
  exact get_meth I.kIn O (c.get m) k.at_ k.fn hn h
theorem setattr_ok {y : V} {u : Value} {Q : Unit → Shared → Prop} (I : Inv X pins σ H s) (e : H a = some (.ins C dx fs)) (c : Cls X.K C) (n : NoAttr X.K C f) (hl : fs.length < 1000) (ry : RelV y u)
    (h : ∀ s', Inv X pins σ (upd H a (.ins C dx (putF f y fs))) s' → Q () s') : wpAny (model X.prog X.w) A (setAttr (.ref a) f u) Q E s := by
  obtain ⟨mA, O, r, wi, _, ho⟩ := ins_get I.hok e
  have hz : (fs.map (·.1)).length ≤ sizeLine := by rw [List.length_map, sizeLine_eq]; omega
  refine set_map I.kIn O c.sa c.po n.taker c.hd wi hz fun h' O' sb => h _ ?_
  have hd : ∃ o, h'.get? dx = some o := let ⟨o, _, _, e', _⟩ := O'.ns; ⟨o, e'⟩
  refine I.write (x := a) (e := dx) (by rw [e]; exact True.intro) (.inr ho) (fun b q hb z => (sb.2 b hb).trans z) hd ?_
  refine ⟨by rw [upd_ne O.ne]; exact ho, ?_, O.ne, O'.obj, _, O'.ns, fun g => ?_, fun g hg => ?_⟩
  · have := length_putF f y fs; omega
  · show RelO ((putF f y fs).lookup g) (if g = f then some u else mA g)
    rw [lookup_putF]
    by_cases q : g = f
    · rw [if_pos q, if_pos q]; exact ry
    · rw [if_neg q, if_neg q]; exact r g
  · by_cases q : g = f
    · rw [q]; exact (keys_putF f y fs).1
    · refine (keys_putF f y fs).2 g (wi g fun z => hg ?_)
      show (if g = f then some u else mA g) = none
      rw [if_neg q]; exact z
theorem Inv.made (I : Inv X pins σ H s) : Inv X pins σ (upd (upd H s.heap.objs.size (.own (s.heap.objs.size + 1))) (s.heap.objs.size + 1) (.ins C s.heap.objs.size []))
    { s with heap := (s.heap.push PySem.W.emptyDict).push (PySem.W.instObj C s.heap.objs.size) } := by
  have e1 : (s.heap.push PySem.W.emptyDict).get? s.heap.objs.size = some PySem.W.emptyDict := Heap.get?_push_size s.heap rfl
  have e2 : ((s.heap.push PySem.W.emptyDict).push (PySem.W.instObj C s.heap.objs.size)).get? (s.heap.objs.size + 1) = some (PySem.W.instObj C s.heap.objs.size) := by
    have := Heap.get?_push_size (s.heap.push PySem.W.emptyDict) (o := PySem.W.instObj C s.heap.objs.size) rfl
    rwa [Heap.size_push] at this
  have e3 : (s.heap.push PySem.W.emptyDict).Ns s.heap.objs.size (fun _ => none) := ⟨PySem.W.emptyDict, #[], _, e1, rfl, (fun e he => absurd he (by simp)), fun _ => rfl⟩
  have I1 := I.laid (a := s.heap.objs.size) (o := .own (s.heap.objs.size + 1)) (h' := s.heap.push PySem.W.emptyDict) (t' := s.toks) (fun b u q => Heap.get?_push_of_some _ q) (Nat.le_refl _) ⟨_, e1⟩
  refine I1.laid (a := s.heap.objs.size + 1) (o := .ins C s.heap.objs.size []) (t' := s.toks) (fun b u q => Heap.get?_push_of_some _ q) (Nat.le_of_eq (Heap.size_push _ _)) ?_
  have ne : s.heap.objs.size ≠ s.heap.objs.size + 1 := Nat.ne_of_lt (Nat.lt_succ_self _)
  refine ⟨by rw [upd_ne ne, upd_same], Nat.zero_le _, ne, e2, fun _ => none, (Heap.Ns1.of_empty e3).at fun o q => Heap.get?_push_of_some _ q, fun _ => True.intro, fun y hy => absurd rfl hy⟩
theorem attr_of {prog : Program} {w : World} {env : Env} {e : Expr} {f : Str} {pos : Pos} {s : Shared} {Q : Value → Shared → Prop} (hb : attributeBase e f env (eval e env) = eval e env)
    (h : wpAny (model prog w) A (eval e env) (fun o s₁ => wpAny (model prog w) A (getAttr o f true) Q E s₁) E s) : wpAny (model prog w) A (eval (.Attribute e f pos) env) Q E s :=
  Attribute_any_ h (by rw [arm_eval_Attribute, hb])
end
noncomputable def tFld (K : PySem.W.Frag) (ta : TE) (f : Str) : TE := fun σ H Q => ta σ H fun x H1 => ∃ a C dx fs v, x = .ref a ∧ H1 a = some (.ins C dx fs) ∧ Cls K C ∧ NoAttr K C f ∧ fs.lookup f = some v ∧ Q v H1
noncomputable def sFld (K : PySem.W.Frag) (ta tv : TE) (f : Str) : TS := fun D σ H => tv σ H fun y H1 => ta σ H1 fun x H2 => ∃ a C dx fs, x = .ref a ∧ H2 a = some (.ins C dx fs) ∧ Cls K C ∧ NoAttr K C f ∧ fs.length < 1000 ∧
  D.nx σ (upd H2 a (.ins C dx (putF f y fs)))
section
variable {X : Cx} {o e value : Expr} {f : Str} {pos pos' tpos : Pos} {ta tv : TE}
theorem pe_fld (he : PE X e ta) (hb : attributeBase e f X.env (eval e X.env) = eval e X.env) : PE X (.Attribute e f pos) (tFld X.K ta f) := by
  intro pins s σ H Q I h
  refine attr_of hb (thn (he pins s σ H _ I h) fun u s1 ⟨x, H1, I1, rx, a, C, dx, fs, v, ex, ea, c, n, l, q⟩ => ?_)
  subst ex
  obtain rfl : u = Value.ref a := rx
  exact getattr_ok I1 ea c n l fun u' s2 I2 ru => ⟨v, H1, I2, ru, q⟩
theorem ps_fld (ha : PE X o ta) (hv : PE X value tv) (hs : swapsWith value (some (.Attribute o f pos')) pos.line X.env = pure false) : PS X (.Assign [.Attribute o f pos'] value pos) (sFld X.K ta tv f) := by
  intro pins s σ H D I h
  refine plainObj_wpAny_Assign_Attribute (thn (hv pins s σ H _ I h) fun u s1 ⟨y, H1, I1, ry, q⟩ => thn (ha pins s1 σ H1 _ I1 q) fun ov s2 ⟨x, H2, I2, rx, a, C, dx, fs, ex, ea, c, n, l, q2⟩ => ?_) hs
  subst ex
  obtain rfl : ov = Value.ref a := rx
  exact setattr_ok I2 ea c n l ry fun s3 I3 => ⟨σ, _, I3, q2⟩
theorem methcall_of {pl : Sem Bool} {m : Str} {apos : Pos} {args : List Expr} {pins : List (Addr × Obj)} {s : Shared} {σ : St} {H : Hp} {Q : Value → Shared → Prop} {te : TE} (he : PE X e te) (I : Inv X pins σ H s)
    (h : te σ H fun x H1 => ∃ a C dx fs g, x = .ref a ∧ H1 a = some (.ins C dx fs) ∧ Cls X.K C ∧ Meth X.K C m g ∧ fs.lookup m = none ∧
      ∀ s1, Inv X pins σ H1 s1 → wpAny (model X.prog X.w) X.A (callWith pos (.ref g) [.ref a] (backTo pos (starEach args X.env)) (backToKw pos (keywordEach [] X.env))) Q X.xe s1)
    (ht : eval (.Call (.Attribute e m apos) args [] pos) X.env = (do
      let ov ← eval e X.env
      standAt apos.atName
      let (f, first) ← holding [ov] (getMethod ov m pl)
      callWith pos f first (backTo pos (starEach args X.env)) (backToKw pos (keywordEach [] X.env)))) :
    wpAny (model X.prog X.w) X.A (eval (.Call (.Attribute e m apos) args [] pos) X.env) Q X.xe s := by
  refine PySem.W.methodCall_KW (pl := pl) (thn (he pins s σ H _ I h) fun u s1 ⟨x, H1, I1, rx, a, C, dx, fs, g, ex, ea, c, k, l, q⟩ => ?_) ht
  subst ex
  obtain rfl : u = Value.ref a := rx
  exact getmeth_ok I1 ea c k l (q s1 I1)
end
section
variable {X : Cx} {pins : List (Addr × Obj)} {σ : St} {H : Hp} {s : Shared} {A : Around} {E : Value → Shared → Prop} {Q : Value → Shared → Prop} {c : Value} {b : Bool}
inductive TyOf (K : PySem.W.Frag) (H : Hp) : V → Value → Prop where
  | non : TyOf K H .non (.type "NoneType")
  | bl (x : Bool) : TyOf K H (.bl x) (.type "bool")
  | int (i : Int) : TyOf K H (.int i) (.type "int")
  | str (x : Str) : TyOf K H (.str x) (.type "str")
  | flt (x : UInt64) : TyOf K H (.flt x) (.type "float")
  | lst {a : Addr} {xs : List V} (e : H a = some (.lst xs)) : TyOf K H (.ref a) (.type "list")
  | frz {a : Addr} {o : Obj} {xs : List V} (e : H a = some (.frz o (.lst xs))) : TyOf K H (.ref a) (.type "list")
  | tup {a : Addr} {xs : List V} (e : H a = some (.tup xs)) : TyOf K H (.ref a) (.type "tuple")
  | dK {a : Addr} {kvs : List (Key × V)} (e : H a = some (.dK kvs)) : TyOf K H (.ref a) (.type "dict")
  | dT {a : Addr} {kvs : List (List Key × V)} (e : H a = some (.dT kvs)) : TyOf K H (.ref a) (.type "dict")
  | ins {a C dx : Addr} {fs : List (Str × V)} (e : H a = some (.ins C dx fs)) (cl : Cls K C) (ha : PySem.W.findIn K (.ref C) "__class__" = some (some (.builtin "object.__class__")))
      (hn : PySem.W.specialIn K (.builtin "object.__class__") "__get__" = some (some (.builtin "getset_descriptor.__get__"))) (htk : PySem.W.takesIn K (.builtin "object.__class__") = some true)
      (hm : PySem.W.mroIn K C (.type "object") = some true) : TyOf K H (.ref a) (.ref C)
theorem isinst_ok {x : V} {u t : Value} (I : Inv X pins σ H s) (rx : RelV x u) (ty : TyOf X.K H x t) (e : PySem.W.kitOne X.K t c = some b) (h : ∀ tk, Q (.bool b) { s with toks := tk }) :
    wpAny (model X.prog X.w) A (call (.builtin "isinstance") [u, c]) Q E s := by
  cases ty with
  | non => cases (show u = Value.none from rx); exact PySem.W.kia_one PySem.W.kitx_none I.kIn True.intro e (fun z => nomatch z) h
  | bl y => cases (show u = Value.bool y from rx); exact PySem.W.kia_one PySem.W.kitx_bool I.kIn True.intro e (fun z => nomatch z) h
  | int i => obtain ⟨t, q⟩ := (show ∃ t, u = Value.int i t from rx); cases q; exact PySem.W.kia_one PySem.W.kitx_int I.kIn True.intro e (fun z => nomatch z) h
  | str y => obtain ⟨t, q⟩ := (show ∃ t, u = Value.str y t from rx); cases q; exact PySem.W.kia_one PySem.W.kitx_str I.kIn True.intro e (fun z => nomatch z) h
  | flt y => obtain ⟨t, q⟩ := (show ∃ t, u = Value.float y t from rx); cases q; exact PySem.W.kia_one PySem.W.kitx_float I.kIn True.intro e (fun z => nomatch z) h
  | @lst a xs ea =>
    cases (show u = Value.ref a from rx)
    obtain ⟨_, _, n, _, h1⟩ := (show ObjOk X.prog X.w H s.heap a (.lst xs) from I.hok a _ ea)
    exact PySem.W.kia_one PySem.W.kitx_list I.kIn ⟨_, h1, rfl⟩ e (fun z => nomatch z) h
  | @frz a ob xs ea =>
    cases (show u = Value.ref a from rx)
    obtain ⟨_, _, _, n, _, h1⟩ := (show ObjOk X.prog X.w H s.heap a (.frz ob (.lst xs)) from I.hok a _ ea)
    exact PySem.W.kia_one PySem.W.kitx_list I.kIn ⟨_, h1, rfl⟩ e (fun z => nomatch z) h
  | @tup a xs ea =>
    cases (show u = Value.ref a from rx)
    obtain ⟨_, _, _, p⟩ := (show ObjOk X.prog X.w H s.heap a (.tup xs) from I.hok a _ ea)
    obtain ⟨o, h1, h2, _⟩ := p
    exact PySem.W.kia_one PySem.W.kitx_tuple I.kIn ⟨o, h1, h2⟩ e (fun z => nomatch z) h
  | @dK a kvs ea =>
    cases (show u = Value.ref a from rx)
    obtain ⟨_, _, vs, _, p⟩ := (show ObjOk X.prog X.w H s.heap a (.dK kvs) from I.hok a _ ea)
    obtain ⟨o, es, ep, h1, h2, _⟩ := p
    exact PySem.W.kia_one PySem.W.kitx_dict I.kIn ⟨o, h1, h2.1⟩ e (fun z => nomatch z) h
  | @dT a kvs ea =>
    cases (show u = Value.ref a from rx)
    obtain ⟨_, _, xs, _, o, es, ep, h1, h2, _⟩ := (show ObjOk X.prog X.w H s.heap a (.dT kvs) from I.hok a _ ea)
    exact PySem.W.kia_one PySem.W.kitx_dict I.kIn ⟨o, h1, h2.1⟩ e (fun z => nomatch z) h
  | @ins a C dx fs ea cl ha hn htk hm =>
    cases (show u = Value.ref a from rx)
    obtain ⟨mA, O, _⟩ := ins_get I.hok ea
    obtain ⟨od, J, _⟩ := O.look
    exact PySem.W.kia_one (PySem.W.kitx_own (cl.get _) cl.hd ha hn htk hm) I.kIn J e (fun z => nomatch z) h
end
end L2
namespace L2
open PySem PySem.Spec PyProof.Rows
structure Room (k : Nat) (A : Around) : Prop where
  hd : A.handled = none
  dp : A.depth + 3 * k + 5 < recursionLimit
  un : A.units + 16 * k + 200 < cLine
theorem Room.mono {j k : Nat} {A : Around} (r : Room k A) (h : j ≤ k) : Room j A := ⟨r.hd, by have := r.dp; omega, by have := r.un; omega⟩
theorem Room.deeper {k : Nat} {A : Around} (r : Room (k + 1) A) (env : Env) : Room k (A.deeper env) :=
  ⟨r.hd, by have := r.dp; show A.depth + 1 + 3 * k + 5 < _; omega, by have := r.un; show A.units + 3 + 16 * k + 200 < _; omega⟩
theorem make_depth {A : Around} {C : Addr} {us : List Value} {kw : List (Str × Value)} : (A.under (.builtin "type.__call__" ⟨.ref C :: us, kw⟩)).depth = A.depth + 1 := by
  first | rfl | simp [Around.under, Code.weight, Code.isCreation, Code.isGuard, Code.isCaller, Code.frames, Code.isFrame, guardIds]
theorem make_units {A : Around} {C : Addr} {us : List Value} {kw : List (Str × Value)} : (A.under (.builtin "type.__call__" ⟨.ref C :: us, kw⟩)).units = A.units + 1 := by
  first | rfl | simp [Around.under, Code.cUnits, Code.frames, Code.isFrame]
theorem Room.make {k : Nat} {A : Around} (r : Room (k + 1) A) (C : Addr) (us : List Value) (kw : List (Str × Value)) : Room k (A.under (.builtin "type.__call__" ⟨.ref C :: us, kw⟩)) :=
  ⟨r.hd, by have := r.dp; rw [make_depth]; omega, by have := r.un; rw [make_units]; omega⟩
theorem Room.depth {k : Nat} {A : Around} (r : Room k A) : A.depth < recursionLimit := by have := r.dp; omega
theorem Room.units {k : Nat} {A : Around} (r : Room k A) : A.units + 64 < cLine := by have := r.un; omega
noncomputable def tNil : TA := fun _ H Q => Q [] H
noncomputable def tCons (ta : TE) (tr : TA) : TA := fun σ H Q => ta σ H fun x H1 => tr σ H1 fun xs H2 => Q (x :: xs) H2
section
variable {X : Cx} {e : Expr} {es : List Expr} {te : TE} {t : TA} {pos : Pos}
theorem pa_nil : PA X [] tNil := fun _ _ _ _ H Q I h => Calls.spliced_nil ⟨[], H, I, .nil, h⟩
theorem pa_cons (ha : PE X e te) (hr : PA X es t) (hs : starEach (e :: es) X.env = (false, eval e X.env) :: starEach es X.env := by rfl) : PA X (e :: es) (tCons te t) := by
  intro pos pins s σ H Q I h
  rw [hs]
  show wpAny _ _ (spliced ((false, eval e X.env) :: backTo pos (starEach es X.env))) _ _ s
  refine Calls.spliced_cons (thn (ha pins s σ H _ I h) fun u s1 ⟨x, H1, I1, r1, q1⟩ => ?_)
  exact thn (hr pos pins s1 σ H1 _ I1 q1) fun us s2 ⟨xs, H2, I2, r2, q2⟩ => ⟨x :: xs, H2, I2, .cons r1 r2, q2⟩
noncomputable def tTup (t : TA) : TE := fun σ H Q => t σ H fun xs H1 => xs.length ≤ sizeLine ∧ ∀ p, H1 p = none → Q (.ref p) (upd H1 p (.tup xs))
noncomputable def tLst (t : TA) : TE := fun σ H Q => t σ H fun xs H1 => xs.length ≤ sizeLine ∧ ∀ p, H1 p = none → Q (.ref p) (upd H1 p (.lst xs))
theorem pe_tup {x1} (h : PA X es t) : PE X (.Tuple es x1 pos) (tTup t) := by
  intro pins s σ H Q I hq
  refine wpAny_Tuple_spliced (thn (h pos pins s σ H _ I hq) fun us s1 ⟨xs, H1, I1, r, z, q⟩ => ⟨by rw [← r.length]; exact z, ?_⟩)
  have hf : H1 s1.heap.objs.size = none := I1.hok.fresh (Nat.le_refl _)
  refine ⟨.ref s1.heap.objs.size, upd H1 s1.heap.objs.size (.tup xs), I1.laid (t' := s1.toks) (fun b u e => Heap.get?_push_of_some _ e) (Nat.le_refl _) ?_, rfl, q _ hf⟩
  exact ⟨z, us, r, ⟨_, Heap.get?_push_size _ rfl, rfl, _, rfl⟩⟩
theorem pe_lst (h : PA X es t) : PE X (.List es pos) (tLst t) := by
  intro pins s σ H Q I hq
  refine wpAny_List_spliced (thn (h pos pins s σ H _ I hq) fun us s1 ⟨xs, H1, I1, r, z, q⟩ => ⟨by rw [← r.length]; exact z, ?_⟩)
  have hf : H1 s1.heap.objs.size = none := I1.hok.fresh (Nat.le_refl _)
  refine ⟨.ref s1.heap.objs.size, upd H1 s1.heap.objs.size (.lst xs), I1.laid (t' := s1.toks) (fun b u e => Heap.get?_push_of_some _ e) (Nat.le_refl _) ?_, rfl, q _ hf⟩
  exact ⟨z, us, 0, r, Heap.get?_push_size _ rfl⟩
end
noncomputable abbrev Sp := List V → Hp → VK → XK → Prop
noncomputable abbrev CXT := List Env → Hp → Shared → XK → Value → Shared → Prop
structure Env0 (P : Program) (w : World) (K : PySem.W.Frag) (mg : Str → Option Value) (base : Heap) (A : Around) (outer : List Env) (s : Shared) (H : Hp) : Prop where
  frames : A.frames = some outer
  mod : Mod K mg base
  bs : ∀ b o, base.get? b = some o → s.heap.get? b = some o ∧ H b = none
  bsz : base.objs.size ≤ s.heap.objs.size
  funs : s.heap.FunFrames base outer
  frf : ∀ b ∈ frs outer, H b = none
  hok : HOk P w H s.heap
  bare : AllBare s.gens
noncomputable def CE (outer : List Env) (P : Program) (w : World) (H : Hp) (s : Shared) (Q : VK) (u : Value) (s' : Shared) : Prop :=
  ∃ v H', s'.os = s.os ∧ AllBare s'.gens ∧ Un (frs outer) [] H H' s.heap s'.heap ∧ HOk P w H' s'.heap ∧ RelV v u ∧ Q v H'
noncomputable def CR (CX : CXT) (outer : List Env) (P : Program) (w : World) (H : Hp) (s : Shared) (Q : VK) (E : XK) (r : Result) (s' : Shared) : Prop :=
  match r with
  | .ok (.ret u) => CE outer P w H s Q u s'
  | .ok _ => False
  | .error e => CX outer H s E e s'
structure FnOk (P : Program) (w : World) (K : PySem.W.Frag) (mg : Str → Option Value) (base : Heap) (CX : CXT) (k : Nat) (f : Addr) (fd : FuncData) (ps : List Str) (sp : Sp) : Prop where
  len : ∀ vs H Q E, sp vs H Q E → vs.length = ps.length
  run : ∀ (A : Around) (outer : List Env) (s : Shared) (H : Hp) (args : Args) (us : List Value) (vs : List V) (Q : VK) (E : XK), Room k A → Env0 P w K mg base A outer s H → BindsTo s fd args (ps.zip us) → Vals vs us → sp vs H Q E →
    codeAny (model P w) A (.call (.ref f) args) (CR CX outer P w H s Q E) s
theorem FnOk.mono {P : Program} {w : World} {K : PySem.W.Frag} {mg : Str → Option Value} {base : Heap} {CX : CXT} {j k : Nat} {f : Addr} {fd : FuncData} {ps : List Str} {sp : Sp} (F : FnOk P w K mg base CX j f fd ps sp) (h : j ≤ k) :
    FnOk P w K mg base CX k f fd ps sp := ⟨F.len, fun A outer s H args us vs Q E hr => F.run A outer s H args us vs Q E (hr.mono h)⟩
theorem Env0.make {P : Program} {w : World} {K : PySem.W.Frag} {mg : Str → Option Value} {base : Heap} {A : Around} {outer : List Env} {s : Shared} {H : Hp} (e : Env0 P w K mg base A outer s H) (C : Addr) (us : List Value) (kw : List (Str × Value)) :
    Env0 P w K mg base (A.under (.builtin "type.__call__" ⟨.ref C :: us, kw⟩)) outer s H := ⟨by first | exact e.frames | (simpa [Around.under, Code.envs, Code.isFrame, pushEnvs] using e.frames), e.mod, e.bs, e.bsz, e.funs, e.frf, e.hok, e.bare⟩
section
variable {X : Cx} {pins : List (Addr × Obj)} {σ : St} {H : Hp} {s s' : Shared}
theorem Inv.env0 (I : Inv X pins σ H s) : Env0 X.prog X.w X.K X.mg X.base X.A X.stack s H :=
  ⟨I.ok.frames, I.ok.mod, I.bs, Nat.le_trans I.ok.bsz I.sz, I.stack, I.stkFree, I.hok, I.bare⟩
theorem Inv.after {Q : VK} {u : Value} (I : Inv X pins σ H s) (h : CE X.stack X.prog X.w H s Q u s') : EP X pins σ Q u s' := by
  obtain ⟨v, H', os, bare, un, hok, r, q⟩ := h
  obtain ⟨hh, g, d, t, os'⟩ := s'
  obtain rfl : os' = s.os := os
  exact ⟨v, H', I.call (h' := hh) (g' := g) (d' := d) (t' := t) (ch := []) un hok bare (fun b z => absurd z (by simp)), r, q⟩
end
noncomputable def tCall (sp : Sp) (dvs : List V) (E : XK) (t : TA) : TE := fun σ H Q => t σ H fun vs H1 => sp (vs ++ dvs) H1 Q E
noncomputable def tMeth (C : Addr) (m : Str) (sp : Sp) (dvs : List V) (E : XK) (ta : TE) (t : TA) : TE := fun σ H Q => ta σ H fun x H1 => ∃ a dx fs, x = .ref a ∧ H1 a = some (.ins C dx fs) ∧ fs.lookup m = none ∧
  t σ H1 fun vs H2 => sp (x :: (vs ++ dvs)) H2 Q E
noncomputable def tMake (C : Addr) (sp : Sp) (dvs : List V) (E : XK) (t : TA) : TE := fun σ H Q => t σ H fun vs H1 => ∀ x dx, H1 x = none → H1 dx = none → dx ≠ x →
  sp (.ref x :: (vs ++ dvs)) (upd (upd H1 dx (.own x)) x (.ins C dx [])) (fun v H2 => v = .non ∧ Q (.ref x) H2) E
noncomputable def Binds (K : PySem.W.Frag) (fd : FuncData) (ps : List Str) (ds : List Value) : Prop :=
  ∀ (s : Shared) (us : List Value), K.In s.heap → (us ++ ds).length = ps.length → BindsTo s fd ⟨us, []⟩ (ps.zip (us ++ ds))
theorem Binds.all {K : PySem.W.Frag} {fd : FuncData} {ps : List Str} (h : ∀ us : List Value, us.length = ps.length → bindArgs fd ⟨us, []⟩ = pure (ps.zip us)) : Binds K fd ps [] := fun s us _ hl => by
  rw [List.append_nil] at hl ⊢
  exact .of_eq (h us hl)
noncomputable def Passes (CX : CXT) (X : Cx) (E : XK) : Prop := ∀ (pins : List (Addr × Obj)) (σ : St) (H : Hp) (s : Shared) (e : Value) (s' : Shared), Inv X pins σ H s → CX X.stack H s E e s' → X.xe e s'
section
variable {X : Cx} {CX : CXT} {k : Nat} {f C : Addr} {fd : FuncData} {ps : List Str} {sp : Sp} {dvs : List V} {ds : List Value} {E : XK} {x m : Str} {p pos apos : Pos} {e o : Expr} {es : List Expr} {ta : TE} {t : TA}
theorem run_fn {pins : List (Addr × Obj)} {σ : St} {H : Hp} {s : Shared} {Q : VK} {us : List Value} {vs : List V} (F : FnOk X.prog X.w X.K X.mg X.base CX k f fd ps sp) (hr : Room k X.A) (hb : Binds X.K fd ps ds) (hd : Vals dvs ds) (hx : Passes CX X E)
    (I : Inv X pins σ H s) (r : Vals vs us) (h : sp (vs ++ dvs) H Q E) : wpAny (model X.prog X.w) X.A (call (.ref f) us) (EP X pins σ Q) X.xe s := by
  have r2 : Vals (vs ++ dvs) (us ++ ds) := r.append hd
  have hl : (us ++ ds).length = ps.length := by rw [← r2.length]; exact F.len _ _ _ _ h
  refine wpAny_call (codeAny_mono (F.run X.A X.stack s H ⟨us, []⟩ (us ++ ds) (vs ++ dvs) Q E hr I.env0 (hb s us I.kIn hl) r2 h) fun r s' hq => ?_)
  cases r with
  | error e => exact hx pins σ H s e s' I hq
  | ok fl =>
    cases fl with
    | ret u => exact I.after hq
    | next => exact False.elim hq
    | brk => exact False.elim hq
    | cont => exact False.elim hq
theorem pe_call (F : FnOk X.prog X.w X.K X.mg X.base CX k f fd ps sp) (hr : Room k X.A) (hg : Gl X x) (hm : X.mg x = some (.ref f)) (hk : PySem.W.keepIn X.K (.ref f) = true) (hb : Binds X.K fd ps ds) (hd : Vals dvs ds) (hx : Passes CX X E)
    (ha : PA X (e :: es) t) (hdb : (x == ("__debug__" : Str)) = false := by decide) (he : starEach (e :: es) X.env = (false, eval e X.env) :: starEach es X.env := by rfl) (hpl : (backTo pos (starEach es X.env)).any (·.1) = false := by rfl) :
    PE X (.Call (.Name x p) (e :: es) [] pos) (tCall sp dvs E t) := by
  intro pins s σ H Q I h
  refine wpAny_Call_Name_kw (ld_glob I hg hm ?_ hdb)
  refine PySem.W.callWith_K (h₀ := X.base) I.ok.mod.kin hk (thn (ha pos pins s σ H _ I h) fun us s1 ⟨vs, H1, I1, r, q⟩ => ⟨I1.kIn, ?_⟩) he hpl
  exact run_fn F hr hb hd hx I1 r q
theorem pe_meth {pl : Sem Bool} (he : PE X o ta) (c : Cls X.K C) (hm : Meth X.K C m f) (F : FnOk X.prog X.w X.K X.mg X.base CX k f fd ps sp) (hr : Room k X.A) (hb : Binds X.K fd ps ds) (hd : Vals dvs ds) (hx : Passes CX X E) (ha : PA X (e :: es) t)
    (hst : starEach (e :: es) X.env = (false, eval e X.env) :: starEach es X.env := by rfl) (hpl : (backTo pos (starEach es X.env)).any (·.1) = false := by rfl)
    (ht : eval (.Call (.Attribute o m apos) (e :: es) [] pos) X.env = (do
      let ov ← eval o X.env
      standAt apos.atName
      let (f, first) ← holding [ov] (getMethod ov m pl)
      callWith pos f first (backTo pos (starEach (e :: es) X.env)) (backToKw pos (keywordEach [] X.env))) := by rfl) :
    PE X (.Call (.Attribute o m apos) (e :: es) [] pos) (tMeth C m sp dvs E ta t) := by
  intro pins s σ H Q I h
  refine PySem.W.methodCall_KW (pl := pl) (thn (he pins s σ H _ I h) fun u s1 ⟨x, H1, I1, rx, a, dx, fs, ex, ea, l, q⟩ => ?_) ht
  subst ex
  obtain rfl : u = Value.ref a := rx
  refine getmeth_ok I1 ea c hm l ?_
  refine PySem.W.callWith_K (first := [.ref a]) (h₀ := X.base) I.ok.mod.kin hm.kp (thn (ha pos pins s1 σ H1 _ I1 q) fun us s2 ⟨vs, H2, I2, r, q2⟩ => ⟨I2.kIn, ?_⟩) hst hpl
  exact run_fn (us := .ref a :: us) (vs := .ref a :: vs) F hr hb hd hx I2 (.cons rfl r) q2
theorem pe_meth0 {pl : Sem Bool} (he : PE X o ta) (c : Cls X.K C) (hm : Meth X.K C m f) (F : FnOk X.prog X.w X.K X.mg X.base CX k f fd ps sp) (hr : Room k X.A) (hb : Binds X.K fd ps ds) (hd : Vals dvs ds) (hx : Passes CX X E)
    (ht : eval (.Call (.Attribute o m apos) [] [] pos) X.env = (do
      let ov ← eval o X.env
      standAt apos.atName
      let (f, first) ← holding [ov] (getMethod ov m pl)
      callWith pos f first (backTo pos (starEach [] X.env)) (backToKw pos (keywordEach [] X.env))) := by rfl) :
    PE X (.Call (.Attribute o m apos) [] [] pos) (tMeth C m sp dvs E ta tNil) := by
  intro pins s σ H Q I h
  refine PySem.W.methodCall_KW (pl := pl) (thn (he pins s σ H _ I h) fun u s1 ⟨x, H1, I1, rx, a, dx, fs, ex, ea, l, q⟩ => ?_) ht
  subst ex
  obtain rfl : u = Value.ref a := rx
  refine getmeth_ok I1 ea c hm l ?_
  exact PySem.W.callWith_K0 (first := [.ref a]) I1.kIn hm.kp (run_fn (us := [.ref a]) (vs := [.ref a]) F hr hb hd hx I1 (.cons rfl .nil) q)
structure Mk (K : PySem.W.Frag) (C f : Addr) : Prop where
  makes : PySem.W.makesIn K C = true
  init : PySem.W.findIn K (.ref C) "__init__" = some (some (.ref f))
  fn : PySem.W.isFn K (.ref f) = true
  kp : PySem.W.keepIn K (.ref C) = true
theorem run_make {pins : List (Addr × Obj)} {σ : St} {H : Hp} {s : Shared} {Q : VK} {us : List Value} {vs : List V} (M : Mk X.K C f) (F : FnOk X.prog X.w X.K X.mg X.base CX k f fd ps sp) (hr : Room (k + 1) X.A) (hb : Binds X.K fd ps ds) (hd : Vals dvs ds)
    (hx : Passes CX X E) (I : Inv X pins σ H s) (r : Vals vs us)
    (h : ∀ x dx, H x = none → H dx = none → dx ≠ x → sp (.ref x :: (vs ++ dvs)) (upd (upd H dx (.own x)) x (.ins C dx [])) (fun v H2 => v = .non ∧ Q (.ref x) H2) E) :
    wpAny (model X.prog X.w) X.A (call (.ref C) us) (EP X pins σ Q) X.xe s := by
  have hq := h (s.heap.objs.size + 1) s.heap.objs.size (I.hok.fresh (Nat.le_succ _)) (I.hok.fresh (Nat.le_refl _)) (Nat.ne_of_lt (Nat.lt_succ_self _))
  have I2 := Inv.made (C := C) I
  have r2 : Vals (V.ref (s.heap.objs.size + 1) :: (vs ++ dvs)) (Value.ref (s.heap.objs.size + 1) :: (us ++ ds)) := .cons rfl (r.append hd)
  have hl : (Value.ref (s.heap.objs.size + 1) :: us ++ ds).length = ps.length := by
    have e := r2.length
    rw [F.len _ _ _ _ hq] at e
    exact e.symm
  refine wpAny_call (make_map (f := f) I.kIn M.makes M.init (beq_iff_eq.mp M.fn) (codeAny_mono (F.run _ X.stack _ _ ⟨Value.ref (s.heap.objs.size + 1) :: us, []⟩ (Value.ref (s.heap.objs.size + 1) :: (us ++ ds)) _ _ E (hr.make C us [])
    (I2.env0.make C us []) (hb _ (Value.ref (s.heap.objs.size + 1) :: us) I2.kIn hl) r2 hq) fun r s' hq' => ?_))
  cases r with
  | error e => exact hx pins σ _ _ e s' I2 hq'
  | ok fl =>
    cases fl with
    | ret u =>
      obtain ⟨v, H', I3, rv, ev, q3⟩ := I2.after hq'
      subst ev
      exact ⟨rv, ⟨V.ref (s.heap.objs.size + 1), H', I3, rfl, q3⟩⟩
    | next => exact False.elim hq'
    | brk => exact False.elim hq'
    | cont => exact False.elim hq'
theorem pe_make0 (M : Mk X.K C f) (F : FnOk X.prog X.w X.K X.mg X.base CX k f fd ps sp) (hr : Room (k + 1) X.A) (hg : Gl X x) (hm : X.mg x = some (.ref C)) (hb : Binds X.K fd ps ds) (hd : Vals dvs ds) (hx : Passes CX X E)
    (hdb : (x == ("__debug__" : Str)) = false := by decide) : PE X (.Call (.Name x p) [] [] pos) (tMake C sp dvs E tNil) := by
  intro pins s σ H Q I h
  refine wpAny_Call_Name_kw (ld_glob I hg hm ?_ hdb)
  exact PySem.W.callWith_K0 I.kIn M.kp (run_make (us := []) M F hr hb hd hx I .nil h)
end
section
variable {X : Cx} {CX : CXT} {k : Nat} {f C : Addr} {fd : FuncData} {ps ks : List Str} {sp : Sp} {E : XK} {x m : Str} {p pos apos kpos : Pos} {e o : Expr} {es : List Expr} {kws : List Keyword} {te ta : TE} {t tk : TA} {nm : Option Str}
variable {g : List Value → List Value → List Value} {gV : List V → List V → List V}
end
structure FnScope (N P : List Str) (sc : Scope) : Prop where
  kind : sc.kind = .function
  co : sc.isCoroutine = false
  gen : sc.isGenerator = false
  nd : N.Nodup
  pre : N.take P.length = P
  par : ∀ x ∈ P, sc.names.lookup x = some .local ∨ sc.names.lookup x = some .cell
  nofree : ∀ y ∈ sc.names, y.2 ≠ .free
theorem bindL_out {kindOf : Str → Option NameKind} {x : Str} : ∀ {binds : List (Str × Value)} {m : Str → Option Value}, (∀ v, (x, v) ∉ binds) → bindL kindOf binds m x = m x
  | [], _, _ => rfl
  | (n, v) :: r, m, h => by
    unfold bindL
    rw [bindL_out fun w hw => h w (List.mem_cons_of_mem _ hw)]
    split
    · have : x ≠ n := by rintro rfl; exact h v List.mem_cons_self
      simp [this]
    · rfl
theorem bindC_out {kindOf : Str → Option NameKind} {x : Str} : ∀ {binds : List (Str × Value)} {m : Str → Option Value}, (∀ v, (x, v) ∉ binds) → bindC kindOf binds m x = m x
  | [], _, _ => rfl
  | (n, v) :: r, m, h => by
    unfold bindC
    rw [bindC_out fun w hw => h w (List.mem_cons_of_mem _ hw)]
    split
    · rfl
    · have : x ≠ n := by rintro rfl; exact h v List.mem_cons_self
      simp [this]
theorem bindL_get {kindOf : Str → Option NameKind} {x : Str} {v : Value} : ∀ {P : List Str} {vs : List Value} {i : Nat} {m : Str → Option Value}, P.Nodup → P[i]? = some x → vs[i]? = some v → kindOf x = some .local →
    bindL kindOf (P.zip vs) m x = some v
  | [], _, _, _, _, h, _, _ => by simp at h
  | _ :: _, [], _, _, _, _, h, _ => by simp at h
  | p :: P, w :: vs, 0, m, nd, h1, h2, hk => by
    simp at h1 h2; subst h1; subst h2
    show bindL kindOf ((p, w) :: P.zip vs) m p = _
    unfold bindL
    rw [bindL_out fun v hv => (List.nodup_cons.mp nd).1 (List.of_mem_zip hv).1, if_pos hk]
    simp
  | p :: P, w :: vs, i + 1, m, nd, h1, h2, hk => by
    show bindL kindOf ((p, w) :: P.zip vs) m x = _
    unfold bindL
    exact bindL_get (i := i) (List.nodup_cons.mp nd).2 (by simpa using h1) (by simpa using h2) hk
theorem bindC_get {kindOf : Str → Option NameKind} {x : Str} {v : Value} : ∀ {P : List Str} {vs : List Value} {i : Nat} {m : Str → Option Value}, P.Nodup → P[i]? = some x → vs[i]? = some v → kindOf x ≠ some .local →
    bindC kindOf (P.zip vs) m x = some v
  | [], _, _, _, _, h, _, _ => by simp at h
  | _ :: _, [], _, _, _, _, h, _ => by simp at h
  | p :: P, w :: vs, 0, m, nd, h1, h2, hk => by
    simp at h1 h2; subst h1; subst h2
    show bindC kindOf ((p, w) :: P.zip vs) m p = _
    unfold bindC
    rw [bindC_out fun v hv => (List.nodup_cons.mp nd).1 (List.of_mem_zip hv).1, if_neg hk]
    simp
  | p :: P, w :: vs, i + 1, m, nd, h1, h2, hk => by
    show bindC kindOf ((p, w) :: P.zip vs) m x = _
    unfold bindC
    exact bindC_get (i := i) (List.nodup_cons.mp nd).2 (by simpa using h1) (by simpa using h2) hk
noncomputable def start (N : List Str) (vs : List V) : St := vs.map some ++ List.replicate (N.length - vs.length) none
noncomputable def cxOf (CX : CXT) (P : Program) (w : World) (K : PySem.W.Frag) (mg : Str → Option Value) (base : Heap) (N : List Str) (qual : Str) (scope : Scope) (f : Addr) (cd : Value) (A : Around) (outer : List Env) (s : Shared) (H : Hp) (E : XK) : Cx where
  prog := P
  w := w
  K := K
  mg := mg
  base := base
  A := A.deeper (envOfC qual scope s.heap.objs.size f cd)
  N := N
  s₀ := s
  H₀ := H
  env := envOfC qual scope s.heap.objs.size f cd
  outer := outer
  stack := envOfC qual scope s.heap.objs.size f cd :: outer
  ex := []
  calm := true
  fn := fun _ => true
  pn := []
  xe := fun e s' => wpAny (model P w) (A.deeper (envOfC qual scope s.heap.objs.size f cd)) (leaving (envOfC qual scope s.heap.objs.size f cd) e) (fun _ s'' => CX outer H s E e s'') (fun e' s'' => CX outer H s E e' s'') s'
theorem cell_has {sc : Scope} {n : Nat} {x : Str} (h : sc.names.lookup x = some .cell) : ∃ c, (cellsFrom n sc.names []).lookup x = some c := by
  have q := PySem.W.cellsFrom_some sc.names n [] (.inl h)
  exact Option.isSome_iff_exists.mp q
theorem inv_start {CX : CXT} {P : Program} {w : World} {K : PySem.W.Frag} {mg : Str → Option Value} {base : Heap} {N ps : List Str} {qual : Str} {scope : Scope} {f : Addr} {cd : Value} {A : Around} {outer : List Env} {s s1 : Shared} {H : Hp} {E : XK} {us : List Value} {vs : List V}
    (S : FnScope N ps scope) (hd : A.handled = none) (e0 : Env0 P w K mg base A outer s H) (hl : vs.length = ps.length) (r : Vals vs us)
    (x : InCallC s s.heap.objs.size (bindL (envOfC qual scope s.heap.objs.size f cd).kindOf (ps.zip us) fun _ => none) (cellsFrom (s.heap.objs.size + 1) scope.names []) (bindC (envOfC qual scope s.heap.objs.size f cd).kindOf (ps.zip us) fun _ => none) s1) :
    Inv (cxOf CX P w K mg base N qual scope f cd A outer s H E) [] (start N vs) H s1 := by
  have hpl : ps.length ≤ N.length := by have := congrArg List.length S.pre; rw [List.length_take] at this; omega
  obtain ⟨h1, tk, rfl, hk⟩ := x.done
  have noA : ∀ b : Addr, b ∉ (cxOf CX P w K mg base N qual scope f cd A outer s H E).ex := fun b z => absurd (show b ∈ ([] : List Addr) from z) (by simp)
  refine ⟨⟨e0.mod, S.kind, rfl, rfl, Nat.le_refl _, fun y z c h1 h2 => ?_, fun y hy => ?_, fun y c _ h => ?_, fun _ => hd, Around.frames_deeper e0.frames, .inr ⟨rfl, rfl⟩, fun b z => absurd z (noA b), e0.bs, e0.bsz, fun b _ _ => noA b, fun b z => absurd z (noA b), e0.funs, e0.frf⟩,
    rfl, e0.bare, Un.kept hk, ⟨_, x.toInCall.ns, fun i y v h1 h2 h3 => ?_⟩, fun y c h => ⟨_, x.cell y c h⟩, e0.hok.fresh (Nat.le_refl _), fun y c h => ?_, fun p hp => absurd (show p ∈ ([] : List (Addr × Obj)) from hp) (by simp), e0.hok.kept hk, ?_⟩
  · exact name_of_addr x.apart (PySem.mem_of_lookup h1) (PySem.mem_of_lookup h2)
  · have hy : scope.names.lookup y = some .cell ∨ scope.names.lookup y = some .free := hy
    rcases hy with hy | hy
    · exact cell_has hy
    · exact absurd rfl (S.nofree _ (PySem.mem_of_lookup hy))
  · exact Nat.le_of_lt (x.above y c (PySem.mem_of_lookup h))
  · have hi : i < vs.length := by
      unfold start at h2
      by_cases hi : i < vs.length
      · exact hi
      · rw [List.getElem?_append_right (by simpa using hi)] at h2
        rw [List.getElem?_replicate] at h2
        split at h2 <;> cases h2
    have ha : vs[i]? = some v := by
      unfold start at h2
      rw [List.getElem?_append_left (by simpa using hi), List.getElem?_map] at h2
      cases e : vs[i]? with
      | none => rw [e] at h2; cases h2
      | some a => rw [e] at h2; cases h2; rfl
    obtain ⟨u, hu, rv⟩ := r.get ha
    have hp : ps[i]? = some y := by
      rw [← S.pre, List.getElem?_take_of_lt (by omega)]; exact h1
    have ndP : ps.Nodup := by rw [← S.pre]; exact S.nd.sublist (List.take_sublist _ _)
    refine ⟨u, rv, ?_⟩
    rcases S.par y (List.mem_of_getElem? hp) with k | k
    · exact .inl ⟨k, bindL_get ndP hp hu k⟩
    · obtain ⟨c, e⟩ := cell_has (n := s.heap.objs.size + 1) k
      refine .inr ⟨.inl k, c, e, ?_⟩
      have q := x.cell y c e
      rw [bindC_get ndP hp hu (by show scope.names.lookup y ≠ _; rw [k]; decide)] at q
      exact q
  · exact e0.hok.fresh (Nat.le_of_lt (x.above y c (PySem.mem_of_lookup h)))
  · unfold start
    show _ = N.length
    rw [List.length_append, List.length_map, List.length_replicate]
    omega
theorem fn_of {CX : CXT} {P : Program} {w : World} {K : PySem.W.Frag} {mg : Str → Option Value} {base : Heap} {k : Nat} {f : Addr} {name qual : Str} {params : Arguments} {body : List Stmt} {scope : Scope} {dV kV doc pm cdv ct oc : Value} {an od : Option Addr}
    {osl : Array (Option Value)} {N ps : List Str} {sp : Sp} (lk : K.lookup f = some ⟨oc, od, .func (PySem.W.fnOf name qual params body scope dV kV doc pm an cdv ct), osl⟩) (hcd : PySem.W.codeIn K cdv qual = true) (S : FnScope N ps scope)
    (len : ∀ vs H Q E, sp vs H Q E → vs.length = ps.length)
    (hbody : ∀ (A : Around) (outer : List Env) (s : Shared) (H : Hp) (vs : List V) (Q : VK) (E : XK), Room k (A.deeper (envOfC qual scope s.heap.objs.size f cdv)) → sp vs H Q E →
      ∃ t, PSs (cxOf CX P w K mg base N qual scope f cdv A outer s H E) body t ∧ t { nx := fun _ H' => Q .non H', rt := Q } (start N vs) H) :
    FnOk P w K mg base CX (k + 1) f (PySem.W.fnOf name qual params body scope dV kV doc pm an cdv ct) ps sp := by
  refine ⟨len, fun A outer s H args us vs Q E hr e0 hb r hsp => ?_⟩
  have hl := len _ _ _ _ hsp
  have KX : K.In s.heap := e0.mod.kin.keeps fun b o e => (e0.bs b o e).1
  have lim : s.heap.NoLimit := e0.mod.nolimit.keeps fun b o e => (e0.bs b o e).1
  have hkind : ∀ y ∈ ps.zip us, scope.names.lookup y.1 = some .local ∨ (scope.names.lookup y.1 = some .cell ∧ ((cellsFrom (s.heap.objs.size + 1) scope.names []).lookup y.1).isSome = true) := fun ⟨n, v⟩ hy => by
    rcases S.par n (List.of_mem_zip hy).1 with q | q
    · exact .inl q
    · exact .inr ⟨q, PySem.W.cellsFrom_some _ _ _ (.inl q)⟩
  refine codeAny_call_function hr.depth (KX _ _ lk) rfl S.co S.gen rfl (PySem.W.codeRec_of KX hcd) (hb _ _ _ _ ?_)
  refine wpAny_newFunctionEnv_cells S.kind hkind fun env he s1 x => ?_
  subst he
  refine ⟨lim.keeps x.toInCall.keep, codeAny_func ?_⟩
  obtain ⟨t, ht, hq⟩ := hbody A outer s H vs Q E (hr.deeper _) hsp
  have I : Inv (cxOf CX P w K mg base N qual scope f cdv A outer s H E) [] (start N vs) H s1 := inv_start S hr.hd e0 hl r x
  refine wpAny_mono (ht [] s1 (start N vs) H _ I hq) (fun fl s' hs => ?_) fun e s' hs => hs
  have fin : ∀ {σ' : St} {H' : Hp} {v : V} {u : Value}, Inv (cxOf CX P w K mg base N qual scope f cdv A outer s H E) [] σ' H' s' → RelV v u → Q v H' → CE outer P w H s Q u s' :=
    fun {σ' H' v u} J rv q => ⟨v, H', J.os, J.bare, J.base, J.hok, rv, q⟩
  cases fl with
  | ret u =>
    obtain ⟨v, σ', H', J, rv, q⟩ := hs
    exact fin J rv q
  | next =>
    obtain ⟨σ', H', J, q⟩ := hs
    exact fin (v := V.non) (u := Value.none) J rfl q
  | brk =>
    obtain ⟨_, _, _, q⟩ := hs
    exact False.elim q
  | cont =>
    obtain ⟨_, _, _, q⟩ := hs
    exact False.elim q
end L2
namespace L2
open PySem PySem.Spec PyProof.Rows
section
variable {X : Cx} {x : Str} {p pos : Pos} {e : Expr} {es : List Expr} {t : TA} {id T : String} {r : List V → Hp → VK → Prop}
noncomputable def tCB (r : List V → Hp → VK → Prop) (t : TA) : TE := fun σ H Q => t σ H fun vs H1 => r vs H1 Q
theorem pe_callB (hc : CallR X (.builtin id) r) (hg : Gl X x) (hm : X.mg x = none) (hv : bootBuiltins x = some (.builtin id)) (ha : PA X (e :: es) t) (hn : x ≠ "__name__" := by decide) (hdb : (x == ("__debug__" : Str)) = false := by decide)
    (he : starEach (e :: es) X.env = (false, eval e X.env) :: starEach es X.env := by rfl) (hpl : (backTo pos (starEach es X.env)).any (·.1) = false := by rfl) : PE X (.Call (.Name x p) (e :: es) [] pos) (tCB r t) := by
  intro pins s σ H Q I h
  refine wpAny_Call_Name_kw (ld_blt I hg hm hv ?_ hn hdb)
  exact PyProof.Rows.callWith_builtin1 (thn (ha pos pins s σ H _ I h) fun us s1 ⟨vs, H1, I1, r1, q1⟩ => hc pins s1 σ H1 vs us Q I1 r1 q1) he hpl
theorem pe_callTy (hc : CallR X (.type T) r) (hg : Gl X x) (hm : X.mg x = none) (hv : bootBuiltins x = some (.type T)) (ha : PA X (e :: es) t) (hn : x ≠ "__name__" := by decide) (hdb : (x == ("__debug__" : Str)) = false := by decide)
    (he : starEach (e :: es) X.env = (false, eval e X.env) :: starEach es X.env := by rfl) (hpl : (backTo pos (starEach es X.env)).any (·.1) = false := by rfl) : PE X (.Call (.Name x p) (e :: es) [] pos) (tCB r t) := by
  intro pins s σ H Q I h
  refine wpAny_Call_Name_kw (ld_blt I hg hm hv ?_ hn hdb)
  exact PyProof.Rows.callWith_type1 (thn (ha pos pins s σ H _ I h) fun us s1 ⟨vs, H1, I1, r1, q1⟩ => hc pins s1 σ H1 vs us Q I1 r1 q1) he hpl
end
end L2
namespace HT
open PySem PyProof.Rows
section
open PySem.SeqAt
open PySem.AutoSeq1 (wpAny_loadPart')
open PySem.MeetsSeq PySem.MeetsSeq2 PySem.MeetsSeq3
end
section
variable {prog : Program} {w : World} {A : Around} {E : Value → Shared → Prop} {s : Shared}
noncomputable def sIx (n d : Nat) : Option Int → Nat
  | none => d
  | some v => if v < 0 then (v + (n : Int)).toNat else min v.toNat n
theorem sIx_none (n d : Nat) : sIx n d none = d := rfl
theorem sIx_nat (n d k : Nat) : sIx n d (some (k : Int)) = min k n := by
  show (if (k : Int) < 0 then ((k : Int) + (n : Int)).toNat else min (k : Int).toNat n) = min k n
  rw [if_neg (by omega), Int.toNat_natCast]
end
end HT
namespace L2
open PySem PySem.Spec PyProof.Rows
noncomputable abbrev TO := St → Hp → (Option Int → Hp → Prop) → Prop
noncomputable def PO (X : Cx) (e : Option Expr) (t : TO) : Prop :=
  ∀ (pins : List (Addr × Obj)) (s : Shared) (σ : St) (H : Hp) (Q : Option Int → Hp → Prop), Inv X pins σ H s → t σ H Q →
    wpAny (model X.prog X.w) X.A (evalPart e X.env) (fun u s' => ∃ o H', Inv X pins σ H' s' ∧ IsPart u o ∧ Q o H') X.xe s
noncomputable def tNoPart : TO := fun _ H Q => Q none H
noncomputable def tPart (t : TE) : TO := fun σ H Q => t σ H fun x H1 => ∃ i, x = .int i ∧ Q (some i) H1
theorem intsAre_of {ns : List Int} : ∀ {us : List Value}, Vals (ns.map V.int) us → IntsAre us ns := by
  induction ns with
  | nil => intro us r; rw [List.map_nil] at r; cases r; exact .nil
  | cons n ns ih =>
    intro us r
    rw [List.map_cons] at r
    cases r with
    | cons r1 r2 =>
      obtain ⟨t, e⟩ := r1
      subst e
      exact .cons n t (ih r2)
section
variable {X : Cx} {e : Expr} {te : TE} {lo hi : Option Expr} {tl th : TO} {pos p2 : Pos}
theorem po_none : PO X none tNoPart := by
  intro pins s σ H Q I h
  rw [evalPart_none]
  exact wpAny_pure ⟨none, H, I, .none, h⟩
theorem po_some (h : PE X e te) : PO X (some e) (tPart te) := by
  intro pins s σ H Q I hw
  rw [evalPart_some]
  refine thn (h pins s σ H _ I hw) fun u s1 ⟨x, H1, I1, r1, q1⟩ => ?_
  obtain ⟨i, rfl, q⟩ := q1
  obtain ⟨t, rfl⟩ := r1
  exact ⟨some i, H1, I1, .int i t, q⟩
noncomputable def SlR (X : Cx) (r : V → Option Int → Option Int → Hp → VK → Prop) : Prop :=
  ∀ (pins : List (Addr × Obj)) (s : Shared) (σ : St) (H : Hp) (x : V) (v vl vu : Value) (lo hi : Option Int) (sl : Addr) (Q : VK), Inv X pins σ H s → RelV x v → s.heap.IsSliceOf sl vl vu .none → IsPart vl lo → IsPart vu hi → r x lo hi H Q →
    ∃ T id, typeLookup (.type T) "__getitem__" = pure (some (.builtin id)) ∧ s.TypeIs v T ∧ wpAny (model X.prog X.w) X.A (getItem v (.ref sl)) (EP X pins σ Q) X.xe s
noncomputable def tSl (r : V → Option Int → Option Int → Hp → VK → Prop) (te : TE) (tl th : TO) : TE := fun σ H Q => te σ H fun x H1 => tl σ H1 fun l H2 => th σ H2 fun u H3 => r x l u H3 Q
theorem pe_slice {r : V → Option Int → Option Int → Hp → VK → Prop} (hr : SlR X r) (he : PE X e te) (hl : PO X lo tl) (hu : PO X hi th) : PE X (.Subscript e (.Slice lo hi none p2) pos) (tSl r te tl th) := by
  intro pins s σ H Q I h
  refine Subscript_ (thn (he pins s σ H _ I h) fun v s1 ⟨x, H1, I1, r1, q1⟩ => ?_)
  refine wpAny_Slice (thn (hl pins s1 σ H1 _ I1 q1) fun vl s2 ⟨l, H2, I2, pl, q2⟩ => thn (hu pins s2 σ H2 _ I2 q2) fun vu s3 ⟨u, H3, I3, pu, q3⟩ => ?_)
  rw [evalPart_none]
  refine wpAny_pure ?_
  have I4 : Inv X pins σ H3 { s3 with heap := s3.heap.push { cls := .type "slice", data := .fields #[vl, vu, .none] } } := I3.kept (t' := s3.toks) fun b ob q => Heap.get?_push_of_some _ q
  obtain ⟨T, id, hT, ht, hg⟩ := hr pins { s3 with heap := s3.heap.push { cls := .type "slice", data := .fields #[vl, vu, .none] } } σ H3 x v vl vu l u s3.heap.objs.size Q I4 r1 (Heap.IsSliceOf.new ..) pl pu q3
  show wpAny (model X.prog X.w) X.A (subscriptTail e (.Slice lo hi none p2) v (.ref s3.heap.objs.size)) (EP X pins σ Q) X.xe { s3 with heap := s3.heap.push { cls := .type "slice", data := .fields #[vl, vu, .none] } }
  exact tail_any (ops := [.ref s3.heap.objs.size, v]) ht hT hg (by with_unfolding_all rfl)
noncomputable def cutV (xs : List V) (lo hi : Option Int) : List V := (xs.drop (HT.sIx xs.length 0 lo)).take (HT.sIx xs.length xs.length hi - HT.sIx xs.length 0 lo)
theorem cutV_length (xs : List V) (lo hi : Option Int) : (cutV xs lo hi).length ≤ xs.length := by
  unfold cutV
  rw [List.length_take, List.length_drop]
  omega
end
end L2
namespace L2
open PySem PySem.Spec PyProof.Rows
noncomputable def ixN (n : Nat) (i : Int) : Option Nat := if 0 ≤ i then (if i < n then some i.toNat else none) else if -(n : Int) ≤ i then some (i + n).toNat else none
noncomputable def atI {α : Type} (xs : List α) (i : Int) : Option α := (ixN xs.length i).bind fun j => xs[j]?
theorem ixN_seq {n : Nat} {i : Int} {j : Nat} (h : ixN n i = some j) : seqIndex? i n = some j ∧ j < n ∧ -(n : Int) ≤ i ∧ i < n := by
  unfold ixN at h
  by_cases h0 : 0 ≤ i
  · rw [if_pos h0] at h
    by_cases h1 : i < n
    · rw [if_pos h1] at h
      have e : i.toNat = j := Option.some.inj h
      exact ⟨by rw [seqIndex_of h0 h1, e], by omega, by omega, h1⟩
    · rw [if_neg h1] at h; cases h
  · rw [if_neg h0] at h
    by_cases h1 : -(n : Int) ≤ i
    · rw [if_pos h1] at h
      have e : (i + n).toNat = j := Option.some.inj h
      exact ⟨by rw [seqIndex_neg (by omega) h1, e], by omega, h1, by omega⟩
    · rw [if_neg h1] at h; cases h
theorem atI_get {α : Type} {xs : List α} {i : Int} {v : α} (h : atI xs i = some v) : ∃ j, seqIndex? i xs.length = some j ∧ xs[j]? = some v ∧ j < xs.length ∧ -(xs.length : Int) ≤ i ∧ i < xs.length := by
  unfold atI at h
  cases e : ixN xs.length i with
  | none => rw [e] at h; cases h
  | some j =>
    rw [e] at h
    obtain ⟨h1, h2, h3, h4⟩ := ixN_seq e
    exact ⟨j, h1, h, h2, h3, h4⟩
theorem atI_nat {α : Type} {xs : List α} {j : Nat} {v : α} (h : xs[j]? = some v) : atI xs (j : Int) = some v := by
  have hj : j < xs.length := (List.getElem?_eq_some_iff.mp h).1
  have e : ixN xs.length (j : Int) = some j := by
    unfold ixN
    rw [if_pos (by omega), if_pos (by omega)]; simp
  unfold atI; rw [e]; exact h
noncomputable def PlainIx (b : Expr) : Prop := ∀ o i, subscripted b false o i = operate [o, i] (getItem o i)
noncomputable def IxR (X : Cx) (r : R2) : Prop :=
  ∀ (value slice : Expr) (pins : List (Addr × Obj)) (s : Shared) (σ : St) (H : Hp) (x y : V) (v u : Value) (Q : VK), Inv X pins σ H s → RelV x v → RelV y u → r x y H Q →
    subscripted slice false v u = operate [v, u] (getItem v u) → wpAny (model X.prog X.w) X.A (subscriptTail value slice v u) (EP X pins σ Q) X.xe s
noncomputable def MtR (X : Cx) (id : String) (r : V → List V → Hp → VK → Prop) : Prop :=
  ∀ (pins : List (Addr × Obj)) (s : Shared) (σ : St) (H : Hp) (x : V) (xs : List V) (v : Value) (us : List Value) (Q : VK), Inv X pins σ H s → RelV x v → Vals xs us → r x xs H Q →
    wpAny (model X.prog X.w) X.A (call (.builtin id) (v :: us)) (EP X pins σ Q) X.xe s
section
variable {X : Cx} {a b : Expr} {ta tb : TE} {pos : Pos}
theorem pe_ix {r : R2} (hr : IxR X r) (ha : PE X a ta) (hb : PE X b tb) (hs : PlainIx b) : PE X (.Subscript a b pos) (tOp r ta tb) := by
  intro pins s σ H Q I h
  exact Subscript_ (binT ha hb I h fun v u s2 x y H2 I2 rx ry q => hr a b pins s2 σ H2 x y v u Q I2 rx ry q (hs _ _))
noncomputable def rIxL (K : PySem.W.Frag) : R2 := fun x y H Q => ∃ p xs i v, x = .ref p ∧ y = .int i ∧ SqL K H p xs ∧ atI xs i = some v ∧ Q v H
noncomputable def rIxT (K : PySem.W.Frag) : R2 := fun x y H Q => ∃ p xs i v, x = .ref p ∧ y = .int i ∧ SqT K H p xs ∧ atI xs i = some v ∧ Q v H
noncomputable def rIxS : R2 := fun x y H Q => ∃ z i c, x = .str z ∧ y = .int i ∧ z.length ≤ sizeLine ∧ atI z.cps.toList i = some c ∧ Q (.str ⟨#[c]⟩) H
theorem ix_list : IxR X (rIxL X.K) := by
  intro value slice pins s σ H x y v u Q I rx ry h hs
  obtain ⟨p, xs, i, z, rfl, rfl, hq, he, q⟩ := h
  cases rx
  obtain ⟨t, rfl⟩ := ry
  obtain ⟨its, r, pl, hz⟩ := I.list hq
  obtain ⟨j, h1, h2, h3, h4, h5⟩ := atI_get he
  obtain ⟨w, ew, rw'⟩ := r.get h2
  have hl := r.length
  have hn := line63
  have fin : EP X pins σ Q w s := ⟨z, H, I, rw', q⟩
  by_cases h0 : 0 ≤ i
  · have hj : i.toNat = j := by
      rw [seqIndex_of h0 h5] at h1
      exact Option.some.inj h1
    exact item_listR pl.isList h0 (by omega) (by rw [hj]; simpa using ew) fin hs
  · have hj : (i + (its.toArray.size : Int)).toNat = j := by
      rw [seqIndex_neg (by omega) h4] at h1
      rw [List.size_toArray, ← hl]
      exact Option.some.inj h1
    exact subscriptTail_builtinR (x := w) pl.isList.typeIs slot_list_getitem.lookup
      (wpAny_getItem_list_neg (Q := fun r s' => r = w ∧ EP X pins σ Q r s') pl.isList (by omega) (by rw [List.size_toArray] <;> omega) (by omega) (by rw [hj]; simpa using ew) ⟨rfl, fin⟩) hs
theorem ix_tup : IxR X (rIxT X.K) := by
  intro value slice pins s σ H x y v u Q I rx ry h hs
  obtain ⟨p, xs, i, z, rfl, rfl, hq, he, q⟩ := h
  cases rx
  obtain ⟨t, rfl⟩ := ry
  obtain ⟨its, r, pl, hz⟩ := I.tuple hq
  obtain ⟨j, h1, h2, h3, h4, h5⟩ := atI_get he
  obtain ⟨w, ew, rw'⟩ := r.get h2
  have hl := r.length
  have hn := line63
  have fin : EP X pins σ Q w s := ⟨z, H, I, rw', q⟩
  exact subscriptTail_builtinR (x := w) pl.typeIs slot_tuple_getitem.lookup
    (getItem_tuple (j := j) (Q := fun r s' => r = w ∧ EP X pins σ Q r s') pl (by omega) (by omega) (by rw [List.size_toArray, ← hl]; exact h1) (by simpa using ew) ⟨rfl, fin⟩) hs
theorem ix_str : IxR X rIxS := by
  intro value slice pins s σ H x y v u Q I rx ry h hs
  obtain ⟨z, i, c, rfl, rfl, hz, he, q⟩ := h
  obtain ⟨t, rfl⟩ := rx
  obtain ⟨t', rfl⟩ := ry
  obtain ⟨j, h1, h2, h3, h4, h5⟩ := atI_get he
  have hl : z.cps.toList.length = z.length := by simp [Str.length]
  rw [hl] at h1 h4 h5
  have hn := line63
  exact tail_any (typeIs_str s z t) slot_str_getitem.lookup (getItem_str (c := c) (by
    have e1 : decide (i < -(2 ^ 63 : Int)) = false := decide_eq_false (by omega)
    have e2 : decide (i ≥ 2 ^ 63) = false := decide_eq_false (by omega)
    rw [e1, e2, Bool.or_false]) (by rw [h1]; simpa using h2) ⟨.str ⟨#[c]⟩, H, I.tok _, ⟨_, rfl⟩, q⟩) hs
theorem mapSeq_set (its : List Value) (n j : Nat) (u : Value) : Obj.mapSeq (·.setIfInBounds j u) { cls := .type "list", data := .seq its.toArray n } = { cls := .type "list", data := .seq (its.set j u).toArray n } := by
  simp [Obj.mapSeq]
theorem Inv.lst {pins : List (Addr × Obj)} {σ : St} {H : Hp} {s : Shared} {p : Addr} {xs : List V} (I : Inv X pins σ H s) (h : H p = some (.lst xs)) :
    ∃ (its : List Value) (n : Nat), Vals xs its ∧ s.heap.get? p = some { cls := .type "list", data := .seq its.toArray n } ∧ xs.length ≤ sizeLine := by
  obtain ⟨z, its, n, r, e⟩ := I.hok p _ h
  exact ⟨its, n, r, e, z⟩
theorem Inv.lstUpd {pins : List (Addr × Obj)} {σ : St} {H : Hp} {s : Shared} {p : Addr} {xs ys : List V} {its its' : List Value} {n n' : Nat} {f : Obj → Obj} (I : Inv X pins σ H s) (h : H p = some (.lst xs))
    (ho : s.heap.get? p = some { cls := .type "list", data := .seq its.toArray n }) (hf : f { cls := .type "list", data := .seq its.toArray n } = { cls := .type "list", data := .seq its'.toArray n' }) (r : Vals ys its') (hz : ys.length ≤ sizeLine) (t : Nat) :
    Inv X pins σ (upd H p (.lst ys)) { s with heap := s.heap.update p f, toks := t } := by
  have e : (s.heap.update p f).get? p = some { cls := .type "list", data := .seq its'.toArray n' } := by
    rw [Heap.get?_update_self f ho (by rw [hf] <;> rfl), hf]
  refine I.write (x := p) (e := p) (by rw [h]; trivial) (.inl rfl) (fun b u hb q => (Heap.get?_update_other _ _ (Ne.symm hb)).trans q) ⟨_, e⟩ ?_
  exact ⟨hz, its', n', r, e⟩
noncomputable def rSetL : V → V → V → Hp → (Hp → Prop) → Prop := fun o i v H Q => ∃ p xs k j, o = .ref p ∧ i = .int k ∧ H p = some (.lst xs) ∧ ixN xs.length k = some j ∧ Q (upd H p (.lst (xs.set j v)))
theorem set_list : PSet X rSetL := by
  intro pins s σ H o i v ov iv u Q I ro ri rv h
  obtain ⟨p, xs, k, j, rfl, rfl, hp, hj, q⟩ := h
  cases ro
  obtain ⟨t, rfl⟩ := ri
  obtain ⟨its, n, r, ho, hz⟩ := I.lst hp
  obtain ⟨h1, h2, h3, h4⟩ := ixN_seq hj
  have hl := r.length
  have hn := line63
  have I' : Inv X pins σ (upd H p (.lst (xs.set j v))) { s with heap := s.heap.update p (Obj.mapSeq (·.setIfInBounds j u)) } :=
    I.lstUpd hp ho (mapSeq_set its n j u) (r.set rv j) (by rw [List.length_set]; exact hz) s.toks
  by_cases h0 : 0 ≤ k
  · have hk : k.toNat = j := by
      rw [seqIndex_of h0 h4] at h1
      exact Option.some.inj h1
    exact PySem.W.ki_setAt ho h0 (by omega) (by rw [List.size_toArray, ← hl]; exact h4) (by rw [hk]; exact ⟨_, I', q⟩)
  · have hk : (k + (its.toArray.size : Int)).toNat = j := by
      rw [seqIndex_neg (by omega) h3] at h1
      rw [List.size_toArray, ← hl]
      exact Option.some.inj h1
    exact PySem.W.ki_setBack ho (by omega) (by rw [List.size_toArray, ← hl]; exact h3) (by omega) (by rw [hk]; exact ⟨_, I', q⟩)
theorem slice_bounds (lo hi : Option Int) (n : Nat) : (sliceBounds lo hi none n).1 = ((HT.sIx n 0 lo : Nat) : Int) ∧ (sliceBounds lo hi none n).2.1 = ((HT.sIx n n hi : Nat) : Int) ∧ (sliceBounds lo hi none n).2.2 = 1 := by
  refine ⟨?_, ?_, rfl⟩
  · cases lo with
    | none => simp [sliceBounds, HT.sIx]
    | some i =>
      simp only [sliceBounds, HT.sIx, Option.getD_none, show (1 : Int) > 0 by decide, if_true]
      by_cases h : i < 0
      · simp only [h, if_true] <;> omega
      · simp only [h, if_false] <;> omega
  · cases hi with
    | none => simp [sliceBounds, HT.sIx]
    | some i =>
      simp only [sliceBounds, HT.sIx, Option.getD_none, show (1 : Int) > 0 by decide, if_true]
      by_cases h : i < 0
      · simp only [h, if_true] <;> omega
      · simp only [h, if_false] <;> omega
theorem slicePick_cut (its : List Value) (lo hi : Option Int) : slicePick its.toArray lo hi none = ((its.drop (HT.sIx its.length 0 lo)).take (HT.sIx its.length its.length hi - HT.sIx its.length 0 lo)).toArray := by
  obtain ⟨h1, h2, h3⟩ := slice_bounds lo hi its.toArray.size
  unfold slicePick
  rw [h1, h2, h3]
  simp only [sliceRange_one, pick_run, List.size_toArray] <;> rfl
noncomputable def rSlL (K : PySem.W.Frag) : V → Option Int → Option Int → Hp → VK → Prop := fun x lo hi H Q => ∃ a xs, x = .ref a ∧ SqL K H a xs ∧ ∀ p, H p = none → Q (.ref p) (upd H p (.lst (cutV xs lo hi)))
theorem sl_list : SlR X (rSlL X.K) := by
  intro pins s σ H x v vl vu lo hi sl Q I rx hs pl pu h
  obtain ⟨a, xs, rfl, hx, q⟩ := h
  cases rx
  obtain ⟨its, r, ht, hz⟩ := I.list hx
  have hlen := r.length
  refine ⟨"list", _, slot_list_getitem.lookup, ht.isList.typeIs, ?_⟩
  refine wpAny_getItem_list_slice ht.isList hs pl pu .none (by simp) ?_ (by rw [List.size_toArray] <;> omega)
  rw [slicePick_cut, ← hlen]
  refine ⟨.ref s.heap.objs.size, _, I.laid (t' := s.toks) (o := .lst (cutV xs lo hi)) (fun b ob q => Heap.get?_push_of_some _ q) (Nat.le_refl _) ?_, rfl, q _ (I.hok.fresh (Nat.le_refl _))⟩
  exact ⟨Nat.le_trans (cutV_length xs lo hi) hz, _, 0, (r.drop (HT.sIx xs.length 0 lo)).take (HT.sIx xs.length xs.length hi - HT.sIx xs.length 0 lo), Heap.get?_push_size _ rfl⟩
noncomputable def flatV : V → Bool
  | .non => true
  | .bl _ => true
  | .int _ => true
  | .str _ => true
  | _ => false
noncomputable def eqV : V → V → Bool
  | .non, .non => true
  | .bl a, .bl b => a == b
  | .bl a, .int b => (if a then 1 else 0) == b
  | .int a, .bl b => a == (if b then 1 else 0)
  | .int a, .int b => a == b
  | .str a, .str b => a == b
  | _, _ => false
theorem eqAt_V {A : Around} {s : Shared} {y x : V} {u v : Value} (ry : RelV y u) (rx : RelV x v) (fy : flatV y = true) (fx : flatV x = true) : SeqAt.EqAt A s u v (eqV y x) := by
  cases y with
  | non =>
    cases ry
    cases x with
    | non => cases rx; exact SeqAt.EqAt.same _
    | bl b => cases rx; exact SeqAt.EqAt.none_bool b
    | int b => obtain ⟨t, rfl⟩ := rx; exact SeqAt.EqAt.none_int b t
    | str b => obtain ⟨t, rfl⟩ := rx; exact SeqAt.EqAt.none_str b t
    | _ => exact absurd (show false = true from fx) Bool.false_ne_true
  | bl a =>
    cases ry
    cases x with
    | non => cases rx; exact SeqAt.EqAt.bool_none a
    | bl b => cases rx; exact SeqAt.EqAt.bool_bool a b
    | int b => obtain ⟨t, rfl⟩ := rx; exact SeqAt.EqAt.bool_int a b t
    | str b => obtain ⟨t, rfl⟩ := rx; exact SeqAt.EqAt.bool_str a b t
    | _ => exact absurd (show false = true from fx) Bool.false_ne_true
  | int a =>
    obtain ⟨t', rfl⟩ := ry
    cases x with
    | non => cases rx; exact SeqAt.EqAt.int_none a t'
    | bl b => cases rx; exact SeqAt.EqAt.int_bool a t' b
    | int b => obtain ⟨t, rfl⟩ := rx; exact SeqAt.EqAt.int_int a t' b t
    | str b => obtain ⟨t, rfl⟩ := rx; exact SeqAt.EqAt.int_str a t' b t
    | _ => exact absurd (show false = true from fx) Bool.false_ne_true
  | str a =>
    obtain ⟨t', rfl⟩ := ry
    cases x with
    | non => cases rx; exact SeqAt.EqAt.str_none a t'
    | bl b => cases rx; exact SeqAt.EqAt.str_bool a t' b
    | int b => obtain ⟨t, rfl⟩ := rx; exact SeqAt.EqAt.str_int a t' b t
    | str b => obtain ⟨t, rfl⟩ := rx; exact SeqAt.EqAt.str_str a t' b t
    | _ => exact absurd (show false = true from fx) Bool.false_ne_true
  | _ => exact absurd (show false = true from fy) Bool.false_ne_true
theorem call_len_seq : CallR X (.builtin "len") (fun xs H Q => ∃ p ys, xs = [.ref p] ∧ (SqL X.K H p ys ∨ SqT X.K H p ys) ∧ Q (.int ys.length) H) := by
  intro pins s σ H xs us Q I r h
  obtain ⟨p, ys, rfl, hq, q⟩ := h
  obtain ⟨u, rfl, rx⟩ := vals1 r
  cases rx
  have hn := line63
  rcases hq with hq | hq
  · obtain ⟨its, r', pl, hz⟩ := I.list hq
    have hlen := r'.length
    exact Calls.call_len_list pl.isList (by simp only [List.size_toArray] <;> omega) ⟨.int ys.length, H, I.tok _, ⟨s.toks + 1, by rw [List.size_toArray, hlen]⟩, q⟩
  · obtain ⟨its, r', pl, hz⟩ := I.tuple hq
    have hlen := r'.length
    exact len_tuple pl (by simp only [List.size_toArray] <;> omega) ⟨.int ys.length, H, I.tok _, ⟨s.toks + 1, by rw [List.size_toArray, hlen]⟩, q⟩
theorem call_len_str : CallR X (.builtin "len") (fun xs H Q => ∃ z, xs = [.str z] ∧ z.length ≤ sizeLine ∧ Q (.int z.length) H) := by
  intro pins s σ H xs us Q I r h
  obtain ⟨z, rfl, hz, q⟩ := h
  obtain ⟨u, rfl, t, rfl⟩ := vals1 r
  have hn := line63
  exact len_str (by omega) ⟨.int z.length, H, I.tok _, ⟨_, rfl⟩, q⟩
theorem call_list_of : CallR X (.type "list") (fun xs H Q => ∃ p ys, xs = [.ref p] ∧ (SqL X.K H p ys ∨ SqT X.K H p ys) ∧ ∀ l, H l = none → Q (.ref l) (upd H l (.lst ys))) := by
  intro pins s σ H xs us Q I r h
  obtain ⟨p, ys, rfl, hq, q⟩ := h
  obtain ⟨u, rfl, rx⟩ := vals1 r
  cases rx
  have fin : ∀ (its : List Value), Vals ys its → ys.length ≤ sizeLine → ∀ (h' : Heap) (c' : Nat), (∀ b o', s.heap.get? b = some o' → h'.get? b = some o') →
      h'.get? s.heap.objs.size = some { cls := .type "list", dict := none, data := .seq its.toArray c', slots := #[] } → EP X pins σ Q (.ref s.heap.objs.size) { s with heap := h' } := fun its r' hz h' c' kp e =>
    ⟨.ref s.heap.objs.size, _, I.laid (t' := s.toks) kp (Nat.le_refl _) (show ObjOk X.prog X.w _ h' _ (.lst ys) from ⟨hz, its, c', r', e⟩), rfl, q _ (I.hok.fresh (Nat.le_refl _))⟩
  rcases hq with hq | hq
  · obtain ⟨its, r', pl, hz⟩ := I.list hq
    have hlen := r'.length
    obtain ⟨o, ho, hc, n, hd⟩ := pl.isList
    exact call_list_seq p (.inl rfl) ho hc hd (fun h' c' kp e => fin its r' hz h' c' kp e) (by simp only [List.size_toArray] <;> omega)
  · obtain ⟨its, r', pl, hz⟩ := I.tuple hq
    have hlen := r'.length
    obtain ⟨o, ho, hc, n, hd⟩ := pl
    exact call_list_seq p (.inr rfl) ho hc hd (fun h' c' kp e => fin its r' hz h' c' kp e) (by simp only [List.size_toArray] <;> omega)
noncomputable def tyV (K : PySem.W.Frag) (T : String) (x : V) (H : Hp) : Prop := match x with
  | .str _ => T = "str"
  | .int _ => T = "int"
  | .ref p => (T = "list" ∧ ∃ xs, SqL K H p xs) ∨ (T = "tuple" ∧ ∃ o, K.lookup p = some o ∧ o.cls = .type "tuple" ∧ o.dict = none) ∨
      (T = "dict" ∧ ((∃ kvs, H p = some (.dK kvs)) ∨ ∃ kvs, H p = some (.dT kvs))) ∨ (T = "set" ∧ ∃ S n, H p = some (.set S n))
  | _ => False
theorem tyV_is {pins : List (Addr × Obj)} {σ : St} {H : Hp} {s : Shared} {T : String} {x : V} {v : Value} (I : Inv X pins σ H s) (r : RelV x v) (ty : tyV X.K T x H) :
    s.TypeIs v T ∧ ∀ a, v = .ref a → ∃ ob, s.heap.get? a = some ob ∧ ob.dict = none := by
  cases x with
  | str z =>
    obtain ⟨t, rfl⟩ := r
    cases (show T = "str" from ty)
    exact ⟨typeIs_str s z t, fun _ e => nomatch e⟩
  | int i =>
    obtain ⟨t, rfl⟩ := r
    cases (show T = "int" from ty)
    exact ⟨typeIs_int s i t, fun _ e => nomatch e⟩
  | ref p =>
    cases r
    rcases ty with ⟨rfl, xs, hq⟩ | ⟨rfl, o, hk, hc, hd⟩ | ⟨rfl, hk⟩ | ⟨rfl, S, n, hk⟩
    · obtain ⟨its, _, pl, _⟩ := I.list hq
      refine ⟨pl.isList.typeIs, fun a e => ?_⟩
      cases e
      obtain ⟨o, n, e, c, hd, _⟩ := pl
      exact ⟨o, e, hd⟩
    · refine ⟨⟨o, I.kIn p o hk, hc⟩, fun a e => ?_⟩
      cases e
      exact ⟨o, I.kIn _ o hk, hd⟩
    · have z : ∃ o, s.heap.get? p = some o ∧ o.ExactDict := by
        rcases hk with ⟨kvs, hk⟩ | ⟨kvs, hk⟩
        · obtain ⟨_, _, _, _, o, _, _, e, ex, _⟩ := I.hok p _ hk
          exact ⟨o, e, ex⟩
        · obtain ⟨_, _, _, _, o, _, _, e, ex, _⟩ := I.hok p _ hk
          exact ⟨o, e, ex⟩
      obtain ⟨o, e, ex⟩ := z
      refine ⟨⟨o, e, ex.1⟩, fun a e2 => ?_⟩
      cases e2
      exact ⟨o, e, ex.2.1⟩
    · obtain ⟨o, _, _, _, e, ex, _⟩ := I.hok p _ hk
      refine ⟨⟨o, e, ex.1⟩, fun a e2 => ?_⟩
      cases e2
      exact ⟨o, e, ex.2.1⟩
  | _ => exact False.elim ty
noncomputable def tBM0 (K : PySem.W.Frag) (T : String) (r : V → List V → Hp → VK → Prop) (to : TE) : TE := fun σ H Q => to σ H fun x H1 => tyV K T x H1 ∧ r x [] H1 Q
noncomputable def tBM (K : PySem.W.Frag) (T : String) (r : V → List V → Hp → VK → Prop) (to : TE) (t : TA) : TE := fun σ H Q => to σ H fun x H1 => tyV K T x H1 ∧ t σ H1 fun xs H2 => r x xs H2 Q
variable {o e : Expr} {es : List Expr} {to : TE} {t : TA} {name : Str} {apos cpos : Pos} {T id : String} {r : V → List V → Hp → VK → Prop}
theorem pe_bm0 (pa : PlainAttrs T) (slot : Slot T name id) (hty : typeOf (.builtin id) = pure (.type "method_descriptor")) (hm : MtR X id r) (ho : PE X o to)
    (hbase : attributeBase o name X.env (eval o X.env) = eval o X.env := by rfl) (hline : (apos.endLine == cpos.line) = true := by rfl) : PE X (.Call (.Attribute o name apos) [] [] cpos) (tBM0 X.K T r to) := by
  intro pins s σ H Q I h
  refine wpAny_Call_method0_late hbase hline (thn (ho pins s σ H _ I h) fun v s1 ⟨x, H1, I1, r1, ty, q1⟩ => ?_)
  obtain ⟨h1, h2⟩ := tyV_is I1 r1 ty
  exact ⟨T, id, pa, slot, hty, h1, h2, Calls.callWith_builtin rfl (PySem.evalArgs_none (hm pins s1 σ H1 x [] v [] Q I1 r1 .nil q1))⟩
theorem pe_bm (pa : PlainAttrs T) (slot : Slot T name id) (hty : typeOf (.builtin id) = pure (.type "method_descriptor")) (hm : MtR X id r) (ho : PE X o to) (ha : PA X (e :: es) t)
    (hbase : attributeBase o name X.env (eval o X.env) = eval o X.env := by rfl)
    (hfew : ((backTo cpos (starEach (e :: es) X.env)).all (fun x => !x.1) && (backToKw cpos (keywordEach [] X.env)).all (fun x => x.1.isSome)
      && decide ((e :: es).length + ([] : List Keyword).length + (if ([] : List Keyword).isEmpty then 0 else 1) < 30)) = true := by rfl)
    (hline : (apos.endLine == cpos.line) = true := by rfl) (hs : starEach (e :: es) X.env = (false, eval e X.env) :: starEach es X.env := by rfl) (hplain : (backTo cpos (starEach es X.env)).any (·.1) = false := by rfl) :
    PE X (.Call (.Attribute o name apos) (e :: es) [] cpos) (tBM X.K T r to t) := by
  intro pins s σ H Q I h
  refine wpAny_Call_method_late hbase hfew hline rfl (thn (ho pins s σ H _ I h) fun v s1 ⟨x, H1, I1, r1, ty, q1⟩ => ?_)
  obtain ⟨h1, h2⟩ := tyV_is I1 r1 ty
  refine ⟨T, id, pa, slot, hty, h1, h2, ?_⟩
  have hA := ha cpos pins s1 σ H1 _ I1 q1
  rw [hs] at hA ⊢
  refine Calls.callWith_builtin (by show (false || (backTo cpos (starEach es X.env)).any (·.1)) = false; rw [hplain] <;> rfl) (Calls.evalArgs_plain ?_)
  exact thn hA fun us s2 ⟨vs, H2, I2, r2, q2⟩ => hm pins s2 σ H2 x vs v us Q I2 r1 r2 q2
end
end L2
namespace L2
open PySem PySem.Spec PyProof.Rows
noncomputable def MtM (X : Cx) (id : String) (r : V → List V → Hp → VK → Prop) : Prop :=
  ∀ (pins : List (Addr × Obj)) (s : Shared) (σ : St) (H : Hp) (x : V) (xs : List V) (v : Value) (us : List Value) (Q : VK), Inv X pins σ H s → RelV x v → Vals xs us → r x xs H Q →
    wpAny (model X.prog X.w) X.A (call (.builtin id) (v :: us)) (EP X pins σ Q) X.xe s
theorem Vals.one : ∀ {x : V} {us : List Value}, Vals [x] us → ∃ u, us = [u] ∧ RelV x u
  | _, _, .cons r .nil => ⟨_, rfl, r⟩
theorem Vals.zero : ∀ {us : List Value}, Vals [] us → us = []
  | _, .nil => rfl
theorem Vals.dropLast {xs : List V} {us : List Value} (h : Vals xs us) : Vals xs.dropLast us.dropLast := by
  induction h with
  | nil => exact .nil
  | cons r t ih =>
    cases t with
    | nil => exact .nil
    | cons q t' => exact .cons r ih
theorem erase_last {α : Type} (l : List α) : l.eraseIdx (l.length - 1) = l.dropLast := by
  induction l with
  | nil => rfl
  | cons a r ih =>
    cases r with
    | nil => rfl
    | cons b r =>
      have e : (a :: b :: r).length - 1 = ((b :: r).length - 1) + 1 := by
        have h1 : (a :: b :: r).length = r.length + 2 := rfl
        have h2 : (b :: r).length = r.length + 1 := rfl
        omega
      rw [e, List.eraseIdx_cons_succ, ih]
      all_goals rfl
section
variable {X : Cx} {pins : List (Addr × Obj)} {σ : St} {H : Hp} {s : Shared} {l b : Addr} {xs ys zs : List V}
theorem Inv.lset {its its' : List Value} {n : Nat} {f : Array Value → Array Value} {t' : Nat} (I : Inv X pins σ H s) (hH : H l = some (.lst xs))
    (e : s.heap.get? l = some { cls := .type "list", data := .seq its.toArray n }) (hf : f its.toArray = its'.toArray) (hv : Vals ys its') (hz : ys.length ≤ sizeLine) :
    Inv X pins σ (upd H l (.lst ys)) { s with heap := s.heap.update l (Obj.mapSeq f), toks := t' } := by
  have q := PySem.IsL.update e f
  rw [hf] at q
  refine I.write (x := l) (e := l) (by rw [hH]; exact trivial) (.inl rfl) (fun b' u hb hu => (Heap.get?_update_other s.heap (Obj.mapSeq f) (Ne.symm hb)).trans hu) ⟨_, q⟩ ?_
  exact ⟨hz, its', _, hv, q⟩
theorem Inv.lnew {its : List Value} {t' : Nat} (I : Inv X pins σ H s) (hv : Vals ys its) (hz : ys.length ≤ sizeLine) :
    Inv X pins σ (upd H s.heap.objs.size (.lst ys)) { s with heap := s.heap.push { cls := .type "list", data := .seq its.toArray }, toks := t' } :=
  I.laid (fun _ _ q => Heap.get?_push_of_some _ q) (Nat.le_refl _) ⟨hz, its, 0, hv, Heap.get?_push_size _ rfl⟩
theorem Inv.fresh (I : Inv X pins σ H s) : H s.heap.objs.size = none := I.hok.fresh (Nat.le_refl _)
theorem Inv.lstM (I : Inv X pins σ H s) (hH : H l = some (.lst xs)) : xs.length ≤ sizeLine ∧ ∃ (its : List Value) (n : Nat), Vals xs its ∧ xs.length = its.length ∧ s.heap.get? l = some { cls := .type "list", data := .seq its.toArray n } := by
  obtain ⟨z, its, n, r, e⟩ := I.hok l _ hH
  exact ⟨z, its, n, r, r.length, e⟩
theorem notLongL {n : Nat} (h : n ≤ sizeLine) : Builtin.List.listTooLong n = false := by
  unfold Builtin.List.listTooLong
  exact decide_eq_false (by omega)
end
section
variable {X : Cx}
noncomputable def rAppend : V → List V → Hp → VK → Prop := fun x vs H Q => ∃ l xs y, x = .ref l ∧ vs = [y] ∧ H l = some (.lst xs) ∧ xs.length < sizeLine ∧ Q .non (upd H l (.lst (xs ++ [y])))
theorem mt_append : MtM X "list.append" rAppend := by
  intro pins s σ H x vs v us Q I rx rv h
  obtain ⟨l, xs, y, rfl, rfl, hH, hz, q⟩ := h
  cases rx
  obtain ⟨u, rfl, ru⟩ := rv.one
  obtain ⟨z, its, n, r, hl, e⟩ := I.lstM hH
  refine call_meets F.slot_list_append ⟨_, e, rfl⟩ F.entry_list_append (F.args_list_append_2 _ _) (PySem.list_append l its.toArray n u (by rw [List.size_toArray]; omega)) ⟨e, ?_⟩
  refine ⟨.non, _, I.lset (its' := its ++ [u]) hH e (by simp) (r.append (.cons ru .nil)) ?_, rfl, q⟩
  rw [List.length_append, List.length_singleton]
  omega
noncomputable def rExtend : V → List V → Hp → VK → Prop := fun x vs H Q => ∃ l b xs zs, x = .ref l ∧ vs = [.ref b] ∧ H l = some (.lst xs) ∧ H b = some (.lst zs) ∧ xs.length + zs.length ≤ sizeLine ∧ Q .non (upd H l (.lst (xs ++ zs)))
theorem mt_extend : MtM X "list.extend" rExtend := by
  intro pins s σ H x vs v us Q I rx rv h
  obtain ⟨l, b, xs, zs, rfl, rfl, hH, hB, hz, q⟩ := h
  cases rx
  obtain ⟨u, rfl, ru⟩ := rv.one
  cases ru
  obtain ⟨z, its, n, r, hl, e⟩ := I.lstM hH
  obtain ⟨z2, its2, n2, r2, hl2, e2⟩ := I.lstM hB
  have hsz : its.toArray.size + its2.toArray.size ≤ sizeLine := by rw [List.size_toArray, List.size_toArray]; omega
  have hlong : ¬ (!its.toArray.isEmpty && Builtin.List.listTooLong (its.toArray.size + its2.toArray.size)) = true := by
    rw [notLongL hsz, Bool.and_false]
    exact Bool.false_ne_true
  refine call_meets F.slot_list_extend ⟨_, e, rfl⟩ F.entry_list_extend (F.args_list_extend_2 _ _)
    (AutoSeq1.list_extend_list_list_0 l its.toArray n b its2.toArray n2 hlong (by rw [List.size_toArray]; omega) (by omega)) ⟨e, e2, ?_⟩
  refine ⟨.non, _, I.lset (its' := its ++ its2) hH e (by simp) (r.append r2) ?_, rfl, q⟩
  rw [List.length_append]
  omega
noncomputable def rPop : V → List V → Hp → VK → Prop := fun x vs H Q => ∃ l xs y, x = .ref l ∧ vs = [] ∧ H l = some (.lst xs) ∧ xs[xs.length - 1]? = some y ∧ Q y (upd H l (.lst xs.dropLast))
theorem mt_pop : MtM X "list.pop" rPop := by
  intro pins s σ H x vs v us Q I rx rv h
  obtain ⟨l, xs, y, rfl, rfl, hH, hy, q⟩ := h
  cases rx
  have hus := rv.zero
  subst hus
  obtain ⟨z, its, n, r, hl, e⟩ := I.lstM hH
  obtain ⟨u, hu, ru⟩ := r.get hy
  have hy' : its.toArray[its.toArray.size - 1]? = some u := by
    show its.toArray[its.length - 1]? = some u
    rw [← Array.getElem?_toList, ← hl]
    exact hu
  refine call_meets F.slot_list_pop ⟨_, e, rfl⟩ F.entry_list_pop (F.args_list_pop_1 _) (MeetsSeq.list_pop_last l its.toArray n u hy' (by rw [List.size_toArray]; omega)) ⟨e, ?_⟩
  refine ⟨y, _, I.lset (its' := its.dropLast) hH e ?_ r.dropLast ?_, ru, q⟩
  · show its.toArray.eraseIdxIfInBounds (its.toArray.size - 1) = its.dropLast.toArray
    rw [List.size_toArray, List.eraseIdxIfInBounds_toArray, erase_last]
  · rw [List.length_dropLast]
    omega
noncomputable def rClear : V → List V → Hp → VK → Prop := fun x vs H Q => ∃ l xs, x = .ref l ∧ vs = [] ∧ H l = some (.lst xs) ∧ Q .non (upd H l (.lst []))
theorem mt_clear : MtM X "list.clear" rClear := by
  intro pins s σ H x vs v us Q I rx rv h
  obtain ⟨l, xs, rfl, rfl, hH, q⟩ := h
  cases rx
  have hus := rv.zero
  subst hus
  obtain ⟨z, its, n, r, hl, e⟩ := I.lstM hH
  refine call_meets F.slot_list_clear ⟨_, e, rfl⟩ F.entry_list_clear (F.args_list_clear_1 _) (AutoSeq1.list_clear_list_0 l its.toArray n (by rw [List.size_toArray]; omega)) ⟨e, ?_⟩
  exact ⟨.non, _, I.lset (its' := []) (ys := []) hH e rfl .nil (Nat.zero_le _), rfl, q⟩
noncomputable def rCat : R2 := fun x y H Q => ∃ l b xs zs, x = .ref l ∧ y = .ref b ∧ H l = some (.lst xs) ∧ H b = some (.lst zs) ∧ xs.length + zs.length ≤ sizeLine ∧ ∀ p, H p = none → Q (.ref p) (upd H p (.lst (xs ++ zs)))
theorem op_cat : OpR X (binaryOp .Add) rCat := by
  intro pins s σ H x y v u Q I rx ry h
  obtain ⟨l, b, xs, zs, rfl, rfl, hH, hB, hz, q⟩ := h
  cases rx
  cases ry
  obtain ⟨z, its, n, r, hl, e⟩ := I.lstM hH
  obtain ⟨z2, its2, n2, r2, hl2, e2⟩ := I.lstM hB
  refine PySem.P.add_list e e2 ?_ (by rw [List.size_toArray, List.size_toArray]; omega)
  have ea : its.toArray ++ its2.toArray = (its ++ its2).toArray := by simp
  rw [ea]
  exact ⟨.ref _, _, I.lnew (t' := s.toks) (r.append r2) (by rw [List.length_append]; omega), rfl, q _ I.fresh⟩
end
section
variable {prog : Program} {w : World} {A : Around} {E : Value → Shared → Prop} {s : Shared}
set_option maxRecDepth 100000 in
end
section
variable {X : Cx}
end
end L2
namespace Att
open PySem PySem.W PySem.Calls PyProof.Rows
theorem ints_of_wellAll {P : Params} {h : Heap} : ∀ (ns : List Int) (vs : List Value), WellAll P h vs (ns.map WData.int) → IntsAre vs ns := by
  intro ns
  induction ns with
  | nil =>
    intro vs w
    rw [List.map_nil] at w
    cases w
    exact .nil
  | cons n ns ih =>
    intro vs w
    rw [List.map_cons] at w
    cases w with
    | cons a b =>
      cases a
      exact .cons _ _ (ih _ b)
theorem script_of {l : OpenLaw} {n : Nat} (hn : l.most = some n) {P : Params} {h : Heap} {args : List WData} {vals : List Value}
    (hpre : l.row.toRowW.claim.pre args = true) (hwl : WellAll P h vals args) :
    ∃ a vs ns, vals = [Value.ref a] ∧ args = [WData.list (ns.map WData.int)] ∧ h.get? a = some { cls := .type "list", data := .seq vs.toArray } ∧ IntsAre vs ns ∧ ns.length ≤ n := by
  have hsh : WShape.hasAll [] args [.list .int] = true := (pre_splitW hpre).1
  have hc : l.pre.holds [] { args := args } = true := (pre_splitW hpre).2
  obtain ⟨d, r, rfl, h1, h2⟩ := hasAllW_cons hsh
  obtain rfl := hasAllW_nil h2
  obtain ⟨xs, rfl, h3⟩ := hasW_list h1
  obtain ⟨ns, rfl⟩ := items_int h3
  have hlen : ns.length ≤ n := by
    unfold OpenLaw.pre at hc
    have h4 : (WTm.not (.lt (.lit (.int (n : Int))) (.len (.arg 0)))).holds [] { args := [.list (ns.map .int)] } = true := by
      have h4 := (holds_andW hc).1
      rw [hn] at h4
      exact h4
    have h5 := condW_of h4 (w_not (w_lt w_lit (w_len_list (w_arg rfl))))
    rw [List.length_map] at h5
    refine Nat.le_of_not_lt fun q => ?_
    have q' : (n : Int) < ((ns.length : Nat) : Int) := by omega
    first
      | (rw [decide_eq_true q'] at h5; exact absurd h5 (by decide))
      | (simp at h5; omega)
  cases hwl with
  | cons w1 w2 =>
    cases w2
    cases w1 with
    | list ho hall => exact ⟨_, _, ns, rfl, rfl, ho, ints_of_wellAll ns _ hall, hlen⟩
theorem post_true (l : OpenLaw) (args : List WData) : l.row.toRowW.claim.post args (.bool true) args = true :=
  postW_of (r := l.row.toRowW) (X := (true == true))
    (show WShape.has [] (.bool true) .bool = true by first | rfl | decide | simp [WShape.has, WShape.arms, WShape.armsAll])
    (show (WTm.eq .res (.lit (.bool true))).value [] { args := args, res := some (.bool true), after := args } = some (.bool (true == true)) from w_eq_bool (w_res rfl) w_lit) rfl
theorem attach_call {l : OpenLaw} {n : Nat} {q : Program} {loose : List Str} {XP : (Str → Option Value) → Heap → Prop} {YP : World → Heap → Prop} {d : DefRec}
    (hn : l.most = some n) (hdf : d.params.defaults = [])
    (call : ∀ (w : World) (s₀ s₁ : Shared) (mg mb : Str → Option Value) (fa : Addr) (o : Obj) (pm cd doc : Value) (a : Addr) (vs : List Value) (ns : List Int),
      Ground q loose [] XP w s₀ mg mb s₁.heap → YP w s₁.heap →
      s₁.heap.get? fa = some o → o.data = .func (docDef d.name d.params d.body d.scope pm cd doc) → s₁.heap.CodeRec cd d.name → mg d.name = some (.ref fa) →
      s₁.heap.get? a = some { cls := .type "list", data := .seq vs.toArray } → IntsAre vs ns → ns.length ≤ n → s₁.gens = #[] →
      codeAny (model l.prog w) callerA (.call (.ref fa) ⟨[.ref a], []⟩) (fun r s' => r = .ok (.ret (.bool true)) ∧ OldK s₁.heap s'.heap ∧ s'.os = s₁.os ∧ AllBare s'.gens) s₁) :
    WalkO q loose XP YP l.row.toRowW d [] (fun f vs => PySem.call f vs) := by
  intro w s₀ s₁ mg mb G Y fa o pm cd doc dV kV ho hd hcd hD hmg hg args vals as hpre hlay hrd hwl hlo
  obtain rfl : dV = .none := Dflts.none hD hdf
  obtain rfl : kV = .none := Dflts.noKw hD
  obtain ⟨a, vs, ns, rfl, rfl, hobj, hints, hlen⟩ := script_of hn hpre hwl
  refine enter_call (codeAny_mono (call w s₀ s₁ mg mb fa o pm cd doc a vs ns G Y ho (fd_plain hd) hcd hmg hobj hints hlen hg) fun r s' hq => ?_)
  obtain ⟨rfl, h2, h3, h4⟩ := hq
  exact ⟨.inl ⟨.bool true, .bool true, [], rfl, fun _ => rfl, .bool true, post_true l _, fun _ => ⟨List.Pairwise.nil, fun _ hm => (nomatch hm)⟩⟩, h2, h3, h4⟩
section
variable {prog : Program} {w : World} {A : Around} {E : Value → Shared → Prop} {s : Shared} {K : Frag}
noncomputable def ledger (h : Heap) (L d : Addr) : List (Addr × Obj) := (List.range h.objs.size).filterMap fun a => if a = L ∨ a = d then none else (h.get? a).map fun o => (a, o)
end
end Att
namespace L2
open PySem PySem.Spec PyProof.Rows
theorem vals_ints : ∀ {vs : List Value} {ns : List Int}, IntsAre vs ns → Vals (ns.map V.int) vs
  | _, _, .nil => .nil
  | _, _, .cons n t h => .cons ⟨t, rfl⟩ (vals_ints h)
noncomputable def Only (H : Hp) : Prop := ∀ b, H b = none ∨ ∃ o xs, H b = some (.frz o (.lst xs))
theorem law_call {P : Program} {w : World} {K : PySem.W.Frag} {mg mb : Str → Option Value} {CX : CXT} {k : Nat} {fa a : Addr} {fd : FuncData} {x : Str} {sp : Sp} {s₁ : Shared} {vs : List Value} {ns : List Int}
    (KX : K.In s₁.heap) (hns : s₁.heap.Ns mainGlobals mg) (hb : s₁.heap.Ns builtinsNs mb) (hbb : ∀ x : Str, x ≠ "__name__" → mb x = bootBuiltins x) (hlim : s₁.heap.NoLimit) (hg : s₁.gens = #[])
    (ha : s₁.heap.get? a = some { cls := .type "list", data := .seq vs.toArray }) (hi : IntsAre vs ns) (hl : ns.length ≤ sizeLine) (hr : Room k callerA)
    (F : ∀ base : Heap, K.In base → base.Ns mainGlobals mg → FnOk P w K mg base CX k fa fd [x] sp) (hbind : ∀ (s : Shared) (u : Value), BindsTo s fd ⟨[u], []⟩ [(x, u)])
    (hsp : ∀ H : Hp, Only H → SqL K H a (ns.map V.int) → sp [.ref a] H (fun v _ => v = .bl true) fun _ _ _ => False)
    (hCX : ∀ H e s', CX [] H s₁ (fun _ _ _ => False) e s' → False) :
    codeAny (model P w) callerA (.call (.ref fa) ⟨[.ref a], []⟩) (fun r s' => r = .ok (.ret (.bool true)) ∧ OldK s₁.heap s'.heap ∧ s'.os = s₁.os ∧ AllBare s'.gens) s₁ := by
  have rv := vals_ints hi
  have lenV := hi.length
  -- from an abstract heap in which nothing but the script may be tracked
  have core : ∀ H : Hp, Only H → SqL K H a (ns.map V.int) → HOk P w H s₁.heap → (∀ b, H b ≠ none → b = a) → (H a ≠ none → K.lookup a = none) →
      codeAny (model P w) callerA (.call (.ref fa) ⟨[.ref a], []⟩) (fun r s' => r = .ok (.ret (.bool true)) ∧ OldK s₁.heap s'.heap ∧ s'.os = s₁.os ∧ AllBare s'.gens) s₁ := by
    intro H hO hS hok hA hK
    have base_of : ∀ {b : Addr} {o : Obj}, s₁.heap.get? b = some o → H b = none → (hidT s₁.heap H).get? b = some o := fun e n => hidT_get e n
    have noA : ∀ {b : Addr} {o : Obj} {es : Array DictEntry} {ep : Nat}, s₁.heap.get? b = some o → o.data = .dict es ep → H b = none := fun {b o es ep} e d => by
      cases q : H b with
      | none => rfl
      | some u =>
        have e' : b = a := hA b (by rw [q]; simp)
        subst e'
        rw [ha] at e; cases e
        have d' : Data.seq vs.toArray _ = Data.dict es ep := d
        cases d'
    have nsK : ∀ {b : Addr} {m : Str → Option Value}, s₁.heap.Ns b m → (hidT s₁.heap H).Ns b m := fun {b m} ⟨o, es, ep, e, d, r⟩ => ⟨o, es, ep, base_of e (noA e d), d, r⟩
    have hKb : K.In (hidT s₁.heap H) := fun b o e => base_of (KX b o e) (by
      cases q : H b with
      | none => rfl
      | some u =>
        have e' : b = a := hA b (by rw [q]; simp)
        subst e'
        rw [hK (by rw [q]; simp)] at e; cases e)
    have hM : Mod K mg (hidT s₁.heap H) := ⟨hKb, nsK hns, ⟨mb, nsK hb, hbb⟩, let ⟨mc, h1, h2⟩ := hlim; ⟨mc, nsK h1, h2⟩⟩
    have e0 : Env0 P w K mg (hidT s₁.heap H) callerA [] s₁ H := ⟨rfl, hM, fun b o e => of_hidT e, Nat.le_of_eq (hidT_size _ _), trivial, fun b hb => absurd (show b ∈ ([] : List Addr) from hb) (by simp), hok, .of_eq hg⟩
    refine codeAny_mono ((F _ hKb (nsK hns)).run callerA [] s₁ H ⟨[.ref a], []⟩ [.ref a] [.ref a] _ _ hr e0 (hbind s₁ (.ref a)) (.cons rfl .nil) (hsp H hO hS)) fun r s' h => ?_
    cases r with
    | error e => exact (hCX H e s' h).elim
    | ok fl =>
      cases fl with
      | next => exact False.elim h
      | brk => exact False.elim h
      | cont => exact False.elim h
      | ret u =>
        obtain ⟨v, H', os, bare, un, hok', r', q⟩ := h
        have q' : v = .bl true := q
        subst q'
        obtain rfl : u = Value.bool true := r'
        refine ⟨rfl, OldK.of_keep fun b o e => ?_, os, bare⟩
        cases q : H b with
        | none => exact un.keep b o e q (by intro z; exact absurd (show b ∈ ([] : List Addr) from z) (by simp)) (by simp)
        | some u =>
          rcases hO b with z | ⟨ob, xs, z⟩
          · rw [q] at z; cases z
          · have z2 := un.frzs b ob _ z
            obtain ⟨e1, _⟩ := hok b _ z
            obtain ⟨e2, _⟩ := hok' b _ z2
            rw [e] at e1; cases e1
            exact e2
  cases hk : K.lookup a with
  | some o =>
    -- the script is one of the module's own objects
    have e := KX a o hk
    rw [ha] at e
    cases e
    refine core (fun _ => none) (fun _ => .inl rfl) (.inr ⟨_, vs.toArray, _, hk, rfl, rfl, rfl, by rw [List.size_toArray, lenV]; exact hl, by simpa using rv⟩) (fun b u z => by have z' : (none : Option HO) = some u := z; cases z') (fun b z => absurd rfl z) fun z => absurd rfl z
  | none =>
    refine core (fun b => if b = a then some (.frz { cls := .type "list", data := .seq vs.toArray } (.lst (ns.map V.int))) else none) (fun b => ?_) (.inl (.inr ⟨{ cls := .type "list", data := .seq vs.toArray }, if_pos rfl⟩)) (fun b u z => ?_) (fun b z => ?_) fun _ => hk
    · by_cases hb : b = a
      · exact .inr ⟨_, _, if_pos hb⟩
      · exact .inl (if_neg hb)
    · by_cases hb : b = a
      · have z' := (if_pos hb).symm.trans z
        cases z'
        subst hb
        exact ⟨ha, by rw [List.length_map]; exact hl, vs, _, rv, ha⟩
      · have z' := (if_neg hb).symm.trans z
        cases z'
    · by_cases hb : b = a
      · exact hb
      · exact absurd (if_neg hb) z
end L2
namespace L2
open PySem PySem.Spec PyProof.Rows
noncomputable abbrev KOf {K : PySem.W.Frag} {h : Heap} (_ : K.In h) : PySem.W.Frag := K
theorem walk_of {l : PySem.W.OpenLaw} {n k : Nat} {q : Program} {loose : List Str} {XP : (Str → Option Value) → Heap → Prop} {YP : World → Heap → Prop} {d : DefRec} {K : Params → PySem.W.Frag} {CX : World → CXT} {sp : World → Sp} {x : Str}
    (hn : l.most = some n) (hn2 : n ≤ sizeLine) (hdf : d.params.defaults = []) (hr : Room k callerA)
    (hY : ∀ (w : World) (h : Heap), YP w h → (K w.params).In h)
    (F : ∀ (w : World) (mg : Str → Option Value) (fa : Addr) (h : Heap), (K w.params).In h → h.Ns mainGlobals mg → mg d.name = some (.ref fa) →
      ∃ fd : FuncData, (∀ (s : Shared) (u : Value), BindsTo s fd ⟨[u], []⟩ [(x, u)]) ∧
        ∀ base : Heap, (K w.params).In base → base.Ns mainGlobals mg → FnOk l.prog w (K w.params) mg base (CX w) k fa fd [x] (sp w))
    (hsp : ∀ (w : World) (H : Hp) (a : Addr) (ns : List Int), ns.length ≤ n → Only H → SqL (K w.params) H a (ns.map V.int) → sp w [.ref a] H (fun v _ => v = .bl true) fun _ _ _ => False)
    (hCX : ∀ (w : World) (H : Hp) (s : Shared) (e : Value) (s' : Shared), CX w [] H s (fun _ _ _ => False) e s' → False) :
    PySem.W.WalkO q loose XP YP l.row.toRowW d [] (fun f vs => PySem.call f vs) := by
  refine Att.attach_call hn hdf fun w s₀ s₁ mg mb fa o pm cd doc a vs ns G Y ho hd hcd hmg hobj hints hlen hg => ?_
  have KX := hY w _ Y
  obtain ⟨fd, hb, hF⟩ := F w mg fa _ KX G.T.g hmg
  exact law_call KX G.T.g G.T.b G.T.builtins G.T.nolimit hg hobj hints (Nat.le_trans hlen hn2) hr hF hb (fun H hO hS => hsp w H a ns hlen hO hS) fun H e s' => hCX w H s₁ e s'
end L2
namespace L2
open PySem PySem.Spec PyProof.Rows
noncomputable def inClass (s : Stmt) (j : Nat) : Stmt := match s with
  | .ClassDef _ _ _ body _ _ _ _ _ _ _ => body.getD j (.Pass ⟨0, 0, 0, 0⟩)
  | _ => .Pass ⟨0, 0, 0, 0⟩
noncomputable def defArgs (s : Stmt) : Arguments := match s with
  | .FunctionDef _ a _ _ _ _ _ _ _ _ => a
  | _ => { posonlyargs := [], args := [], vararg := none, kwonlyargs := [], kw_defaults := [], kwarg := none, defaults := [] }
noncomputable def defBody (s : Stmt) : List Stmt := match s with
  | .FunctionDef _ _ b _ _ _ _ _ _ _ => b
  | _ => []
noncomputable def defScope (s : Stmt) : Scope := match s with
  | .FunctionDef _ _ _ _ _ _ sc _ _ _ => sc
  | _ => { kind := .function, names := [], isGenerator := false, isCoroutine := false }
noncomputable abbrev CX0 : CXT := fun _ _ _ _ _ _ => False
noncomputable abbrev E0 : XK := fun _ _ _ => False
structure Fun (K : PySem.W.Frag) (x qual : Str) (st : Stmt) (f : Addr) (fd : FuncData) : Prop where
  ex : ∃ (oc : Value) (od : Option Addr) (kV doc pm : Value) (an : Option Addr) (cdv ct : Value) (osl : Array (Option Value)),
    fd = PySem.W.fnOf x qual (defArgs st) (defBody st) (defScope st) .none kV doc pm an cdv ct ∧ K.lookup f = some ⟨oc, od, .func fd, osl⟩ ∧ PySem.W.codeIn K cdv qual = true
  kp : PySem.W.keepIn K (.ref f) = true
section
variable {P : Program} {w : World} {K : PySem.W.Frag} {mg : Str → Option Value} {base : Heap}
theorem Fun.ok {x qual : Str} {st : Stmt} {f : Addr} {fd : FuncData} {N ps : List Str} {k : Nat} {sp : Sp} (F : Fun K x qual st f fd) (S : FnScope N ps (defScope st)) (len : ∀ vs H Q E, sp vs H Q E → vs.length = ps.length)
    (hbody : ∀ (cdv : Value) (A : Around) (outer : List Env) (s : Shared) (H : Hp) (vs : List V) (Q : VK) (E : XK), Room k (A.deeper (envOfC qual (defScope st) s.heap.objs.size f cdv)) → sp vs H Q E →
      ∃ t, PSs (cxOf CX0 P w K mg base N qual (defScope st) f cdv A outer s H E).nox (defBody st) t ∧ t { nx := fun _ H' => Q .non H', rt := Q } (start N vs) H) : FnOk P w K mg base CX0 (k + 1) f fd ps sp := by
  obtain ⟨oc, od, kV, doc, pm, an, cdv, ct, osl, rfl, lk, hcd⟩ := F.ex
  refine fn_of lk hcd S len fun A outer s H vs Q E hr hsp => ?_
  obtain ⟨t, h, q⟩ := hbody cdv A outer s H vs Q E hr hsp
  exact ⟨t, h.nox, q⟩
theorem Fun.binds {x qual : Str} {st : Stmt} {f : Addr} {fd : FuncData} {ps : List Str} (F : Fun K x qual st f fd)
    (h : ∀ (kV doc pm : Value) (an : Option Addr) (cdv ct : Value) (us : List Value), us.length = ps.length → bindArgs (PySem.W.fnOf x qual (defArgs st) (defBody st) (defScope st) .none kV doc pm an cdv ct) ⟨us, []⟩ = pure (ps.zip us)) : Binds K fd ps [] := by
  obtain ⟨oc, od, kV, doc, pm, an, cdv, ct, osl, rfl, lk, hcd⟩ := F.ex
  exact .all (h kV doc pm an cdv ct)
theorem fun_mk {x qual : Str} {st : Stmt} {f : Addr} {oc : Value} {od an : Option Addr} {osl : Array (Option Value)} {kV doc pm cdv ct : Value} (l : K.lookup f = some ⟨oc, od, .func (PySem.W.fnOf x qual (defArgs st) (defBody st) (defScope st) .none kV doc pm an cdv ct), osl⟩)
    (c : PySem.W.codeIn K cdv qual = true) (k : PySem.W.keepIn K (.ref f) = true) : Fun K x qual st f (PySem.W.fnOf x qual (defArgs st) (defBody st) (defScope st) .none kV doc pm an cdv ct) := ⟨⟨oc, od, kV, doc, pm, an, cdv, ct, osl, rfl, l, c⟩, k⟩
end
theorem hu_of {A : Around} {k : Nat} (hr : Room k A) : A.units + 1 < cLine := Nat.lt_of_le_of_lt (Nat.add_le_add_left (by decide : 1 ≤ 64) _) hr.units
section
variable {X : Cx}
theorem pv (i : Nat) {x : Str} {pos : Pos} (hN : X.N[i]? = some x := by rfl) (hv : Vis X.env.scope x := by first | exact Or.inl rfl | exact Or.inr (Or.inl rfl) | exact Or.inr (Or.inr rfl)) (hd : (x == ("__debug__" : Str)) = false := by decide)
    (hcd : (x == ("__classdict__" : Str)) = false := by decide) : PE X (.Name x pos) (tVar i) := pe_var hN hv hd hcd
end
theorem iteF {A B : Prop} (h : B) : if false = true then A else B := by
  rw [if_neg Bool.false_ne_true]
  exact h
theorem iteT {A B : Prop} (h : A) : if true = true then A else B := by
  rw [if_pos rfl]
  exact h
theorem ite2 {c A B : Prop} [Decidable c] (h1 : c → A) (h2 : ¬ c → B) : if c then A else B := by
  by_cases h : c
  · rw [if_pos h]
    exact h1 h
  · rw [if_neg h]
    exact h2 h
theorem iteNS {c A B : Prop} [Decidable c] (hc : c) (h : B) : if (!decide c) = true then A else B := by
  rw [decide_eq_true hc]
  exact iteF h
noncomputable def Same (H H' : Hp) : Prop := ∀ b o, H b = some o → H' b = some o
theorem Same.refl (H : Hp) : Same H H := fun _ _ h => h
theorem Same.trans {H H1 H2 : Hp} (a : Same H H1) (b : Same H1 H2) : Same H H2 := fun c o h => b c o (a c o h)
theorem Same.free {H H' : Hp} (e : Same H H') {l : Addr} (h : H' l = Option.none) : H l = Option.none := by
  cases q : H l with
  | none => rfl
  | some o =>
    rw [e l o q] at h
    cases h
theorem Same.seq {K : PySem.W.Frag} {H H' : Hp} {a : Addr} {xs : List V} (e : Same H H') (h : SqL K H a xs) : SqL K H' a xs := by
  rcases h with (h | ⟨o, h⟩) | h
  · exact .inl (.inl (e _ _ h))
  · exact .inl (.inr ⟨o, e _ _ h⟩)
  · exact .inr h
end L2
set_option Elab.async false
set_option linter.all false
set_option maxRecDepth 100000
set_option maxHeartbeats 4000000
namespace L2
open PySem PySem.Spec PyProof.Rows
section
variable {X : Cx}
noncomputable def CDivL (i j : Int) : Prop := 0 < j ∧ j.natAbs.log2 < 9000
theorem op_fdivL : OpR X (binaryOp .FloorDiv) (rI CDivL fun i j => .int (i / j)) := opI fun i j _ _ _ _ _ hc q => by
  have h1 : (0 : Int) < j := hc.1
  exact floordiv_int (by omega) (by rw [Int.fdiv_eq_ediv_of_nonneg i (by omega)]; exact q) (.inl (PyProof.noPylong_of_log2 hc.2))
theorem call_sum (hc : X.calm = true) : CallR X (.builtin "sum") (fun xs H Q => ∃ (p : Addr) (ns : List Int), xs = [.ref p] ∧ SqL X.K H p (ns.map V.int) ∧ Q (.int ns.sum) H) := by
  intro pins s σ H xs us Q I r h
  obtain ⟨p, ns, rfl, hl, q⟩ := h
  obtain ⟨u, rfl, ru⟩ := vals1 r
  cases ru
  obtain ⟨its, r', pl, hz⟩ := I.list hl
  have hi : IntsAre its ns := intsAre_of r'
  have hall : AllInts its.toArray := hi.allInts
  obtain ⟨ys, e⟩ := hall.items
  have hl' : s.heap.IsList p (intItems ys) := by rw [← e]; exact pl.isList
  refine sum_intListG (I.ok.hd hc) hl' fun h' tk t' hk => ?_
  have e2 : preSum (numAt ys) ys.size = ns.sum := by
    have e3 : numsOf (intItems ys).toList = ns := by rw [← e]; exact hi.numsOf
    rw [preSum_eq, List.take_of_length_le (by simp), ← e3, nums_intItems]
  rw [e2]
  exact ⟨.int ns.sum, H, I.kept hk, ⟨_, rfl⟩, q⟩
theorem call_isinst : CallR X (.builtin "isinstance") (fun xs H Q => ∃ x c cv t b, xs = [x, c] ∧ (∀ u, RelV c u → u = cv) ∧ TyOf X.K H x t ∧ PySem.W.kitOne X.K t cv = some b ∧ Q (.bl b) H) := by
  intro pins s σ H xs us Q I r h
  obtain ⟨x, c, cv, t, b, rfl, hcv, ty, e, q⟩ := h
  obtain ⟨u, w', rfl, r1, r2⟩ := vals2 r
  rw [hcv w' r2]
  exact isinst_ok I r1 ty e fun tk => ⟨.bl b, H, I.tok _, rfl, q⟩
theorem relTy {n : String} : ∀ u, RelV (.ty n) u → u = Value.type n := fun _ h => h
noncomputable def Its (x : Str) : It := ⟨fun i _ => i < x.cps.size, fun i H v H' => H' = H ∧ ∃ c, x.cps[i]? = some c ∧ v = .str ⟨#[c]⟩, fun i _ => i = x.cps.size⟩
theorem turn_str {P : Program} {w : World} {K : PySem.W.Frag} {tg : Expr} (it : Addr) (ty : String) (x : Str) (t : Tok)
    (W : ∀ A : Around, A.handled = none → Walks P w A it [it] [it] x.cps.size (SignAt x) (fun i h => h.IsStrIter it ty x t i))
    (hty : ["enumerate", "zip", "dict_itemiterator", "dict_reverseitemiterator", "odict_iterator", "itertools.zip_longest", "itertools.pairwise"].contains ty = false)
    (hself : ∀ (A : Around) (i : Nat) (s : Shared) (Q : Value → Shared → Prop) (E : Value → Shared → Prop), s.heap.IsStrIter it ty x t i → Q (.ref it) s → wpAny (model P w) A (pyIter (.ref it)) Q E s) :
    Turn P w K tg (Its x) [it] it (fun i h => h.IsStrIter it ty x t i) where
  mem := by simp
  obj := fun i h st b hb => by
    have e : b = it := by simpa using hb
    subst e
    obtain ⟨o, e, c, d⟩ := st
    exact ⟨o, e, fun v z => by rw [d] at z; cases z⟩
  keep := fun i h h' st k => by
    obtain ⟨o, e, c, d⟩ := st
    exact ⟨o, k it (by simp) o e, c, d⟩
  item := by
    intro X hP hw hK hc i pins s σ H E I hf st hg
    subst hP hw hK
    obtain ⟨f0, f1, f2, f3, f4, f5⟩ := hf it (by simp)
    refine (W X.A (I.ok.hd hc)).item i s _ _ hg st fun v h' tk hv st' kk => ?_
    obtain ⟨c, u, ec, rfl⟩ := hv
    have I1 : Inv X pins σ H { s with heap := h', toks := tk } := I.turned (fun b o hb e => kk b o (by simpa using hb) e) f0 f1 f3 f4 f5
    obtain ⟨o, e, cl, d⟩ := id st'
    exact ⟨_, rfl, go_of (s := { s with heap := h', toks := tk }) e cl d hty ⟨.str ⟨#[c]⟩, H, I1, ⟨_, rfl⟩, ⟨rfl, c, ec, rfl⟩, st', fun b hb => (hf b hb).1⟩⟩
  done := by
    intro X hP hw hK hc i pins s σ H E I hf st hg
    subst hP hw hK
    obtain ⟨f0, f1, f2, f3, f4, f5⟩ := hf it (by simp)
    have hi : i = x.cps.size := hg
    subst hi
    exact (W X.A (I.ok.hd hc)).done s _ _ st fun h' tk kk => ⟨rfl, I.turned (fun b o hb e => kk b o (by simpa using hb) e) f0 f1 f3 f4 f5⟩
  self := hself
noncomputable def iStr (tl : TE) : TI := fun σ H R => tl σ H fun v H1 => ∃ x, v = .str x ∧ R (Its x) H1
theorem pi_str {tg l : Expr} {tl : TE} (hl : PE X l tl) : PI X tg l (iStr tl) := by
  intro pins s σ H R I h
  refine thn (hl pins s σ H _ I h) fun v s1 ⟨y, H1, I1, r1, q1⟩ => ?_
  obtain ⟨x, e, q⟩ := q1
  subst e
  obtain ⟨t, rfl⟩ := r1
  have fin : ∀ (o : Obj) (ty : String), (s1.heap.push o).IsStrIter s1.heap.objs.size ty x t 0 → Turn X.prog X.w X.K tg (Its x) [s1.heap.objs.size] s1.heap.objs.size (fun i h => h.IsStrIter s1.heap.objs.size ty x t i) →
      PIE X pins σ tg R (.ref s1.heap.objs.size) { s1 with heap := s1.heap.push o } := fun o ty st T => by
    refine ⟨s1.heap.objs.size, [s1.heap.objs.size], _, _, H1, rfl, I1.kept (t' := s1.toks) fun b o e => Heap.get?_push_of_some _ e, T, st, fun b hb => ?_, q⟩
    have e : b = s1.heap.objs.size := by simpa using hb
    subst e
    exact I1.fpOk (Nat.le_refl _) (I1.hok.fresh (Nat.le_refl _))
  cases ha : x.cps.all (· < 128)
  · exact wpAny_pyIter_wide ha (fin _ "str_iterator" ⟨_, Heap.get?_push_size _ rfl, rfl, rfl⟩ (turn_str _ _ x t (fun A' hA => Walks.strWide hA _ x t) (by decide) fun _ _ _ _ _ st h => wpAny_pyIter_striter_wide st h))
  · exact wpAny_pyIter_ascii ha (fin _ "str_ascii_iterator" ⟨_, Heap.get?_push_size _ rfl, rfl, rfl⟩ (turn_str _ _ x t (fun A' hA => Walks.strAscii hA _ x t) (by decide) fun _ _ _ _ _ st h => wpAny_pyIter_striter_ascii st h))
theorem for_str {x : Str} {g : TG} {tb : TS} {D : Ends} {σ : St} {H : Hp} (Pv : Nat → St → Hp → Prop) (h0 : Pv 0 σ H)
    (hs : ∀ i c σ H, x.cps[i]? = some c → Pv i σ H → g (.str ⟨#[c]⟩) σ H fun σ2 H2 => tb { D with nx := Pv (i + 1), ct := Pv (i + 1), bk := D.nx } σ2 H2) (hd : ∀ σ H, Pv x.cps.size σ H → D.nx σ H) :
    ∃ W : Nat → Nat → St → Hp → Prop, (∃ m, W 0 m σ H) ∧ ∀ i m σ H, W i m σ H →
      ((Its x).stop i H ∧ D.nx σ H) ∨ ((Its x).go i H ∧ ∃ N : St → Hp → Prop, (∀ σ' H', N σ' H' → ∃ m', m' < m ∧ W (i + 1) m' σ' H') ∧ ∀ v H', (Its x).yld i H v H' → g v σ H' fun σ2 H2 => tb { D with nx := N, ct := N, bk := D.nx } σ2 H2) := by
  refine ⟨fun i m σ H => m = x.cps.size - i ∧ i ≤ x.cps.size ∧ Pv i σ H, ⟨x.cps.size, by simp, Nat.zero_le _, h0⟩, ?_⟩
  rintro i m σ H ⟨rfl, hi, p⟩
  by_cases hlt : i < x.cps.size
  · refine .inr ⟨hlt, Pv (i + 1), fun σ' H' p' => ⟨x.cps.size - (i + 1), by omega, rfl, hlt, p'⟩, fun v H' y => ?_⟩
    obtain ⟨e, c, ec, ev⟩ := y
    subst e ev
    exact hs i c σ _ ec p
  · have e : i = x.cps.size := by omega
    subst e
    exact .inl ⟨rfl, hd σ H p⟩
noncomputable def rSlS : V → Option Int → Option Int → Hp → VK → Prop := fun v lo hi H Q => ∃ x, v = .str x ∧ x.length ≤ sizeLine ∧ Q (.str (Txt.slice x lo hi)) H
theorem sl_str : SlR X rSlS := by
  intro pins s σ H v vv vl vu lo hi sl Q I rx hs pl pu h
  obtain ⟨x, rfl, hz, q⟩ := h
  obtain ⟨t, rfl⟩ := rx
  refine ⟨"str", _, F.slot_str_getitem.lookup, typeIs_str _ _ _, ?_⟩
  have fin : ∀ (l u : Option (Int × Tok)), s.heap.IsSlice sl l u none → l.map (·.1) = lo → u.map (·.1) = hi → wpAny (model X.prog X.w) X.A (getItem (.str x t) (.ref sl)) (EP X pins σ Q) X.xe s := fun l u hsl el eu => by
    refine wpAny_getItem_str_slice (l := l) (u := u) (st := none) hsl rfl ?_
    subst el eu
    exact post_val_or_str ⟨Nat.le_trans (Txt.slice_le x _ _) hz, fun t' k => ⟨.str (Txt.slice x (l.map (·.1)) (u.map (·.1))), H, I.tok _, ⟨t', rfl⟩, q⟩⟩
  cases pl with
  | none =>
    cases pu with
    | none => exact fin none none hs rfl rfl
    | int j uj => exact fin none (some (j, uj)) hs rfl rfl
  | int i ui =>
    cases pu with
    | none => exact fin (some (i, ui)) none hs rfl rfl
    | int j uj => exact fin (some (i, ui)) (some (j, uj)) hs rfl rfl
theorem strsAre_of {ys : List Str} : ∀ {us : List Value}, Vals (ys.map V.str) us → StrsAre us ys := by
  induction ys with
  | nil => intro us r; rw [List.map_nil] at r; cases r; exact .nil
  | cons n ns ih =>
    intro us r
    rw [List.map_cons] at r
    cases r with
    | cons h t =>
      obtain ⟨tk, rfl⟩ := h
      exact .cons n tk (ih t)
noncomputable def rJoin (K : PySem.W.Frag) : V → List V → Hp → VK → Prop := fun x vs H Q => ∃ sep p ys, x = .str sep ∧ vs = [.ref p] ∧ SqL K H p (ys.map V.str) ∧ (ys.map (·.length)).sum + ys.length * sep.length ≤ 16777216 ∧ Q (.str (Txt.join sep ys)) H
theorem mt_join : MtM X "str.join" (rJoin X.K) := by
  intro pins s σ H x xs v us Q I rx rs h
  obtain ⟨sep, p, ys, rfl, rfl, hl, hok, q⟩ := h
  obtain ⟨t, rfl⟩ := rx
  obtain ⟨u, rfl, ru⟩ := vals1 rs
  cases ru
  obtain ⟨its, r', pl, hz⟩ := I.list hl
  exact join_list pl.isList (strsAre_of r') hok fun t' k => ⟨.str (Txt.join sep ys), H, I.tok _, ⟨_, rfl⟩, q⟩
end
theorem forIn_collect {α β : Type} {l : List α} {f : α → β → Sem (ForInStep β)} (g : β → α → β) (c : β) (h : ∀ x ∈ l, ∀ c, f x c = pure (.yield (g c x))) :
    forIn l c f = pure (l.foldl g c) := by
  induction l generalizing c with
  | nil => rfl
  | cons x l ih =>
    rw [List.forIn_cons, h x List.mem_cons_self, pure_bind]
    exact ih _ fun y hy => h y (List.mem_cons_of_mem _ hy)
noncomputable def clOf (cells : List (Str × Addr)) (names : List (Str × NameKind)) (acc : List (Str × Addr)) : List (Str × Addr) :=
  names.foldl (fun cs y => if y.2 == .free then (y.1, (cells.lookup y.1).getD 0) :: cs else cs) acc
theorem closure_eq {scope : Scope} {env : Env} (h : ∀ y ∈ scope.names, y.2 = .free → ∃ c, env.cells.lookup y.1 = some c) : closureFor scope env = pure (clOf env.cells scope.names []) := by
  simp only [closureFor]
  rw [forIn_collect (fun cs y => if y.2 == .free then (y.1, (env.cells.lookup y.1).getD 0) :: cs else cs) [] fun x hx c => ?_]
  · rfl
  · obtain ⟨n, k⟩ := x
    by_cases hk : k = .free
    · subst hk
      obtain ⟨a, ea⟩ := h (n, .free) hx rfl
      have ea' : env.cells.lookup n = some a := ea
      simp only [beq_self_eq_true, if_true, cellOf, ea', pure_bind, Option.getD_some]
    · have hb : (k == NameKind.free) = false := by simpa using hk
      simp only [hb, Bool.false_eq_true, if_false]
theorem lookup_mem {α : Type} : ∀ {l : List (Str × α)} {x : Str} {c : α}, l.lookup x = some c → (x, c) ∈ l
  | [], _, _, h => by simp at h
  | (y, d) :: r, x, c, h => by
    rw [List.lookup_cons] at h
    cases hx : x == y with
    | true =>
      rw [hx] at h
      have e : x = y := by simpa using hx
      subst e
      cases h
      exact List.mem_cons_self
    | false =>
      rw [hx] at h
      exact List.mem_cons_of_mem _ (lookup_mem h)
theorem mem_lookup {α : Type} : ∀ {l : List (Str × α)} {x : Str} {c : α}, (x, c) ∈ l → ∃ d, l.lookup x = some d
  | [], _, _, h => by cases h
  | (y, d) :: r, x, c, h => by
    rw [List.lookup_cons]
    cases hx : x == y with
    | true => exact ⟨d, rfl⟩
    | false =>
      rcases List.mem_cons.mp h with e | h
      · cases e; simp at hx
      · exact mem_lookup h
theorem clOf_mem {cells : List (Str × Addr)} : ∀ {names : List (Str × NameKind)} {acc : List (Str × Addr)} {p : Str × Addr}, p ∈ clOf cells names acc ↔ p ∈ acc ∨ ((p.1, NameKind.free) ∈ names ∧ p.2 = (cells.lookup p.1).getD 0)
  | [], acc, p => by simp [clOf]
  | (n, k) :: r, acc, p => by
    show p ∈ clOf cells r (if k == .free then (n, (cells.lookup n).getD 0) :: acc else acc) ↔ _
    rw [clOf_mem (names := r)]
    by_cases hk : k = .free
    · subst hk
      simp only [beq_self_eq_true, if_true, List.mem_cons]
      constructor
      · rintro ((rfl | h) | h)
        · exact .inr ⟨.inl rfl, rfl⟩
        · exact .inl h
        · exact .inr ⟨.inr h.1, h.2⟩
      · rintro (h | ⟨h | h, e⟩)
        · exact .inl (.inr h)
        · obtain ⟨a, b⟩ := p
          cases h
          exact .inl (.inl (by rw [show b = _ from e]))
        · exact .inr ⟨h, e⟩
    · have hb : (k == NameKind.free) = false := by simpa using hk
      simp only [hb, Bool.false_eq_true, if_false, List.mem_cons]
      constructor
      · rintro (h | h)
        · exact .inl h
        · exact .inr ⟨.inr h.1, h.2⟩
      · rintro (h | ⟨h | h, e⟩)
        · exact .inl h
        · cases h; exact absurd rfl hk
        · exact .inr ⟨h, e⟩
theorem relabel_mem {scope : Scope} {env : Env} {x : Str} {k : NameKind} (h : (relabel scope env).names.lookup x = some k) : ∃ k', (x, k') ∈ scope.names ∧ (k' = k ∨ (k' = .free ∧ k = .cell)) := by
  have m := lookup_mem h
  unfold relabel at m
  obtain ⟨⟨n, k'⟩, hm, e⟩ := List.mem_map.mp m
  dsimp only at e
  split at e
  · rename_i hc
    rw [Bool.and_eq_true, Bool.and_eq_true] at hc
    have e1 : n = x := congrArg Prod.fst e
    have e2 : NameKind.cell = k := congrArg Prod.snd e
    subst e1 e2
    exact ⟨k', hm, .inr ⟨by simpa using hc.1.1, rfl⟩⟩
  · have e1 : n = x := congrArg Prod.fst e
    have e2 : k' = k := congrArg Prod.snd e
    subst e1 e2
    exact ⟨k', hm, .inl rfl⟩
noncomputable def subCx (X : Cx) (scope : Scope) (N : List Str) (cl : List (Str × Addr)) (C : Addr) (s : Shared) (H : Hp) (fp : List Addr) (xe : Value → Shared → Prop) : Cx :=
  { X with N := N, s₀ := s, H₀ := H, env := compEnvC scope cl C X.env, outer := X.stack, stack := X.stack, ex := fp, fn := fun _ => false, pn := [], xe := xe }
inductive Caps (X : Cx) (scope : Scope) : List Str → List (Option Nat) → Prop where
  | nil : Caps X scope [] []
  | own {x : Str} {N : List Str} {ix : List (Option Nat)} (r : Caps X scope N ix) : Caps X scope (x :: N) (none :: ix)
  | cap {x : Str} {j : Nat} {N : List Str} {ix : List (Option Nat)} (h1 : X.N[j]? = some x) (h2 : X.env.kindOf x = some .cell) (h3 : (relabel scope X.env).names.lookup x = some .cell) (r : Caps X scope N ix) : Caps X scope (x :: N) (some j :: ix)
noncomputable def capS (ix : List (Option Nat)) (σ : St) : St := ix.map fun o => match o with
  | none => none
  | some j => (σ[j]?).getD none
theorem Caps.get {X : Cx} {scope : Scope} {σ : St} : ∀ {N : List Str} {ix : List (Option Nat)}, Caps X scope N ix → ∀ (i : Nat) (x : Str) (v : V), N[i]? = some x → (capS ix σ)[i]? = some (some v) →
    ∃ j : Nat, X.N[j]? = some x ∧ σ[j]? = some (some v) ∧ X.env.kindOf x = some .cell ∧ (relabel scope X.env).names.lookup x = some .cell
  | _, _, .nil, i, x, v, h, _ => by simp at h
  | _, _, .own r, 0, x, v, _, h => by simp [capS] at h
  | _, _, .own r, i + 1, x, v, h1, h2 => r.get i x v (by simpa using h1) (by simpa [capS] using h2)
  | _, _, .cap (j := j) e1 e2 e3 r, 0, x, v, h1, h2 => by
    simp at h1
    subst h1
    refine ⟨j, e1, ?_, e2, e3⟩
    simp only [capS, List.map_cons, List.getElem?_cons_zero, Option.some.injEq] at h2
    cases q : σ[j]? with
    | none => rw [q] at h2; cases h2
    | some o => rw [q] at h2; simp only [Option.getD_some] at h2; rw [h2]
  | _, _, .cap e1 e2 e3 r, i + 1, x, v, h1, h2 => r.get i x v (by simpa using h1) (by simpa [capS] using h2)
theorem Caps.length {X : Cx} {scope : Scope} {N : List Str} {ix : List (Option Nat)} (h : Caps X scope N ix) : ix.length = N.length := by
  induction h with
  | nil => rfl
  | own _ ih => simp [ih]
  | cap _ _ _ _ ih => simp [ih]
noncomputable def Ext (a b : St) : Prop := b.length = a.length ∧ ∀ (i : Nat) v, a[i]? = some (some v) → b[i]? = some (some v)
theorem Ext.set {a : St} {i : Nat} {v : V} (h : a[i]? = some none) : Ext a (a.set i (some v)) := by
  refine ⟨by simp, fun j w e => ?_⟩
  by_cases hj : j = i
  · subst hj; rw [h] at e; cases e
  · rw [List.getElem?_set_ne (Ne.symm hj)]; exact e
noncomputable def PTs (X : Cx) (ifs : List Expr) (t : TT) : Prop :=
  ∀ (pins : List (Addr × Obj)) (s : Shared) (σ : St) (H : Hp) (Q : Bool → Hp → Prop), Inv X pins σ H s → t σ H Q →
    wpAny (model X.prog X.w) X.A (forIn ifs true fun c r => if r = true then do let ok ← isTrue c X.env (eval c X.env); pure (ForInStep.yield ok) else pure (ForInStep.yield r)) (TP X pins σ Q) X.xe s
noncomputable def ttNil : TT := fun _ H Q => Q true H
theorem pts_nil {X : Cx} : PTs X [] ttNil := fun pins s σ H Q I h => wpAny_tests_nil ⟨H, I, h⟩
theorem pts_one {X : Cx} {c : Expr} {t : TT} (h : PT X c t) : PTs X [c] t := fun pins s σ H Q I q => wpAny_tests_one (h pins s σ H Q I q)
noncomputable def CompW (J : It) (g : TG) (tt : TT) (te : TE) (σ0 : St) (D : Addr) (Q : VK) (H1 : Hp) : Prop := ∃ W : Nat → Nat → List V → Hp → Prop, (∃ m, W 0 m [] (upd H1 D (.lst []))) ∧ ∀ i m ys H, W i m ys H →
  (J.stop i H ∧ Q (.ref D) H) ∨ (J.go i H ∧ ∀ x H', J.yld i H x H' → g x σ0 H' fun σ2 H2 => Ext σ0 σ2 ∧ tt σ2 H2 fun b H3 =>
    if b = true then te σ2 H3 fun v H4 => H4 D = some (.lst ys) ∧ ys.length < sizeLine ∧ ∃ m', m' < m ∧ W (i + 1) m' (ys ++ [v]) (upd H4 D (.lst (ys ++ [v]))) else ∃ m', m' < m ∧ W (i + 1) m' ys H3)
noncomputable def tComp (wi : TI) (g : TG) (tt : TT) (te : TE) (ix : List (Option Nat)) : TE := fun σ H Q => wi σ H fun J H1 => ∀ D, H1 D = none → CompW J g tt te (capS ix σ) D Q H1
section
variable {prog : Program} {w : World} {A : Around} {R : Result → Shared → Prop} {s : Shared}
theorem comp_loop {elt target iter : Expr} {ifs : List Expr} {scope : Scope} {pos : Pos} {it acc : Value} {env : Env} (I : Nat → Shared → Prop)
    (turn : ∀ n s, I n s → wpAny (model prog w) A (pyNext it) (fun r s₁ => match r with
      | none => R (.ok .next) s₁
      | some v => wpAny (model prog w) A (letOwnedTupleGo target it v) (fun _ s₁' => wpAny (model prog w) A (assign target env v) (fun _ s₂ =>
          wpAny (model prog w) A (forIn ifs true fun c r => if r = true then do let ok ← isTrue c env (eval c env); pure (ForInStep.yield ok) else pure (ForInStep.yield r)) (fun ok s₃ =>
            if ok = true then wpAny (model prog w) A (eval elt env) (fun x s₄ =>
              wpAny (model prog w) A (call (.builtin "list.append") [acc, x]) (fun _ s₅ => ∃ m, m < n ∧ I m s₅) (notedBy (model prog w) A env fun e s' => R (.error e) s') s₄) (notedBy (model prog w) A env fun e s' => R (.error e) s') s₃
            else ∃ m, m < n ∧ I m s₃) (notedBy (model prog w) A env fun e s' => R (.error e) s') s₂) (notedBy (model prog w) A env fun e s' => R (.error e) s') s₁') (notedBy (model prog w) A env fun e s' => R (.error e) s') s₁) (notedBy (model prog w) A env fun e s' => R (.error e) s') s)
    (n : Nat) (h : I n s) : codeAny (model prog w) A (.compLoop (.ListComp elt [⟨target, iter, ifs, 0⟩] scope pos) 0 it acc env) R s := by
  refine codeAny_loop rfl I (fun n s hI => ?_) n h
  show wpAny _ A ((compTurn (.ListComp elt [⟨target, iter, ifs, 0⟩] scope pos) 0 it acc env).onRaise (fun x => do noteFrame x env; theTreesLotGoes x)) _ _ s
  refine wpAny_noted ?_
  rw [compTurn_list]
  refine wpAny_bind (wpAny_standAt (wpAny_bind (wpAny_mono (turn n s hI) (fun r s₁ h₁ => ?_) fun _ _ h' => h')))
  cases r with
  | none => exact wpAny_pure h₁
  | some v =>
    refine wpAny_bind (wpAny_mono h₁ (fun _ s₁' h₁' => ?_) fun _ _ h' => h')
    refine wpAny_bind (wpAny_mono h₁' (fun _ s₂ h₂ => wpAny_bind (wpAny_mono h₂ (fun ok s₃ h₃ => ?_) fun _ _ h' => h')) fun _ _ h' => h')
    cases ok with
    | false => exact wpAny_pure ⟨rfl, h₃⟩
    | true =>
      exact wpAny_bind (wpAny_bind (wpAny_mono h₃ (fun x s₄ h₄ => wpAny_bind (wpAny_mono h₄ (fun _ s₅ h₅ => wpAny_pure (wpAny_pure ⟨rfl, h₅⟩)) fun _ _ h' => h')) fun _ _ h' => h'))
end
section
variable {X : Cx}
noncomputable def noCell (sc : Scope) : Bool := sc.names.all fun y => y.2 != .cell
noncomputable def freeOk (sc : Scope) (env : Env) : Bool := sc.names.all fun y => y.2 != .free || env.kindOf y.1 == some .cell
noncomputable def namesOk (sc : Scope) : Bool := sc.names.all fun y => y.2 != .local || sc.names.lookup y.1 == some .local
structure BlockEnd (X : Cx) (pins : List (Addr × Obj)) (σ : St) (H : Hp) (C : Addr) (s : Shared) : Prop where
  inv : Inv X pins σ H s
  ns : ∃ m, s.heap.Ns C m
  free : H C = none
  loc : C ≠ X.env.locals
  young : X.s₀.heap.objs.size ≤ C
  cell : ∀ x c, X.env.cells.lookup x = some c → c ≠ C
  pin : ∀ p ∈ X.pn ++ pins, p.1 ≠ C
theorem BlockEnd.gone {pins : List (Addr × Obj)} {σ : St} {H : Hp} {C : Addr} {s : Shared} (B : BlockEnd X pins σ H C s) {h' : Heap} (hs : Heap.SameBut C s.heap h') : Inv X pins σ H { s with heap := h' } :=
  B.inv.turned (t' := s.toks) (it := C) (fun b o hb e => hs.extBut b o hb e) B.free B.loc (.inr B.young) B.cell B.pin
theorem comp_core {elt tg iter : Expr} {ifs : List Expr} {scope : Scope} {pos pos' : Pos} {N : List Str} {ix : List (Option Nat)} {wi : TI} {g : TG} {tt : TT} {te : TE} {use : Option (Value → Sem Unit)} {Qv : Value → Shared → Prop}
    (hc : X.calm = true) (hi : PI X tg iter wi) (hk : scope.kind = .function) (hcell0 : noCell scope = true) (hfree0 : freeOk scope X.env = true) (hnames0 : namesOk scope = true) (caps : Caps X scope N ix)
    (hg : ∀ cl C s H fp xe, PG (subCx X scope N cl C s H fp xe) tg g) (ht : ∀ cl C s H fp xe, PTs (subCx X scope N cl C s H fp xe) ifs tt) (he : ∀ cl C s H fp xe, PE (subCx X scope N cl C s H fp xe) elt te)
    (hs : ∀ x, foldedSetIterable iter X.env x = pure x)
    {pins : List (Addr × Obj)} {s : Shared} {σ : St} {H : Hp} {Q : VK} (I : Inv X pins σ H s) (h : tComp wi g tt te ix σ H Q)
    (fin : ∀ (C D : Addr) (H6 : Hp) (s6 : Shared), BlockEnd X pins σ H6 C s6 → Q (.ref D) H6 → compPost (model X.prog X.w) X.A X.xe use Qv (.ref D) C (.ok .next) s6) :
    wpAny (model X.prog X.w) X.A (comprehension (.ListComp elt [⟨tg, iter, ifs, 0⟩] scope pos) scope X.env pos' (newList []) false (eval iter X.env) use) Qv X.xe s := by
  have hcell : ∀ y ∈ scope.names, y.2 ≠ .cell := fun y hy e => by
    have := List.all_eq_true.mp hcell0 y hy
    rw [e] at this; exact absurd this (by decide)
  have hfree : ∀ y ∈ scope.names, y.2 = .free → X.env.kindOf y.1 = some .cell := fun y hy e => by
    have := List.all_eq_true.mp hfree0 y hy
    rw [e] at this; simpa using this
  have hnames : ∀ y ∈ scope.names, y.2 = .local → scope.names.lookup y.1 = some .local := fun y hy e => by
    have := List.all_eq_true.mp hnames0 y hy
    rw [e] at this; simpa using this
  have hcl : ∀ y ∈ scope.names, y.2 = .free → ∃ c, X.env.cells.lookup y.1 = some c := fun y hy e => I.ok.has y.1 (.inl (hfree y hy e))
  refine wpAny_comprehension_free (use := use) rfl hs (closure_eq hcl) hk hnames ?_
  generalize ecl : clOf X.env.cells scope.names [] = cl
  -- the cells of the block are the def's
  have cl1 : ∀ x c, cl.lookup x = some c → X.env.cells.lookup x = some c := fun x c e => by
    have m := lookup_mem e
    rw [← ecl] at m
    rcases clOf_mem.mp m with z | ⟨z, z'⟩
    · cases z
    · obtain ⟨a, ea⟩ := hcl _ z rfl
      have ea' : X.env.cells.lookup x = some a := ea
      have z2 : c = (X.env.cells.lookup x).getD 0 := z'
      rw [ea', Option.getD_some] at z2
      rw [ea', z2]
  have cl2 : ∀ x, (x, NameKind.free) ∈ scope.names → ∃ c, cl.lookup x = some c := fun x hx => by
    have m : (x, (X.env.cells.lookup x).getD 0) ∈ cl := by rw [← ecl]; exact clOf_mem.mpr (.inr ⟨hx, rfl⟩)
    exact mem_lookup m
  refine thn (hi pins s σ H _ I h) fun v s1 h1 => thn h1 fun itv s2 h2 => ?_
  obtain ⟨it, fp, tn, J, H2, e, I2, T, st2, f2, body⟩ := h2
  subst e
  refine wpAny_newObj_type (wpAny_newFunctionEnv hcell (by intro y hy; simp at hy) (fun h₁ hns₁ hsb₁ => ?_) hk)
  dsimp only at hns₁ hsb₁ ⊢
  have hD : H2 s2.heap.objs.size = none := I2.hok.fresh (Nat.le_refl _)
  obtain ⟨W, ⟨m0, w0⟩, turn⟩ := body _ hD
  have I3 : Inv X pins σ (upd H2 s2.heap.objs.size (.lst [])) { s2 with heap := s2.heap.push { cls := .type "list", dict := none, data := .seq ([] : List Value).toArray } } :=
    I2.laid (t' := s2.toks) (fun b o e => Heap.get?_push_of_some _ e) (Nat.le_refl _) ⟨Nat.zero_le _, [], 0, .nil, Heap.get?_push_size _ rfl⟩
  generalize hs3 : ({ s2 with heap := s2.heap.push { cls := .type "list", dict := none, data := .seq ([] : List Value).toArray } } : Shared) = s3 at I3
  have es3 : s2.heap.push { cls := .type "list", dict := none, data := .seq ([] : List Value).toArray } = s3.heap := by rw [← hs3]
  rw [es3] at hns₁ hsb₁ ⊢
  generalize hD' : s2.heap.objs.size = D at *
  generalize hH3 : upd H2 D (.lst []) = H3 at *
  have szC : s3.heap.objs.size = D + 1 := by rw [← es3, Heap.size_push, hD']
  -- what was, is
  have old : ∀ b o, s3.heap.get? b = some o → h₁.get? b = some o := fun b o e => hsb₁.extBut b o (Nat.ne_of_lt (Heap.lt_size e)) (Heap.get?_push_of_some _ e)
  have fpl : ∀ b ∈ fp, b < D := fun b hb => by
    obtain ⟨o, e, _⟩ := T.obj 0 _ st2 b hb
    rw [← hD']; exact Heap.lt_size e
  have fpD : ∀ b ∈ fp, H3 b = none := fun b hb => by
    rw [← hH3, upd_ne (Nat.ne_of_lt (fpl b hb))]; exact (f2 b hb).1
  have fstk : ∀ b ∈ fp, b ∉ frs X.stack := fun b hb z => by
    obtain ⟨_, f1, f3, _⟩ := f2 b hb
    rcases List.mem_cons.mp (I2.stkSub b z) with e | e
    · exact f1 e
    · exact f3 e
  let E' : Value → Shared → Prop := notedBy (model X.prog X.w) X.A (compEnvC scope cl s3.heap.objs.size X.env) fun e s' => compPost (model X.prog X.w) X.A X.xe use Qv (.ref D) s3.heap.objs.size (.error e) s'
  have ok' : (subCx X scope N cl s3.heap.objs.size s3 H3 fp E').Ok := by
    refine { mod := I.ok.mod, kind := ?_, glob := I.ok.glob, blt := I.ok.blt, above := Nat.le_refl _, inj := ?_, has := ?_, cab := ?_, hd := I.ok.hd, frames := I.ok.frames, stk := .inl rfl, exf := ?_, bs := I3.bs, bsz := ?_, noex := ?_, exfs := fstk, funs := I3.stack, frf := I3.stkFree }
    · show (relabel scope X.env).kind = .function
      exact hk
    · exact fun x y c e1 e2 => I.ok.inj x y c (cl1 x c e1) (cl1 y c e2)
    · intro x hx
      have hx' : (relabel scope X.env).names.lookup x = some .cell ∨ (relabel scope X.env).names.lookup x = some .free := hx
      have : (x, NameKind.free) ∈ scope.names := by
        rcases hx' with e | e
        · obtain ⟨k', hm, z | ⟨z, _⟩⟩ := relabel_mem e
          · subst z; exact absurd rfl (hcell _ hm)
          · subst z; exact hm
        · obtain ⟨k', hm, z | ⟨z, z'⟩⟩ := relabel_mem e
          · subst z; exact hm
          · cases z'
      exact cl2 x this
    · intro x c z; cases z
    · intro b hb
      refine ⟨fun z => ?_, fun x c e => (f2 b hb).2.2.2.2.1 x c (cl1 x c e)⟩
      have lt := fpl b hb
      have z' : b = s3.heap.objs.size := z
      rw [z', szC] at lt
      exact absurd lt (Nat.not_lt.mpr (Nat.le_succ D))
    · exact Nat.le_trans I3.ok.bsz I3.sz
    · intro b o e hb
      rcases (f2 b hb).2.2.2.1 with z | z
      · exact I.ok.noex b o e z
      · exact absurd (Nat.lt_of_lt_of_le (Heap.lt_size e) (Nat.le_trans I.ok.bsz z)) (Nat.lt_irrefl _)
  have I4 : ∀ tk, Inv (subCx X scope N cl s3.heap.objs.size s3 H3 fp E') [] (capS ix σ) H3 { s3 with heap := h₁, toks := tk } := fun tk => by
    refine ⟨ok', rfl, I3.bare, Un.kept old, ⟨_, hns₁, fun i x v e1 e2 e3 => ?_⟩, fun x c e => ?_, ?_, fun x c e => I3.freeC x c (cl1 x c e), fun p hp => (by cases hp), I3.hok.kept old, ?_⟩
    · obtain ⟨j, j1, j2, j3, j4⟩ := caps.get i x v e1 e2
      obtain ⟨m, hn, hl⟩ := I3.loc
      obtain ⟨u, r, l⟩ := hl j x v j1 j2 (.inr (.inl j3))
      refine ⟨u, r, .inr ⟨.inl j4, ?_⟩⟩
      rcases l with ⟨l, _⟩ | ⟨_, c, ec, hcell⟩
      · have l' : X.env.kindOf x = some .local := l
        rw [j3] at l'; cases l'
      · obtain ⟨k', hm, z | ⟨z, _⟩⟩ := relabel_mem j4
        · subst z; exact absurd rfl (‹∀ y ∈ scope.names, y.2 ≠ .cell› _ hm)
        · subst z
          obtain ⟨c', ec'⟩ := cl2 x hm
          have := cl1 x c' ec'
          rw [ec] at this; cases this
          obtain ⟨o, ho, hd⟩ := hcell
          exact ⟨c, ec', o, old _ _ ho, hd⟩
    · obtain ⟨v, o, ho, hd⟩ := I3.cell x c (cl1 x c e)
      exact ⟨v, o, old _ _ ho, hd⟩
    · exact I3.hok.fresh (Nat.le_refl _)
    · show (capS ix σ).length = N.length
      rw [← caps.length]; simp [capS]
  have st4 : tn 0 h₁ := T.keep 0 _ _ st2 fun b hb o e => old b o (by rw [← es3]; exact Heap.get?_push_of_some _ e)
  -- the block's end
  have fin6 : ∀ (s6 : Shared) (H6 : Hp), Inv (subCx X scope N cl s3.heap.objs.size s3 H3 fp E') [] (capS ix σ) H6 s6 → Q (.ref D) H6 →
      compPost (model X.prog X.w) X.A X.xe use Qv (.ref D) s3.heap.objs.size (.ok .next) s6 := fun s6 H6 I6 q => by
    obtain ⟨m, hn, _⟩ := I6.loc
    refine fin s3.heap.objs.size D H6 s6 ⟨I3.call' (s' := s6) (ch := fp) I6.os I6.base I6.hok I6.bare ?_, ⟨m, hn⟩, I6.free, ?_, I3.sz, ?_, ?_⟩ q
    · intro b hb
      obtain ⟨_, f1, _, f3, f4, f5⟩ := f2 b hb
      exact ⟨f3, f1, f4, f5⟩
    · exact Nat.ne_of_gt I3.lt
    · intro x c e z
      obtain ⟨v, o, ho, _⟩ := I3.cell x c e
      exact absurd (Heap.lt_size ho) (by rw [z]; exact Nat.lt_irrefl _)
    · intro p hp z
      exact absurd (Heap.lt_size (I3.pin p hp).1) (by rw [z]; exact Nat.lt_irrefl _)
  -- the loop
  have loop : ∀ s4 : Shared, s4 = { s3 with heap := h₁, toks := s2.toks + ([] : List (Str × Value)).length } →
      codeAny (model X.prog X.w) X.A (.compLoop (.ListComp elt [⟨tg, iter, ifs, 0⟩] scope pos) 0 (.ref it) (.ref D) (compEnvC scope cl s3.heap.objs.size X.env)) (compPost (model X.prog X.w) X.A X.xe use Qv (.ref D) s3.heap.objs.size) s4 := by
    rintro s4 rfl
    refine comp_loop (fun n s' => ∃ i ys H', Inv (subCx X scope N cl s3.heap.objs.size s3 H3 fp E') [] (capS ix σ) H' s' ∧ tn i s'.heap ∧ (∀ b ∈ fp, H' b = none) ∧ W i n ys H') ?_ m0 ⟨0, [], H3, I4 _, st4, fpD, w0⟩
    rintro n s5 ⟨i, ys, H5, I5, st5, fr5, w5⟩
    have stat : ∀ {H' : Hp}, (∀ b ∈ fp, H' b = none) → ∀ b ∈ fp, FpOk (subCx X scope N cl s3.heap.objs.size s3 H3 fp E') [] H' b := fun hn b hb => by
      refine ⟨hn b hb, fun z => ?_, fstk b hb, .inl hb, fun x c e => (f2 b hb).2.2.2.2.1 x c (cl1 x c e), fun p hp => (by cases hp)⟩
      have lt := fpl b hb
      have z' : b = s3.heap.objs.size := z
      rw [z', szC] at lt
      exact absurd lt (Nat.not_lt.mpr (Nat.le_succ D))
    rcases turn i n ys H5 w5 with ⟨stop, q⟩ | ⟨go, step⟩
    · refine thn (T.done (subCx X scope N cl s3.heap.objs.size s3 H3 fp E') rfl rfl rfl hc i [] s5 _ H5 E' I5 (stat fr5) st5 stop) fun r s6 ⟨hr, I6⟩ => ?_
      subst hr
      exact fin6 s6 H5 I6 q
    · refine thn (T.item (subCx X scope N cl s3.heap.objs.size s3 H3 fp E') rfl rfl rfl hc i [] s5 _ H5 E' I5 (stat fr5) st5 go) fun r s6 ⟨u, hr, h6⟩ => ?_
      subst hr
      refine thn h6 fun _ s7 ⟨x, H7, I7, r7, y7, st7, fr7⟩ => ?_
      have I7' := I7.pinned (stat fr7) (T.obj _ _ st7)
      refine thn (hg cl s3.heap.objs.size s3 H3 fp E' _ s7 _ H7 x u _ I7' r7 (step x H7 y7)) fun _ s8 ⟨σ8, H8, I8, ext, q8⟩ => ?_
      have again : ∀ {σ9 : St} {H9 : Hp} {s9 : Shared} {m' : Nat} {zs : List V}, Ext (capS ix σ) σ9 → Inv (subCx X scope N cl s3.heap.objs.size s3 H3 fp E') ([] ++ pinsAt fp s7.heap) σ9 H9 s9 → m' < n → W (i + 1) m' zs H9 →
          ∃ m, m < n ∧ ∃ i ys H', Inv (subCx X scope N cl s3.heap.objs.size s3 H3 fp E') [] (capS ix σ) H' s9 ∧ tn i s9.heap ∧ (∀ b ∈ fp, H' b = none) ∧ W i m ys H' := fun {σ9 H9 s9 m' zs} ex I9 hm w9 => by
        refine ⟨m', hm, i + 1, zs, H9, (I9.unpinned).weak ex.1.symm ex.2, T.keep _ _ _ st7 fun b hb o e => (I9.pin (b, o) (List.mem_append_right _ (List.mem_append_right _ (mem_pinsAt hb e)))).1, fun b hb => ?_, w9⟩
        obtain ⟨o, e, d⟩ := T.obj _ _ st7 b hb
        exact (I9.pin (b, o) (List.mem_append_right _ (List.mem_append_right _ (mem_pinsAt hb e)))).2.1
      refine thn (ht cl s3.heap.objs.size s3 H3 fp E' _ s8 σ8 H8 _ I8 q8) fun ok s9 ⟨H9, I9, q9⟩ => ?_
      cases ok with
      | false =>
        obtain ⟨m', hm, w9⟩ := q9
        exact again ext I9 hm w9
      | true =>
        refine thn (he cl s3.heap.objs.size s3 H3 fp E' _ s9 σ8 H9 _ I9 q9) fun u10 s10 ⟨v10, H10, I10, r10, hDl, hlt, m', hm, w10⟩ => ?_
        refine thn (mt_append (X := subCx X scope N cl s3.heap.objs.size s3 H3 fp E') _ s10 σ8 H10 (.ref D) [v10] (.ref D) [u10] (fun _ H' => H' = upd H10 D (.lst (ys ++ [v10]))) I10 rfl (.cons r10 .nil) ⟨D, ys, v10, rfl, rfl, hDl, hlt, rfl⟩) fun _ s11 ⟨_, H11, I11, _, e11⟩ => ?_
        subst e11
        exact again ext I11 hm w10
  exact codeAny_compStart_list (loop _ (by rw [← hs3])) (T.self _ 0 _ _ _ st4 (loop _ (by rw [← hs3])))
theorem pe_comp {elt tg iter : Expr} {ifs : List Expr} {scope : Scope} {pos : Pos} {N : List Str} {ix : List (Option Nat)} {wi : TI} {g : TG} {tt : TT} {te : TE}
    (hc : X.calm = true) (hi : PI X tg iter wi) (hk : scope.kind = .function) (hcell0 : noCell scope = true) (hfree0 : freeOk scope X.env = true) (hnames0 : namesOk scope = true) (caps : Caps X scope N ix)
    (hg : ∀ cl C s H fp xe, PG (subCx X scope N cl C s H fp xe) tg g) (ht : ∀ cl C s H fp xe, PTs (subCx X scope N cl C s H fp xe) ifs tt) (he : ∀ cl C s H fp xe, PE (subCx X scope N cl C s H fp xe) elt te)
    (hs : ∀ x, foldedSetIterable iter X.env x = pure x := by intro _; rfl) :
    PE X (.ListComp elt [⟨tg, iter, ifs, 0⟩] scope pos) (tComp wi g tt te ix) := by
  intro pins s σ H Q I h
  rw [eval_ListComp]
  refine comp_core (use := none) hc hi hk hcell0 hfree0 hnames0 caps hg ht he hs I h fun C D H6 s6 B q => ?_
  obtain ⟨m, hn⟩ := B.ns
  exact ⟨m, hn, fun h' hsb => ⟨.ref D, H6, B.gone hsb, rfl, q⟩⟩
noncomputable def tSetC (i : Nat) (te : TE) : TS := fun D σ H => te σ H fun x H1 => D.nx (σ.set i (some x)) H1
theorem ps_setComp {i : Nat} {y : Str} {py : Pos} {spos : Pos} {elt tg iter : Expr} {ifs : List Expr} {scope : Scope} {pos : Pos} {N : List Str} {ix : List (Option Nat)} {wi : TI} {g : TG} {tt : TT} {te : TE}
    (hN : X.N.Nodup) (hi' : X.N[i]? = some y) (hx : Loc X.env.scope y) (hsw : swapsWith (.ListComp elt [⟨tg, iter, ifs, 0⟩] scope pos) (some (.Name y py)) spos.line X.env = pure true)
    (hc : X.calm = true) (hi : PI X tg iter wi) (hk : scope.kind = .function) (hcell0 : noCell scope = true) (hfree0 : freeOk scope X.env = true) (hnames0 : namesOk scope = true) (caps : Caps X scope N ix)
    (hg : ∀ cl C s H fp xe, PG (subCx X scope N cl C s H fp xe) tg g) (ht : ∀ cl C s H fp xe, PTs (subCx X scope N cl C s H fp xe) ifs tt) (he : ∀ cl C s H fp xe, PE (subCx X scope N cl C s H fp xe) elt te)
    (hs : ∀ x, foldedSetIterable iter X.env x = pure x := by intro _; rfl) (hf : X.fn y = true ∨ X.env.scope.names.lookup y = some .local := by first | exact .inl rfl | exact .inr rfl | assumption) :
    PS X (.Assign [.Name y py] (.ListComp elt [⟨tg, iter, ifs, 0⟩] scope pos) spos) (tSetC i (tComp wi g tt te ix)) := by
  intro pins s σ H D I h
  rw [exec_Assign_Name_used _ _ _ _ hsw]
  refine wpAny_bind (wpAny_standAt (wpAny_bind ?_))
  show wpAny _ X.A (do let _ ← comprehension (.ListComp elt [⟨tg, iter, ifs, 0⟩] scope pos) scope X.env _ (newList []) false (eval iter X.env) (some (assign (.Name y py) X.env))) _ _ s
  refine wpAny_bind (wpAny_mono (comp_core (use := some (assign (.Name y py) X.env)) (Qv := fun _ s' => SP X pins D .next s') hc hi hk hcell0 hfree0 hnames0 caps hg ht he hs I h fun C a H6 s6 B q => ?_) (fun _ s' hq => wpAny_pure (wpAny_pure hq)) fun _ _ e => e)
  obtain ⟨m, hn⟩ := B.ns
  show wpAny _ X.A (assign (.Name y py) X.env (.ref a)) _ _ s6
  refine wpAny_assign_Name (store_ok2 B.inv hN hi' hx (v := .ref a) rfl (fun s7 I7 ⟨z, hz, hz'⟩ => ?_) hf)
  have hzC : C ≠ z := by
    rcases hz' with e | e
    · rw [e]; exact B.loc
    · exact fun w => B.cell y z e w.symm
  refine ⟨m, hn.sameBut hz hzC, fun h' hsb => ?_⟩
  have B7 : BlockEnd X pins (σ.set i (some (.ref a))) H6 C s7 := ⟨I7, ⟨m, hn.sameBut hz hzC⟩, B.free, B.loc, B.young, B.cell, B.pin⟩
  exact ⟨_, H6, B7.gone hsb, q⟩
theorem comp_range {lo : Int} {n : Nat} {g : TG} {tt : TT} {te : TE} {σ0 : St} {H : Hp} {D : Addr} {Q : VK} (f : Nat → V) (hz : n ≤ sizeLine)
    (hs : ∀ (i : Nat) (H' : Hp) (R : VK) (R0 : Hp → Prop), i < n → (∀ b, b ≠ D → H' b = H b) → R (f i) H' → g (.int (lo + i)) σ0 H' fun σ2 H2 => Ext σ0 σ2 ∧ tt σ2 H2 fun b H3 => if b = true then te σ2 H3 R else R0 H3)
    (hq : Q (.ref D) (upd H D (.lst ((List.range n).map f)))) :
    CompW (Itr lo n) g tt te σ0 D Q H := by
  refine ⟨fun i m ys H' => m = n - i ∧ i ≤ n ∧ ys = (List.range i).map f ∧ H' = upd H D (.lst ys), ⟨n, by simp, Nat.zero_le _, rfl, rfl⟩, ?_⟩
  rintro i m ys H' ⟨rfl, hi, rfl, rfl⟩
  by_cases hlt : i < n
  · refine .inr ⟨hlt, fun x H'' y => ?_⟩
    obtain ⟨e, y⟩ := y
    subst e y
    refine hs i _ _ _ hlt (fun b hb => upd_ne hb) ⟨upd_same, by simp; omega, n - (i + 1), by omega, rfl, hlt, ?_, ?_⟩
    · rw [List.range_succ, List.map_append]; rfl
    · rw [upd_upd]
  · have e : i = n := by omega
    subst e
    exact .inl ⟨Nat.le_refl _, hq⟩
theorem comp_list {K : PySem.W.Frag} {a : Addr} {xs : List V} {g : TG} {tt : TT} {te : TE} {σ0 : St} {H : Hp} {D : Addr} {Q : VK} (f : V → V) (hz : xs.length ≤ sizeLine) (hx : SqL K H a xs) (hD : H D = none)
    (hs : ∀ (i : Nat) (x : V) (H' : Hp) (R : VK) (R0 : Hp → Prop), xs[i]? = some x → (∀ b, b ≠ D → H' b = H b) → R (f x) H' → g x σ0 H' fun σ2 H2 => Ext σ0 σ2 ∧ tt σ2 H2 fun b H3 => if b = true then te σ2 H3 R else R0 H3)
    (hq : Q (.ref D) (upd H D (.lst (xs.map f)))) :
    CompW (Itl K a) g tt te σ0 D Q H := by
  have stays : ∀ ys : List V, SqL K (upd H D (.lst ys)) a xs := fun ys => by
    have sm : Same H (upd H D (.lst ys)) := fun b u q => by rw [upd_ne (ne_of_none q hD)]; exact q
    exact sm.seq hx
  refine ⟨fun i m ys H' => m = xs.length - i ∧ i ≤ xs.length ∧ ys = (xs.take i).map f ∧ H' = upd H D (.lst ys), ⟨xs.length, by simp, Nat.zero_le _, by simp, rfl⟩, ?_⟩
  rintro i m ys H' ⟨rfl, hi, rfl, rfl⟩
  by_cases hlt : i < xs.length
  · refine .inr ⟨⟨xs, xs[i], stays _, by simp [hlt]⟩, fun x H'' y => ?_⟩
    obtain ⟨e, y⟩ := y
    subst e
    have ex := y xs (stays _)
    refine hs i x _ _ _ ex (fun b hb => upd_ne hb) ⟨upd_same, by simp; omega, xs.length - (i + 1), by omega, rfl, hlt, ?_, ?_⟩
    · rw [List.take_add_one, ex, List.map_append]; rfl
    · rw [upd_upd]
  · have e : i = xs.length := by omega
    subst e
    refine .inl ⟨⟨xs, stays _, Nat.le_refl _⟩, ?_⟩
    rw [List.take_length]
    exact hq
end
end L2
set_option Elab.async false
set_option linter.all false
set_option maxRecDepth 100000
set_option maxHeartbeats 4000000
namespace L2
open PySem PySem.Spec PyProof.Rows
section
variable {P : Program} {w : World} {H : Hp} {h h' : Heap} {a : Addr} {o : HO}
theorem ObjOk.there (x : ObjOk P w H h a o) : ∃ u, h.get? a = some u := by
  cases o with
  | lst xs => obtain ⟨_, _, _, _, e⟩ := x; exact ⟨_, e⟩
  | tup xs => obtain ⟨_, _, _, _, e, _⟩ := x; exact ⟨_, e⟩
  | dK kvs => obtain ⟨_, _, _, _, _, _, _, e, _⟩ := x; exact ⟨_, e⟩
  | dT kvs => obtain ⟨_, _, _, _, _, _, _, e, _⟩ := x; exact ⟨_, e⟩
  | set S n => obtain ⟨_, _, _, _, e, _⟩ := x; exact ⟨_, e⟩
  | ins C dx fs => obtain ⟨_, _, _, e, _⟩ := x; exact ⟨_, e⟩
  | own y => obtain ⟨_, e⟩ := x; exact ⟨_, e⟩
  | xd fs => obtain ⟨_, ⟨_, _, _, e, _⟩, _⟩ := x; exact ⟨_, e⟩
  | rng lo hi => obtain ⟨_, _, _, e⟩ := x; exact ⟨_, e⟩
  | frz ob u => obtain ⟨e, _⟩ := x; exact ⟨_, e⟩
  | tbl ps => exact ⟨_, show h.get? a = some _ from x⟩
  | met f y => exact ⟨_, show h.get? a = some _ from x⟩
  | ext φ => obtain ⟨_, e, _⟩ := x; exact e
theorem HOk.none (x : HOk P w H h) (e : h.get? a = Option.none) : H a = Option.none := by
  cases q : H a with
  | none => rfl
  | some u =>
    obtain ⟨v, z⟩ := (x a u q).there
    rw [e] at z; cases z
theorem HOk.part (x : HOk P w H h) (k : ∀ b o, H b ≠ Option.none → h.get? b = some o → h'.get? b = some o) : HOk P w H h' := fun b u e => by
  refine (x b u e).stay (fun c v hc q => k c v ?_ q) (fun _ q => q) fun _ _ q => q
  intro z
  rcases hc with rfl | hc
  · rw [z] at e; cases e
  · rw [z] at hc; cases hc
end
noncomputable def Tr (h : Heap) (e T : Addr) (cls : Value) : Prop := ∃ oe vs oT ts a0, h.get? e = some oe ∧ oe.cls = cls ∧ vs[0]? = some a0 ∧ oe.data = .fields vs ∧ vs[1]? = some (.ref T) ∧ T ≠ e ∧ h.get? T = some oT ∧ oT.data = .fields ts ∧ ts[3]? = some Value.none
theorem rebase {h base base' : Heap} : ∀ {l : List Env}, h.FunFrames base l → (∀ b ∈ frs l, base'.get? b = none) → h.FunFrames base' l
  | [], _, _ => trivial
  | env :: r, ⟨hk, ⟨L, o, hf, _, ho, hd⟩, hr⟩, hb => by
    have hL : L ∈ frs (env :: r) := by unfold frs; rw [List.filterMap_cons, hf]; exact List.mem_cons_self
    refine ⟨hk, ⟨L, o, hf, hb L hL, ho, hd⟩, rebase hr fun b z => hb b ?_⟩
    unfold frs at z ⊢
    rw [List.filterMap_cons, hf]
    exact List.mem_cons_of_mem _ z
structure Kept (l : List Env) (ch : List Addr) (h h' : Heap) : Prop where
  keep : ∀ b o, b ∉ frs l → b ∉ ch → h.get? b = some o → h'.get? b = some o
  slot : ∀ b o, b ∈ frs l → h.get? b = some o → ∃ sl, h'.get? b = some { o with slots := sl }
section
variable {M : Model} {A : Around} {E : Value → Shared → Prop} {s : Shared} {Q : Unit → Shared → Prop} {base : Heap} {env : Env} {outer l : List Env} {L e T : Addr} {cls : Value}
theorem notf (hl : s.heap.FunFrames base l) {b : Addr} {o : Obj} (hb : b ∈ frs l) (q : s.heap.get? b = some o) : ∀ vs, o.data ≠ .fields vs := by
  obtain ⟨_, o', ho, hd⟩ := hl.mem hb
  rw [q] at ho; cases ho; exact hd
theorem trace_new {h h' : Heap} {ch : List Addr} (hl : h.FunFrames base l) {T' : Addr} {oT : Obj} {ts : Array Value} (hn : (PySem.W.hideAll h (frs l ++ ch)).get? T' = none) (hT : h'.get? T' = some oT) (hd : oT.data = .fields ts)
    (up : ∀ b o, h.get? b = some o → (∀ vs, o.data ≠ .fields vs) → ∃ sl, h'.get? b = some { o with slots := sl }) : T' ∈ ch ∨ h.get? T' = none := by
  cases q : h.get? T' with
  | none => exact .inr rfl
  | some o =>
    refine .inl ?_
    by_cases hm : T' ∈ frs l ++ ch
    · rcases List.mem_append.mp hm with z | z
      · obtain ⟨_, o', ho, hdo⟩ := hl.mem z
        obtain ⟨sl, e⟩ := up _ _ ho hdo
        rw [hT] at e; cases e
        exact absurd hd (hdo ts)
      · exact z
    · rw [PySem.W.hideAll_get _ q hm] at hn; cases hn
theorem leave_tr (hfr : A.frames = some (env :: outer)) (hl : s.heap.FunFrames base (env :: outer)) (hf : env.frame = some L) (tr : Tr s.heap e T cls)
    (hQ : ∀ h' T', Tr h' e T' cls → (T' = T ∨ s.heap.get? T' = none) → Kept (env :: outer) [e, T] s.heap h' → Q () { s with heap := h' }) : wpAny M A (leaving env (.ref e)) Q E s := by
  obtain ⟨oe, vs, oT, ts, a0, he, hc, h0, hd, h1, hTe, hT, hdT, h3⟩ := tr
  have hid : ∀ b, b ∈ frs (env :: outer) ++ [e, T] → (PySem.W.hideAll s.heap (frs (env :: outer) ++ [e, T])).get? b = none := fun b hb => PySem.W.hideAll_none _ hb
  refine wpAny_leaving_nextW (base := PySem.W.hideAll s.heap (frs (env :: outer) ++ [e, T])) (a0 := a0) (cls := cls) hfr (rebase hl fun b hb => hid b (List.mem_append_left _ hb)) hf
    ⟨oe, vs, T, oT, ts, he, ⟨hc, h0⟩, hd, h1, hid T (by simp), hTe, hT, hdT, h3⟩ (fun b o q => PySem.W.of_hideAll _ q) (hid e (by simp)) fun h' hL => ?_
  obtain ⟨k1, k2, ⟨oe', vs', T', oT', ts', he', ⟨hc', h0'⟩, hd', h1', hn', hTe', hT', hdT', h3'⟩, k4⟩ := hL
  refine hQ h' T' ⟨oe', vs', oT', ts', a0, he', hc', h0', hd', h1', hTe', hT', hdT', h3'⟩ ?_ ⟨fun b o hb hch q => k1 b o (PySem.W.hideAll_get _ q fun z => ?_), fun b o hb q => k4 b o q (notf hl hb q)⟩
  · rcases trace_new hl hn' hT' hdT' k4 with z | z
    · rcases List.mem_cons.mp z with z | z
      · exact absurd z hTe'
      · exact .inl (by simpa using z)
    · exact .inr z
  · rcases List.mem_append.mp z with z | z
    · exact hb z
    · exact hch z
theorem leave_new1 {oe : Obj} {vs : Array Value} {a0 : Value} (hfr : A.frames = some (env :: outer)) (hl : s.heap.FunFrames base (env :: outer)) (hf : env.frame = some L) (he : s.heap.get? e = some oe) (hc : oe.cls = cls) (hd : oe.data = .fields vs) (h0 : vs[0]? = some a0) (h1 : vs[1]? = some .none)
    (hQ : ∀ h' T', Tr h' e T' cls → s.heap.get? T' = none → Kept (env :: outer) [e] s.heap h' → Q () { s with heap := h' }) : wpAny M A (leaving env (.ref e)) Q E s := by
  have hid : ∀ b, b ∈ frs (env :: outer) ++ [e] → (PySem.W.hideAll s.heap (frs (env :: outer) ++ [e])).get? b = none := fun b hb => PySem.W.hideAll_none _ hb
  refine wpAny_leaving_firstW (base := PySem.W.hideAll s.heap (frs (env :: outer) ++ [e])) (a0 := a0) hfr (rebase hl fun b hb => hid b (List.mem_append_left _ hb)) hf he (fun b o q => PySem.W.of_hideAll _ q) (hid e (by simp)) hd h1 h0 fun h' hL => ?_
  obtain ⟨k1, k2, ⟨oe', vs', T', oT', ts', he', ⟨hc', h0'⟩, hd', h1', hn', hTe', hT', hdT', h3'⟩, k4⟩ := hL
  refine hQ h' T' ⟨oe', vs', oT', ts', a0, he', hc'.trans hc, h0', hd', h1', hTe', hT', hdT', h3'⟩ ?_ ⟨fun b o hb hch q => k1 b o (PySem.W.hideAll_get _ q fun z => ?_), fun b o hb q => k4 b o q (notf hl hb q)⟩
  · rcases trace_new hl hn' hT' hdT' k4 with z | z
    · exact absurd (by simpa using z) hTe'
    · exact z
  · rcases List.mem_append.mp z with z | z
    · exact hb z
    · exact hch z
theorem look_tr (hfr : A.frames = some (env :: outer)) (hl : s.heap.FunFrames base (env :: outer)) (hf : env.frame = some L) (tr : Tr s.heap e T cls)
    (hQ : ∀ h' T', Tr h' e T' cls → (T' = T ∨ s.heap.get? T' = none) → Kept (env :: outer) [e, T] s.heap h' → Q () { s with heap := h' }) :
    wpAny M A (noteFrame (.ref e) env) (fun _ s2 => wpAny M A (setFlight (.ref e) none) Q E s2) E s := by
  obtain ⟨oe, vs, oT, ts, a0, he, hc, h0, hd, h1, hTe, hT, hdT, h3⟩ := tr
  have hid : ∀ b, b ∈ frs (env :: outer) ++ [e, T] → (PySem.W.hideAll s.heap (frs (env :: outer) ++ [e, T])).get? b = none := fun b hb => PySem.W.hideAll_none _ hb
  refine wpAny_looks_onW (base := PySem.W.hideAll s.heap (frs (env :: outer) ++ [e, T])) (a0 := a0) (cls := cls) hfr hf
    ⟨fun b o q => PySem.W.of_hideAll _ q, hid e (by simp), rebase hl fun b hb => hid b (List.mem_append_left _ hb), oe, vs, T, oT, ts, he, ⟨hc, h0⟩, hd, h1, hid T (by simp), hTe, hT, hdT, h3⟩ fun h1' held up1 => ?_
  refine wpAny_landsW held fun h' fl up2 => ?_
  have up := Heap.UpToSlots.trans up1 up2
  obtain ⟨k1, _, k2, oe', vs', T', oT', ts', he', ⟨hc', h0'⟩, hd', h1', hn', hTe', hT', hdT', h3'⟩ := fl
  refine hQ h' T' ⟨oe', vs', oT', ts', a0, he', hc', h0', hd', h1', hTe', hT', hdT', h3'⟩ ?_ ⟨fun b o hb hch q => k1 b o (PySem.W.hideAll_get _ q fun z => ?_), fun b o hb q => up b o q (notf hl hb q)⟩
  · rcases trace_new hl hn' hT' hdT' up with z | z
    · rcases List.mem_cons.mp z with z | z
      · exact absurd z hTe'
      · exact .inl (by simpa using z)
    · exact .inr z
  · rcases List.mem_append.mp z with z | z
    · exact hb z
    · exact hch z
theorem again_tr (hl : s.heap.FunFrames base l) (tr : Tr s.heap e T cls)
    (hQ : ∀ h' T', Tr h' e T' cls → (T' = T ∨ s.heap.get? T' = none) → Kept l [e, T] s.heap h' → Q () { s with heap := h' }) : wpAny M A (setFlight (.ref e) none) Q E s := by
  obtain ⟨oe, vs, oT, ts, a0, he, hc, h0, hd, h1, hTe, hT, hdT, h3⟩ := tr
  have hid : ∀ b, b ∈ frs l ++ [e, T] → (PySem.W.hideAll s.heap (frs l ++ [e, T])).get? b = none := fun b hb => PySem.W.hideAll_none _ hb
  refine lands_againW (base := PySem.W.hideAll s.heap (frs l ++ [e, T])) (l := l) (a0 := a0) (cls := cls)
    ⟨fun b o q => PySem.W.of_hideAll _ q, hid e (by simp), rebase hl fun b hb => hid b (List.mem_append_left _ hb), oe, vs, T, oT, ts, he, ⟨hc, h0⟩, hd, h1, hid T (by simp), hTe, hT, hdT, h3⟩ fun h' fl up => ?_
  obtain ⟨k1, _, k2, oe', vs', T', oT', ts', he', ⟨hc', h0'⟩, hd', h1', hn', hTe', hT', hdT', h3'⟩ := fl
  refine hQ h' T' ⟨oe', vs', oT', ts', a0, he', hc', h0', hd', h1', hTe', hT', hdT', h3'⟩ ?_ ⟨fun b o hb hch q => k1 b o (PySem.W.hideAll_get _ q fun z => ?_), fun b o hb q => up b o q (notf hl hb q)⟩
  · rcases trace_new hl hn' hT' hdT' up with z | z
    · rcases List.mem_cons.mp z with z | z
      · exact absurd z hTe'
      · exact .inl (by simpa using z)
    · exact .inr z
  · rcases List.mem_append.mp z with z | z
    · exact hb z
    · exact hch z
end
section
variable {X : Cx} {pins : List (Addr × Obj)} {σ : St} {H : Hp} {s : Shared} {h' : Heap} {ch : List Addr}
structure Ours (X : Cx) (pins : List (Addr × Obj)) (H : Hp) (b : Addr) : Prop where
  new : X.s₀.heap.get? b = none
  free : H b = none
  loc : b ≠ X.env.locals
  cell : ∀ x c, X.env.cells.lookup x = some c → c ≠ b
  pin : ∀ p ∈ X.pn ++ pins, p.1 ≠ b
theorem Inv.ours (I : Inv X pins σ H s) (hx : X.ex = []) {b : Addr} (n : s.heap.get? b = none) : X.s₀.heap.get? b = none ∧ b ≠ X.env.locals ∧ (∀ x c, X.env.cells.lookup x = some c → c ≠ b) ∧ ∀ p ∈ X.pn ++ pins, p.1 ≠ b := by
  refine ⟨?_, ?_, fun x c e z => ?_, fun p hp z => ?_⟩
  · cases q : X.s₀.heap.get? b with
    | none => rfl
    | some o =>
      obtain ⟨o', e⟩ := I.base.there b o q (by rw [hx]; simp)
      rw [n] at e; cases e
  · rintro rfl
    obtain ⟨m, ⟨o, _, _, e, _⟩, _⟩ := I.loc
    rw [n] at e; cases e
  · subst z
    obtain ⟨v, o, e', _⟩ := I.cell x c e
    rw [n] at e'; cases e'
  · have := (I.pin p hp).1
    rw [z, n] at this; cases this
theorem Inv.exc (I : Inv X pins σ H s) (hx : X.ex = []) (ours : ∀ b ∈ ch, Ours X pins H b) (k : Kept X.stack ch s.heap h') : Inv X pins σ H { s with heap := h' } := by
  have sub := I.stkSub
  have above := I.ok.above
  have outs : ∀ b ∈ X.fs, b ∈ frs X.stack := fun b hb => by
    rcases I.ok.stk with e | ⟨e, hf⟩
    · rw [e]; exact hb
    · rw [e]
      show b ∈ frs (X.env :: X.outer)
      unfold frs
      rw [List.filterMap_cons, hf]
      exact List.mem_cons_of_mem _ hb
  have anyk : ∀ b o, b ∉ ch → s.heap.get? b = some o → ∃ sl, h'.get? b = some { o with slots := sl } := fun b o hc q => by
    by_cases hb : b ∈ frs X.stack
    · exact k.slot b o hb q
    · exact ⟨o.slots, k.keep b o hb hc q⟩
  have nch : ∀ b o, X.s₀.heap.get? b = some o → b ∉ ch := fun b o q z => by rw [(ours b z).new] at q; cases q
  have lch : X.env.locals ∉ ch := fun z => (ours _ z).loc rfl
  have cch : ∀ x c, X.env.cells.lookup x = some c → c ∉ ch := fun x c e z => (ours _ z).cell x c e rfl
  have cellK : ∀ x c v, X.env.cells.lookup x = some c → s.heap.IsCell c v → h'.IsCell c v := fun x c v e z => by
    obtain ⟨o, ho, hd⟩ := z
    obtain ⟨sl, q⟩ := anyk c o (cch x c e) ho
    exact ⟨_, q, hd⟩
  refine ⟨I.ok, I.os, I.bare, ⟨fun b o e n hb hxx => ?_, fun b o e n hb hxx => ?_, I.base.free, fun b o e hxx => ?_, I.base.tups, I.base.frzs, I.base.tbls⟩, ?_, fun x c e => ?_, I.free, I.freeC, fun p hp => ?_, ?_, I.len⟩
  · refine k.keep b o (fun z => ?_) (nch b o e) (I.base.keep b o e n hb hxx)
    rcases List.mem_cons.mp (sub b z) with z | z
    · exact absurd (Nat.lt_of_lt_of_le (Heap.lt_size e) above) (by rw [z]; exact Nat.lt_irrefl _)
    · exact hb z
  · obtain ⟨sl, e1⟩ := I.base.slot b o e n hb hxx
    obtain ⟨sl', e2⟩ := k.slot b _ (outs b hb) e1
    exact ⟨sl', e2⟩
  · obtain ⟨o', e1⟩ := I.base.there b o e hxx
    obtain ⟨sl, e2⟩ := anyk b o' (nch b o e) e1
    exact ⟨_, e2⟩
  · obtain ⟨m, ⟨o, es, ep, ho, r⟩, hl⟩ := I.loc
    obtain ⟨sl, q⟩ := anyk _ o lch ho
    refine ⟨m, ⟨_, es, ep, q, r⟩, fun i x v e1 e2 e3 => ?_⟩
    obtain ⟨u, ru, lk⟩ := hl i x v e1 e2 e3
    refine ⟨u, ru, ?_⟩
    rcases lk with z | ⟨z, c, e, ic⟩
    · exact .inl z
    · exact .inr ⟨z, c, e, cellK x c _ e ic⟩
  · obtain ⟨v, z⟩ := I.cell x c e
    exact ⟨v, cellK x c v e z⟩
  · obtain ⟨e, n, ne, nf, d⟩ := I.pin p hp
    refine ⟨k.keep p.1 p.2 (fun z => ?_) (fun z => (ours _ z).pin p hp rfl) e, n, ne, nf, d⟩
    rcases List.mem_cons.mp (sub _ z) with z | z
    · exact ne z
    · exact nf z
  · refine I.hok.part fun b o hb q => k.keep b o (fun z => hb (I.stkFree b z)) (fun z => hb (ours b z).free) q
theorem Inv.track {e : Addr} {φ : Heap → Prop} (I : Inv X pins σ H s) (o : Ours X pins H e) (new : ObjOk X.prog X.w (upd H e (.ext φ)) s.heap e (.ext φ)) : Inv X pins σ (upd H e (.ext φ)) s := by
  have ne : ∀ b u, H b = some u → b ≠ e := fun b u q z => by rw [z, o.free] at q; cases q
  refine ⟨I.ok, I.os, I.bare, ⟨I.base.keep, I.base.slot, fun b ob q n hx => ?_, I.base.there, fun b xs q => ?_, fun b ob u q => ?_, fun b ps q => ?_⟩, I.loc, I.cell, ?_, fun x c q => ?_, fun p hp => ?_, fun b u q => ?_, I.len⟩
  · rw [upd_ne (fun z => by rw [z, o.new] at q; cases q)]; exact I.base.free b ob q n hx
  · have := I.base.tups b xs q
    rw [upd_ne (ne _ _ this)]; exact this
  · have := I.base.frzs b ob u q
    rw [upd_ne (ne _ _ this)]; exact this
  · obtain ⟨m, z⟩ := I.base.tbls b ps q
    exact ⟨m, by rw [upd_ne (ne _ _ z)]; exact z⟩
  · rw [upd_ne (Ne.symm o.loc)]; exact I.free
  · rw [upd_ne (o.cell x c q)]; exact I.freeC x c q
  · obtain ⟨z, n, r⟩ := I.pin p hp
    exact ⟨z, by rw [upd_ne (o.pin p hp)]; exact n, r⟩
  · by_cases z : b = e
    · subst z; rw [upd_same] at q; cases q; exact new
    · rw [upd_ne z] at q
      exact (I.hok b u q).stay (fun _ _ _ x => x) (fun c x => by rw [upd_ne (ne _ _ x)]; exact x) fun c xs x => by rw [upd_ne (ne _ _ x)]; exact x
end
noncomputable def CX1 (P : Program) (w : World) : CXT := fun outer H s E e s' => ∃ (ea T : Addr) (cls : Value) (H' : Hp), e = .ref ea ∧ s.heap.get? ea = none ∧ s.heap.get? T = none ∧ H' ea = none ∧ H' T = none ∧ Tr s'.heap ea T cls ∧
  s'.os = s.os ∧ AllBare s'.gens ∧ Un (frs outer) [] H H' s.heap s'.heap ∧ HOk P w H' s'.heap ∧ E cls none H'
theorem passN {P : Program} {w : World} {X : Cx} : Passes (CX1 P w) X E0 := fun _ _ _ _ _ _ _ ⟨_, _, _, _, _, _, _, _, _, _, _, _, _, _, q⟩ => q.elim
structure Thr (X : Cx) (E : XK) : Prop where
  made : ∀ {pins : List (Addr × Obj)} {σ : St} {H : Hp} {s : Shared} {e : Addr} {cls : Value} {vs : List Value} {h' : Heap}, Inv X pins σ H s → Heap.MadeExcOf s.heap h' e cls vs → E cls none H → X.xe (.ref e) { s with heap := h' }
  pass : Passes (CX1 X.prog X.w) X E
section
variable {P : Program} {w : World} {K : PySem.W.Frag} {mg : Str → Option Value} {base : Heap} {N : List Str} {qual : Str} {scope : Scope} {f : Addr} {cd : Value} {A : Around} {outer : List Env} {s : Shared} {H : Hp} {E : XK}
theorem lies_def {pins : List (Addr × Obj)} {σ : St} {H2 : Hp} {s2 : Shared} {ea T : Addr} {cls : Value} (I : Inv (cxOf (CX1 P w) P w K mg base N qual scope f cd A outer s H E) pins σ H2 s2) (tr : Tr s2.heap ea T cls)
    (n1 : s.heap.get? ea = none) (n2 : s.heap.get? T = none) (f1 : H2 ea = none) (f2 : H2 T = none) (q : E cls none H2) : (cxOf (CX1 P w) P w K mg base N qual scope f cd A outer s H E).xe (.ref ea) s2 := by
  have fr : (A.deeper (envOfC qual scope s.heap.objs.size f cd)).frames = some (envOfC qual scope s.heap.objs.size f cd :: outer) := I.ok.frames
  have above : s.heap.objs.size ≤ (envOfC qual scope s.heap.objs.size f cd).locals := I.ok.above
  have nex : ∀ b : Addr, b ∉ (cxOf (CX1 P w) P w K mg base N qual scope f cd A outer s H E).ex := fun b z => absurd (show b ∈ ([] : List Addr) from z) (by simp)
  have sub : ∀ b ∈ frs (envOfC qual scope s.heap.objs.size f cd :: outer), b = (envOfC qual scope s.heap.objs.size f cd).locals ∨ b ∈ frs outer := fun b hb => List.mem_cons.mp (I.stkSub b hb)
  have out : ∀ b ∈ frs outer, b ∈ frs (envOfC qual scope s.heap.objs.size f cd :: outer) := fun b hb => by
    unfold frs at hb ⊢
    rw [List.filterMap_cons]
    split
    · exact hb
    · exact List.mem_cons_of_mem _ hb
  refine leave_tr fr I.stack rfl tr fun h' T' tr' hT' k => ?_
  have anyk : ∀ b o, b ≠ ea → b ≠ T → s2.heap.get? b = some o → ∃ sl, h'.get? b = some { o with slots := sl } := fun b o h1 h2 z => by
    by_cases hb : b ∈ frs (envOfC qual scope s.heap.objs.size f cd :: outer)
    · exact k.slot b o hb z
    · exact ⟨o.slots, k.keep b o hb (by simp [h1, h2]) z⟩
  have ne : ∀ b o, s.heap.get? b = some o → b ≠ ea ∧ b ≠ T := fun b o z => ⟨fun y => (by rw [y, n1] at z; cases z), fun y => (by rw [y, n2] at z; cases z)⟩
  refine ⟨ea, T', cls, H2, rfl, n1, ?_, f1, ?_, tr', I.os, I.bare, ⟨fun b o z n hb hx => ?_, fun b o z n hb hx => ?_, fun b o z n hx => I.base.free b o z n (nex b), fun b o z hx => ?_, I.base.tups, I.base.frzs, I.base.tbls⟩, ?_, q⟩
  · rcases hT' with z | z
    · rw [z]; exact n2
    · cases y : s.heap.get? T' with
      | none => rfl
      | some o =>
        obtain ⟨o', e'⟩ := I.base.there T' o y (nex _)
        rw [z] at e'; cases e'
  · rcases hT' with z | z
    · rw [z]; exact f2
    · exact I.hok.none z
  · refine k.keep b o (fun y => ?_) (by have := ne b o z; simp [this.1, this.2]) (I.base.keep b o z n hb (nex b))
    rcases sub b y with y | y
    · exact absurd (Nat.lt_of_lt_of_le (Heap.lt_size z) above) (by rw [y]; exact Nat.lt_irrefl _)
    · exact hb y
  · obtain ⟨sl, e1⟩ := I.base.slot b o z n hb (nex b)
    obtain ⟨sl', e2⟩ := k.slot b _ (out b hb) e1
    exact ⟨sl', e2⟩
  · obtain ⟨o', e1⟩ := I.base.there b o z (nex b)
    obtain ⟨sl, e2⟩ := anyk b o' (ne b o z).1 (ne b o z).2 e1
    exact ⟨_, e2⟩
  · refine I.hok.part fun b o hb z => k.keep b o (fun y => hb (I.stkFree b y)) (fun y => ?_) z
    rcases List.mem_cons.mp y with y | y
    · exact hb (by rw [y]; exact f1)
    · exact hb (by rw [show b = T by simpa using y]; exact f2)
theorem thr_def : Thr (cxOf (CX1 P w) P w K mg base N qual scope f cd A outer s H E) E where
  made := fun {pins σ H1 s1 e cls vs h'} I m q => by
    obtain ⟨t, he, htn, ht⟩ := m.there
    have I2 : Inv (cxOf (CX1 P w) P w K mg base N qual scope f cd A outer s H E) pins σ H1 { s1 with heap := h' } := I.kept (t' := s1.toks) m.keeps
    have fr : (A.deeper (envOfC qual scope s.heap.objs.size f cd)).frames = some (envOfC qual scope s.heap.objs.size f cd :: outer) := I.ok.frames
    have above : s.heap.objs.size ≤ (envOfC qual scope s.heap.objs.size f cd).locals := I.ok.above
    have nex : ∀ b : Addr, b ∉ (cxOf (CX1 P w) P w K mg base N qual scope f cd A outer s H E).ex := fun b z => absurd (show b ∈ ([] : List Addr) from z) (by simp)
    have sub : ∀ b ∈ frs (envOfC qual scope s.heap.objs.size f cd :: outer), b = (envOfC qual scope s.heap.objs.size f cd).locals ∨ b ∈ frs outer := fun b hb => List.mem_cons.mp (I.stkSub b hb)
    have out : ∀ b ∈ frs outer, b ∈ frs (envOfC qual scope s.heap.objs.size f cd :: outer) := fun b hb => by
      unfold frs at hb ⊢
      rw [List.filterMap_cons]
      split
      · exact hb
      · exact List.mem_cons_of_mem _ hb
    have n1 : s.heap.get? e = none := (I.ours rfl m.new).1
    refine leave_new1 (cls := cls) fr I2.stack rfl he rfl rfl rfl rfl fun h2 T' tr' hT' k => ?_
    have anyk : ∀ b o, b ≠ e → h'.get? b = some o → ∃ sl, h2.get? b = some { o with slots := sl } := fun b o h1 z => by
      by_cases hb : b ∈ frs (envOfC qual scope s.heap.objs.size f cd :: outer)
      · exact k.slot b o hb z
      · exact ⟨o.slots, k.keep b o hb (by simp [h1]) z⟩
    have ne : ∀ b o, s.heap.get? b = some o → b ≠ e := fun b o z y => by rw [y, n1] at z; cases z
    refine ⟨e, T', cls, H1, rfl, n1, (I2.ours rfl hT').1, I.hok.none m.new, I2.hok.none hT', tr', I.os, I.bare, ⟨fun b o z n hb hx => ?_, fun b o z n hb hx => ?_, fun b o z n hx => I.base.free b o z n (nex b), fun b o z hx => ?_, I.base.tups, I.base.frzs, I.base.tbls⟩, ?_, q⟩
    · refine k.keep b o (fun y => ?_) (by simp [ne b o z]) (I2.base.keep b o z n hb (nex b))
      rcases sub b y with y | y
      · exact absurd (Nat.lt_of_lt_of_le (Heap.lt_size z) above) (by rw [y]; exact Nat.lt_irrefl _)
      · exact hb y
    · obtain ⟨sl, e1⟩ := I2.base.slot b o z n hb (nex b)
      obtain ⟨sl', e2⟩ := k.slot b _ (out b hb) e1
      exact ⟨sl', e2⟩
    · obtain ⟨o', e1⟩ := I2.base.there b o z (nex b)
      obtain ⟨sl, e2⟩ := anyk b o' (ne b o z) e1
      exact ⟨_, e2⟩
    · refine I2.hok.part fun b o hb z => k.keep b o (fun y => hb (I.stkFree b y)) (fun y => ?_) z
      exact hb (by rw [show b = e by simpa using y]; exact I.hok.none m.new)
  pass := fun pins σ H1 s1 e s2 I hcx => by
    obtain ⟨ea, T, cls, H2, rfl, n1, n2, f1, f2, tr, os, bare, un, hok, q⟩ := hcx
    have I2 := I.call' os un hok bare fun b z => absurd z (by simp)
    exact lies_def I2 tr (I.ours rfl n1).1 (I.ours rfl n2).1 f1 f2 q
end
section
variable {P : Program} {w : World} {K : PySem.W.Frag} {mg : Str → Option Value} {base : Heap}
theorem FnOk.up {CX : CXT} {k : Nat} {f : Addr} {fd : FuncData} {ps : List Str} {sp : Sp} (F : FnOk P w K mg base CX0 k f fd ps sp) : FnOk P w K mg base CX k f fd ps sp :=
  ⟨F.len, fun A outer s H args us vs Q E hr he hb hv hs => codeAny_mono (F.run A outer s H args us vs Q E hr he hb hv hs) fun r s' q => by
    cases r with
    | error e => exact False.elim q
    | ok fl => cases fl <;> exact q⟩
theorem Fun.okE {x qual : Str} {st : Stmt} {f : Addr} {fd : FuncData} {N ps : List Str} {k : Nat} {sp : Sp} (F : Fun K x qual st f fd) (S : FnScope N ps (defScope st)) (len : ∀ vs H Q E, sp vs H Q E → vs.length = ps.length)
    (hbody : ∀ (cdv : Value) (A : Around) (outer : List Env) (s : Shared) (H : Hp) (vs : List V) (Q : VK) (E : XK), Room k (A.deeper (envOfC qual (defScope st) s.heap.objs.size f cdv)) → sp vs H Q E →
      ∃ t, PSs (cxOf (CX1 P w) P w K mg base N qual (defScope st) f cdv A outer s H E) (defBody st) t ∧ t { nx := fun _ H' => Q .non H', rt := Q } (start N vs) H) : FnOk P w K mg base (CX1 P w) (k + 1) f fd ps sp := by
  obtain ⟨oc, od, kV, doc, pm, an, cdv, ct, osl, rfl, lk, hcd⟩ := F.ex
  exact fn_of lk hcd S len fun A outer s H vs Q E hr hsp => hbody cdv A outer s H vs Q E hr hsp
end
noncomputable abbrev veB : List Value := [.type "ValueError", .type "Exception", .type "BaseException", .type "object"]
noncomputable abbrev excI (K : PySem.W.Frag) (C : Addr) : Prop := PySem.W.excIn K C veB "ValueError.__new__" = true
theorem excObj {K : PySem.W.Frag} {h : Heap} {C : Addr} (X : K.In h) (q : excI K C) : ∃ bm N nm qn bs hd sn sub ab col dd k0 k1 k2 k3 k5 mN,
    h.get? C = some (excClassObj nm qn C N bs bm hd sn sub ab col dd k0 k1 k2 k3 k5 "ValueError.__new__") ∧ h.Ns N mN ∧ mN "__init__" = none ∧ OwnTail h veB bm := by
  unfold excI PySem.W.excIn at q
  split at q
  · rename_i dd cd sl ho
    split at q
    · rename_i C' bm k0 k1 k2 k3 n k5 hm hs
      obtain ⟨q5, q6⟩ := Bool.and_eq_true_iff.mp q
      obtain ⟨q4, hok⟩ := Bool.and_eq_true_iff.mp q5
      obtain ⟨q3, ht⟩ := Bool.and_eq_true_iff.mp q4
      obtain ⟨q2, hdel⟩ := Bool.and_eq_true_iff.mp q3
      obtain ⟨e1, e2⟩ := Bool.and_eq_true_iff.mp q2
      have e1 := beq_iff_eq.mp e1
      have e2 := beq_iff_eq.mp e2
      have hni := beq_iff_eq.mp q6
      subst e1 e2
      obtain ⟨nm, bs, mro, ns, qn, hd, sn, sub, ab, col, del⟩ := cd
      have hsl : sl = #[k0, k1, k2, k3, some (.builtin "ValueError.__new__"), k5] := by
        rw [← hs]
      have hdel' : del = false := by simpa using hdel
      have hm' : mro = .ref C' :: bm := hm
      subst hm' hdel' hsl
      exact ⟨bm, ns, nm, qn, bs, hd, sn, sub, ab, col, dd, k0, k1, k2, k3, k5, _, X _ _ ho, .of_isNs (PySem.W.isNs_of_in X hok), PySem.W.nsMap_none_of_in X hok hni, PySem.W.tail_of_in X ht⟩
    · cases q
  · cases q
noncomputable def tRaise (E : XK) (C : Addr) (t : TA) : TS := fun _ σ H => t σ H fun vs H1 => vs.length ≤ sizeLine ∧ E (.ref C) none H1
theorem ps_raise {X : Cx} {E : XK} {C : Addr} {x : Str} {np cpos pos : Pos} {a : Expr} {ta : TA} (T : Thr X E) (O : excI X.K C) (hg : Gl X x) (hm : X.mg x = some (.ref C)) (ha : PA X [a] ta) (hc : X.calm = true := by rfl)
    (hs : starEach [a] X.env = [(false, eval a X.env)] := by rfl) (hd : (x == ("__debug__" : Str)) = false := by decide) : PS X (.Raise (some (.Call (.Name x np) [a] [] cpos)) none pos) (tRaise E C ta) := by
  intro pins s σ H D I h
  obtain ⟨bm, N, nm, qn, bs, hd', sn, sub, ab, col, dd, k0, k1, k2, k3, k5, mN, hC, hN, hni, TL⟩ := excObj I.ok.mod.kin O
  refine wpAny_Raise_call_subT (C := C) (nm := nm) (q := qn) (N := N) (bs := bs) (bm := bm) (hdct := hd') (sn := sn) (sub := sub) (ab := ab) (col := col) (dd := dd) (k0 := k0) (k1 := k1) (k2 := k2) (k3 := k3) (k5 := k5)
    PySem.F.excBase_ValueError (mN := mN) (TL.hasType PySem.F.excBase_ValueError.hasBase) (I.ok.hd hc) (by rw [hs]; rfl) hni (ld_glob I hg hm ⟨rfl, ?_⟩ hd)
  have p := ha cpos pins s σ H _ I h
  rw [hs] at p ⊢
  exact Calls.evalArgs_plain (thn p fun us s1 ⟨vs, H1, I1, r, q⟩ => ⟨rfl, by rw [← r.length]; exact q.1, I1.bk _ _ hC, hN.keeps I1.bk, TL.keeps I1.bk, fun h' e m => T.made I1 m q.2⟩)
noncomputable def Cx.inExc (X : Cx) (e : Addr) : Cx := { X with A := X.A.mark (some (.ref e)), calm := false, xe := fun _ _ => False }
section
variable {X : Cx} {pins : List (Addr × Obj)} {σ : St} {H : Hp} {s : Shared} {e : Addr}
theorem Inv.inExc (I : Inv X pins σ H s) (e : Addr) : Inv (X.inExc e) pins σ H s :=
  ⟨⟨I.ok.mod, I.ok.kind, I.ok.glob, I.ok.blt, I.ok.above, I.ok.inj, I.ok.has, I.ok.cab, fun z => (by cases z), I.ok.frames, I.ok.stk, I.ok.exf, I.ok.bs, I.ok.bsz, I.ok.noex, I.ok.exfs, I.ok.funs, I.ok.frf⟩, I.os, I.bare, I.base, I.loc, I.cell, I.free, I.freeC, I.pin, I.hok, I.len⟩
theorem Inv.outExc (ok : X.Ok) (I : Inv (X.inExc e) pins σ H s) : Inv X pins σ H s := ⟨ok, I.os, I.bare, I.base, I.loc, I.cell, I.free, I.freeC, I.pin, I.hok, I.len⟩
theorem Inv.unbind {i : Nat} {n : Str} {m : Str → Option Value} {v : Option Value} {h' : Heap} {t' : Nat} (I : Inv X pins σ H s) (hN : X.N.Nodup) (hi : X.N[i]? = some n)
    (hl : ∀ (i : Nat) (x : Str) (v : V), X.N[i]? = some x → σ[i]? = some (some v) → Vis X.env.scope x → ∃ u, RelV v u ∧ Look X.env s.heap m x u)
    (hn' : h'.Ns X.env.locals (fun x => if x = n then v else m x)) (hs : Heap.SameBut X.env.locals s.heap h') : Inv X pins (σ.set i none) H { s with heap := h', toks := t' } := by
  have lo : ∀ b o, X.s₀.heap.get? b = some o → b ≠ X.env.locals := fun b o e z => by
    exact absurd (Nat.lt_of_lt_of_le (Heap.lt_size e) I.ok.above) (by rw [z]; exact Nat.lt_irrefl _)
  have cne := I.cne
  refine ⟨I.ok, I.os, I.bare, ⟨fun b o e n hb hx => (hs.2 b (lo b o e)).trans (I.base.keep b o e n hb hx), fun b o e n hb hx => ?_, I.base.free, fun b o e hx => ?_, I.base.tups, I.base.frzs, I.base.tbls⟩,
    ⟨_, hn', fun j y v' e1 e2 e3 => ?_⟩, fun y c e => ?_, I.free, I.freeC, fun p hp => ?_, I.hok.part fun b o hb q => (hs.2 b fun z => hb (by rw [z]; exact I.free)).trans q, by simpa using I.len⟩
  · obtain ⟨sl, e1⟩ := I.base.slot b o e n hb hx
    exact ⟨sl, (hs.2 b (lo b o e)).trans e1⟩
  · obtain ⟨o', e1⟩ := I.base.there b o e hx
    exact ⟨o', (hs.2 b (lo b o e)).trans e1⟩
  · by_cases hj : j = i
    · subst hj
      by_cases hlt : j < σ.length
      · rw [List.getElem?_set_self hlt] at e2; cases e2
      · rw [List.getElem?_eq_none (by simpa using hlt)] at e2; cases e2
    · rw [List.getElem?_set_ne (Ne.symm hj)] at e2
      obtain ⟨u, r, q⟩ := hl j y v' e1 e2 e3
      have yn : y ≠ n := fun e => hj (nodup_ix hN e1 (e ▸ hi))
      refine ⟨u, r, ?_⟩
      rcases q with ⟨k, e⟩ | ⟨k, c, e, z⟩
      · exact .inl ⟨k, by simp [yn, e]⟩
      · exact .inr ⟨k, c, e, z.sameBut hs (cne y c e)⟩
  · obtain ⟨w', z⟩ := I.cell y c e
    exact ⟨w', z.sameBut hs (cne y c e)⟩
  · obtain ⟨e, n, ne, nf, d⟩ := I.pin p hp
    exact ⟨(hs.2 p.1 ne).trans e, n, ne, nf, d⟩
end
noncomputable def PEx (X : Cx) (e : Expr) (t : XK → TE) : Prop := ∀ (E : XK) (σ : St) (pn' : List (Addr × Obj)) (xe' : Value → Shared → Prop),
  (∀ (pins : List (Addr × Obj)) (H : Hp) (s : Shared) (v : Value) (s' : Shared), Inv { X with pn := pn', xe := xe' } pins σ H s → CX1 X.prog X.w X.stack H s E v s' → xe' v s') →
  ∀ (pins : List (Addr × Obj)) (s : Shared) (H : Hp) (Q : VK), Inv { X with pn := pn', xe := xe' } pins σ H s → t E σ H Q → wpAny (model X.prog X.w) X.A (eval e X.env) (EP { X with pn := pn', xe := xe' } pins σ Q) xe' s
theorem run_at {X : Cx} {CX : CXT} {k : Nat} {f : Addr} {fd : FuncData} {ps : List Str} {sp : Sp} {E : XK} {pins : List (Addr × Obj)} {σ : St} {H : Hp} {s : Shared} {Q : VK} {us : List Value} {vs : List V}
    (F : FnOk X.prog X.w X.K X.mg X.base CX k f fd ps sp) (hr : Room k X.A) (hb : Binds X.K fd ps []) (hx : ∀ (pins : List (Addr × Obj)) (H : Hp) (s : Shared) (v : Value) (s' : Shared), Inv X pins σ H s → CX X.stack H s E v s' → X.xe v s')
    (I : Inv X pins σ H s) (r : Vals vs us) (h : sp vs H Q E) : wpAny (model X.prog X.w) X.A (call (.ref f) us) (EP X pins σ Q) X.xe s := by
  have hl : us.length = ps.length := by rw [← r.length]; exact F.len _ _ _ _ h
  have hb' := hb s us I.kIn (by rw [List.append_nil]; exact hl)
  rw [List.append_nil] at hb'
  refine wpAny_call (codeAny_mono (F.run X.A X.stack s H ⟨us, []⟩ us vs Q E hr I.env0 hb' r h) fun r s' hq => ?_)
  cases r with
  | error v => exact hx pins H s v s' I hq
  | ok fl => cases fl <;> first | exact I.after hq | exact False.elim hq
noncomputable def excO (e : Addr) (cls : Value) : HO := .ext fun h => ∃ o, h.get? e = some o ∧ o.cls = cls ∧ ∃ vs, o.data = .fields vs
noncomputable def tTryAs (K : PySem.W.Frag) (Ck : Addr) (i : Nat) (tb : XK → TE) (ts : TS) : TS := fun D σ H =>
  tb (fun cls _ H1 => PySem.W.exmOne K cls (.ref Ck) = some true ∧ ∀ e, H1 e = none → ts { nx := fun σ' H' => D.nx (σ'.set i none) H', rt := D.rt, bk := fun σ' H' => D.bk (σ'.set i none) H', ct := fun σ' H' => D.ct (σ'.set i none) H' } (σ.set i (some (.ref e))) (upd H1 e (excO e cls))) σ H fun _ H1 => D.nx σ H1
theorem ps_tryAs {X : Cx} {call : Expr} {tb : XK → TE} {c n : Str} {Ck : Addr} {i : Nat} {b₀ : Stmt} {suite : List Stmt} {ts : TS} {ep cp hp pos : Pos}
    (hx : X.ex = []) (hst : X.stack = X.env :: X.outer) (hf : X.env.frame = some X.env.locals) (hN : X.N.Nodup) (hi : X.N[i]? = some n) (hl : X.env.scope.names.lookup n = some .local) (hg : Gl X c) (hm : X.mg c = some (.ref Ck))
    (hb : PEx X call tb) (hs : ∀ e, PSs (X.inExc e) (b₀ :: suite) ts) (hsw : swapsWith call none ep.line X.env = pure false := by rfl) (hd : (c == ("__debug__" : Str)) = false := by decide) :
    PS X (.Try [.Expr call ep] [.ExceptHandler (some (.Name c cp)) (some n) (b₀ :: suite) hp] [] [] pos) (tTryAs X.K Ck i tb ts) := by
  intro pins s σ H D I h
  refine wpAny_Try_except ?_
  unfold tTryAs at h
  generalize hE : (fun (cls : Value) (_ : Option Addr) (H1 : Hp) => PySem.W.exmOne X.K cls (.ref Ck) = some true ∧ ∀ e, H1 e = none → ts { nx := fun σ' H' => D.nx (σ'.set i none) H', rt := D.rt, bk := fun σ' H' => D.bk (σ'.set i none) H', ct := fun σ' H' => D.ct (σ'.set i none) H' } (σ.set i (some (.ref e))) (upd H1 e (excO e cls))) = E at h
  have ok' : ∀ xe', ({ X with pn := X.pn ++ pins, xe := xe' } : Cx).Ok := fun xe' =>
    ⟨I.ok.mod, I.ok.kind, I.ok.glob, I.ok.blt, I.ok.above, I.ok.inj, I.ok.has, I.ok.cab, I.ok.hd, I.ok.frames, I.ok.stk, I.ok.exf, I.ok.bs, I.ok.bsz, I.ok.noex, I.ok.exfs, I.ok.funs, I.ok.frf⟩
  have toX : ∀ {xe' pins' σ' H' s'}, Inv ({ X with pn := X.pn ++ pins, xe := xe' } : Cx) pins' σ' H' s' → Inv X pins σ' H' s' := fun J =>
    ⟨I.ok, J.os, J.bare, J.base, J.loc, J.cell, J.free, J.freeC, fun p hp => J.pin p (List.mem_append_left _ hp), J.hok, J.len⟩
  have I' : Inv ({ X with pn := X.pn ++ pins, xe := fun v s' => ∃ H1 s1, Inv X pins σ H1 s1 ∧ CX1 X.prog X.w X.stack H1 s1 E v s' } : Cx) [] σ H s :=
    ⟨ok' _, I.os, I.bare, I.base, I.loc, I.cell, I.free, I.freeC, fun p hp => I.pin p (by simpa using hp), I.hok, I.len⟩
  have body := hb E σ (X.pn ++ pins) (fun v s' => ∃ H1 s1, Inv X pins σ H1 s1 ∧ CX1 X.prog X.w X.stack H1 s1 E v s') (fun pins' H1 s1 v s' J q => ⟨H1, s1, toX J, q⟩) [] s H _ I' h
  refine wpAny_mono (wpAny_execs_cons (wpAny_Expr_any (thn body fun v s1 q => ?_) I.quiet hsw) : wpAny (model X.prog X.w) X.A (execs [.Expr call ep] X.env) (fun f s1 => f = .next ∧ ∃ H1, Inv X pins σ H1 s1 ∧ D.nx σ H1) _ s) (fun f s1 q => ?_) ?_
  · obtain ⟨x, H1, J, r, q⟩ := q
    exact wpAny_execs_nil ⟨rfl, H1, toX J, q⟩
  · obtain ⟨rfl, H1, J, q⟩ := q
    exact wpAny_execs_nil ⟨σ, H1, J, q⟩
  · rintro v s' ⟨H1, s1, I1, ea, T, cls, H2, rfl, n1, n2, f1, f2, tr, os, bare, un, hok, hE'⟩
    rw [← hE] at hE'
    obtain ⟨hmt, hsu⟩ := hE'
    have I2 : Inv X pins σ H2 s' := I1.call' os un hok bare fun b z => absurd z (by simp)
    have o1 := I1.ours hx n1
    have o2 := I1.ours hx n2
    have u1 : Ours X pins H2 ea := ⟨o1.1, f1, o1.2.1, o1.2.2.1, o1.2.2.2⟩
    have u2 : Ours X pins H2 T := ⟨o2.1, f2, o2.2.1, o2.2.2.1, o2.2.2.2⟩
    have fr : X.A.frames = some (X.env :: X.outer) := by rw [← hst]; exact I.ok.frames
    have fn : s'.heap.FunFrames X.base (X.env :: X.outer) := by rw [← hst]; exact I2.stack
    refine look_tr fr fn hf tr fun h3 T3 tr3 hT3 k3 => ?_
    have I3 : Inv X pins σ H2 { s' with heap := h3 } := I2.exc hx (ch := [ea, T]) (fun b hb => by
      rcases List.mem_cons.mp hb with z | z
      · rw [z]; exact u1
      · rw [show b = T by simpa using z]; exact u2) (by rw [hst]; exact k3)
    have u3 : Ours X pins H2 T3 := by
      rcases hT3 with z | z
      · rw [z]; exact u2
      · have o3 := I2.ours hx z
        exact ⟨o3.1, I2.hok.none z, o3.2.1, o3.2.2.1, o3.2.2.2⟩
    have LT : PySem.W.Looks (model X.prog X.w) h3 (typeOf (.ref ea)) cls := by
      obtain ⟨oe, vs, oT, ts, a0, he, hc, _⟩ := tr3
      subst hc
      exact (PySem.W.Looks.ld he).andThen .now
    refine wpAny_handleBy_cons (codeAny_handlers_test (ld_glob (I3.inExc ea) hg hm ?_ hd)) (by intro q; cases q)
    refine (PySem.W.exm_one (M := model X.prog X.w) I3.kIn LT hmt) _ _ _ _ (fun _ _ q => q) ?_
    show codeAny _ _ (.handlers (.ref ea) [.ExceptHandler none (some n) (b₀ :: suite) hp] X.env) _ _
    refine codeAny_handlers_suite_as (again_tr (base := X.base) (l := X.stack) I3.stack tr3 fun h5 T5 tr5 hT5 k5 => ?_)
    have I5 : Inv X pins σ H2 { s' with heap := h5 } := Inv.exc (s := { s' with heap := h3 }) I3 hx (ch := [ea, T3]) (fun b hb => by
      rcases List.mem_cons.mp hb with z | z
      · rw [z]; exact u1
      · rw [show b = T3 by simpa using z]; exact u3) k5
    refine store_ok2 (X := X.inExc ea) (I5.inExc ea) hN hi (.inl hl) (v := .ref ea) (u := .ref ea) rfl (fun s6 J6 ⟨ad, sb, had⟩ => ?_) (.inr hl)
    have hne : ea ≠ ad := by
      rcases had with z | z
      · rw [z]; exact u1.loc
      · exact fun y => u1.cell n ad z y.symm
    have new : ObjOk X.prog X.w (upd H2 ea (excO ea cls)) s6.heap ea (excO ea cls) := by
      obtain ⟨oe, vs, oT, ts, a0, he, hc, h0, hd, _⟩ := tr5
      have he6 : s6.heap.get? ea = some oe := (sb.2 ea hne).trans he
      refine ⟨⟨oe, he6, hc, vs, hd⟩, ⟨oe, he6⟩, ?_⟩
      rintro h1 h2 ⟨o, q, r⟩ k
      exact ⟨o, k o q, r⟩
    have J7 : Inv (X.inExc ea) pins (σ.set i (some (.ref ea))) (upd H2 ea (excO ea cls)) s6 := J6.track ⟨u1.new, u1.free, u1.loc, u1.cell, u1.pin⟩ new
    refine wpAny_mono (hs ea pins s6 _ _ _ J7 (hsu ea f1)) (fun f s7 q => ?_) (fun _ _ z => z.elim)
    have go : ∀ {σ' : St} {H' : Hp}, Inv (X.inExc ea) pins σ' H' s7 → ∀ (R : Shared → Prop), (∀ s8, Inv X pins (σ'.set i none) H' s8 → R s8) → wpAny (model X.prog X.w) X.A (do bindName X.env n .none; unbindBehindTheSuite X.env n hp) (fun _ s8 => R s8) X.xe s7 := fun {σ' H'} J R hR => by
      have J0 : Inv X pins σ' H' s7 := J.outExc I.ok
      obtain ⟨m, hn, hlk⟩ := J0.loc
      exact wpAny_nameGoes_keeps hl hn (by rw [I.ok.kind]; rfl) fun h' v hn' hs' => hR _ (J0.unbind hN hi hlk hn' hs')
    cases f with
    | next =>
      obtain ⟨σ', H', J, q⟩ := q
      exact go J _ fun s8 J8 => ⟨_, H', J8, q⟩
    | brk =>
      obtain ⟨σ', H', J, q⟩ := q
      exact go J _ fun s8 J8 => ⟨_, H', J8, q⟩
    | cont =>
      obtain ⟨σ', H', J, q⟩ := q
      exact go J _ fun s8 J8 => ⟨_, H', J8, q⟩
    | ret u =>
      obtain ⟨v, σ', H', J, r, q⟩ := q
      exact go J _ fun s8 J8 => ⟨v, _, H', J8, r, q⟩
end L2
set_option Elab.async false
set_option linter.all false
set_option maxRecDepth 100000
set_option maxHeartbeats 4000000
namespace L2
open PySem PySem.Spec PyProof.Rows
structure Def (P : Program) (w : World) (K : PySem.W.Frag) (mg : Str → Option Value) (base : Heap) (x : Str) (ps : List Str) (k : Nat) (sp : Sp) (f : Addr) (fd : FuncData) : Prop where
  ok : FnOk P w K mg base (CX1 P w) k f fd ps sp
  b : Binds K fd ps []
  kp : PySem.W.keepIn K (.ref f) = true
  m : mg x = some (.ref f)
section
variable {X : Cx} {f : Addr} {fd : FuncData} {ps : List Str} {sp : Sp} {x : Str} {p pos : Pos} {e : Expr} {es : List Expr} {t : TA} {j k : Nat}
theorem pcall (D : Def X.prog X.w X.K X.mg X.base x ps j sp f fd) (hr : Room k X.A) (ha : PA X (e :: es) t) (hjk : j ≤ k := by decide) (hg : Gl X x := by rfl)
    (hdb : (x == ("__debug__" : Str)) = false := by decide) (he : starEach (e :: es) X.env = (false, eval e X.env) :: starEach es X.env := by rfl) (hpl : (backTo pos (starEach es X.env)).any (·.1) = false := by rfl) :
    PE X (.Call (.Name x p) (e :: es) [] pos) (tCall sp [] E0 t) := pe_call D.ok (hr.mono hjk) hg D.m D.kp D.b .nil passN ha hdb he hpl
end
theorem bb_isinstance : bootBuiltins "isinstance" = some (.builtin "isinstance") := by decide +kernel
theorem bb_int : bootBuiltins "int" = some (.type "int") := by decide +kernel
theorem bb_bool : bootBuiltins "bool" = some (.type "bool") := by decide +kernel
theorem bb_list : bootBuiltins "list" = some (.type "list") := by decide +kernel
theorem bb_tuple : bootBuiltins "tuple" = some (.type "tuple") := by decide +kernel
theorem bb_str : bootBuiltins "str" = some (.type "str") := by decide +kernel
theorem bb_sum : bootBuiltins "sum" = some (.builtin "sum") := by decide +kernel
theorem bb_len : bootBuiltins "len" = some (.builtin "len") := by decide +kernel
theorem Same.upd {H H' : Hp} (h : Same H H') {p : Addr} (n : H p = none) (o : HO) : Same H (L2.upd H' p o) := fun b u q => by
  rw [upd_ne (ne_of_none q n)]; exact h b u q
theorem Same.new {H H' : Hp} (h : Same H H') {p : Addr} (n : H' p = none) (o : HO) : Same H (L2.upd H' p o) := h.trans fun b u q => by
  rw [upd_ne (ne_of_none q n)]; exact q
theorem sz {n : Nat} (h : n ≤ 1000000) : n ≤ sizeLine := Nat.le_trans h (by decide)
theorem sz' {n : Nat} (h : n ≤ 1000000) : n < sizeLine := Nat.lt_of_le_of_lt h (by decide)
theorem kit_int_int {K : PySem.W.Frag} : PySem.W.kitOne K (.type "int") (.type "int") = some true := by rfl
theorem kit_list_list {K : PySem.W.Frag} : PySem.W.kitOne K (.type "list") (.type "list") = some true := by rfl
theorem kit_str_str {K : PySem.W.Frag} : PySem.W.kitOne K (.type "str") (.type "str") = some true := by rfl
theorem kit_int_bool {K : PySem.W.Frag} : PySem.W.kitOne K (.type "int") (.type "bool") = some false := by rfl
theorem atI_int {ns : List Int} {i : Int} (h0 : 0 ≤ i) (h1 : i < (ns.length : Int)) : atI (ns.map V.int) i = some (.int (ns.getD i.toNat 0)) := by
  have hk : i.toNat < ns.length := by omega
  have ek : i = ((i.toNat : Nat) : Int) := by omega
  have q : atI (ns.map V.int) ((i.toNat : Nat) : Int) = some (.int (ns.getD i.toNat 0)) := atI_nat (by rw [List.getElem?_map, List.getD_eq_getElem?_getD, List.getElem?_eq_getElem hk] <;> rfl)
  rw [← ek] at q
  exact q
end L2
namespace L2
open PySem PySem.Spec PyProof.Rows
theorem ttN {σ : St} {H : Hp} {F : Bool → Hp → Prop} (h : F true H) : ttNil σ H F := h
theorem ix_listK {X : Cx} {K : PySem.W.Frag} (h : X.K = K) : IxR X (rIxL K) := h ▸ ix_list
theorem pm {j : Int} (h : 0 < j) : 0 < j := h
theorem log2_small {j : Int} (h0 : 0 < j) (h1 : j < 2 ^ 63) : j.natAbs.log2 < 9000 := by
  have e : j.natAbs < 2 ^ 63 := by omega
  have := (Nat.log2_lt (n := j.natAbs) (k := 63) (by omega)).mpr e
  omega
noncomputable def cutI (ns : List Int) (lo hi : Option Int) : List Int := (ns.drop (HT.sIx ns.length 0 lo)).take (HT.sIx ns.length ns.length hi - HT.sIx ns.length 0 lo)
theorem cutV_map (ns : List Int) (lo hi : Option Int) : cutV (ns.map V.int) lo hi = (cutI ns lo hi).map V.int := by
  unfold cutV cutI
  rw [List.length_map, List.map_take, List.map_drop]
theorem get_int {ns : List Int} {i : Nat} {x : V} (h : (ns.map V.int)[i]? = some x) : ∃ c, x = .int c := by
  rw [List.getElem?_map] at h
  cases e : ns[i]? with
  | none => rw [e] at h; cases h
  | some c => rw [e] at h; cases h; exact ⟨c, rfl⟩
end L2
namespace L2
open PySem PySem.Spec PyProof.Rows
noncomputable def tCut (t u : TS) : TS := fun D σ H => ∃ P : St → Hp → Prop, t { D with nx := P } σ H ∧ ∀ σ' H', P σ' H' → u D σ' H'
theorem pss_cut {X : Cx} {st : Stmt} {rest : List Stmt} {t u : TS} (h1 : PS X st t) (h2 : PSs X rest u) : PSs X (st :: rest) (tCut t u) := by
  intro pins s σ H D I h
  obtain ⟨P, ha, hb⟩ := h
  refine wpAny_execs_cons (thn (h1 pins s σ H { D with nx := P } I ha) fun f s1 q => ?_)
  cases f with
  | next =>
    obtain ⟨σ', H', I', q⟩ := q
    exact h2 pins s1 σ' H' D I' (hb σ' H' q)
  | ret v => exact q
  | brk => exact q
  | cont => exact q
theorem iteB {b b' : Bool} {A B : Prop} (e : b = b') (h : if b' = true then A else B) : if b = true then A else B := by rw [e]; exact h
theorem iteP {c A B : Prop} [Decidable c] (hc : c) (h : A) : if decide c = true then A else B := by rw [decide_eq_true hc]; exact iteT h
theorem iteN {c A B : Prop} [Decidable c] (hc : ¬ c) (h : B) : if decide c = true then A else B := by rw [decide_eq_false hc]; exact iteF h
theorem ixN_nat {n : Nat} {i : Int} (h0 : 0 ≤ i) (h1 : i < n) : ixN n i = some i.toNat := by unfold ixN; rw [if_pos h0, if_pos h1]
noncomputable def sgn (c : Nat) : V := .str ⟨#[c]⟩
theorem p40 : (Str.ofString "(") = ⟨#[40]⟩ := by decide +kernel
theorem p41 : (Str.ofString ")") = ⟨#[41]⟩ := by decide +kernel
theorem sgn40 : V.str (Str.ofString "(") = sgn 40 := by rw [p40]; rfl
theorem sgn41 : V.str (Str.ofString ")") = sgn 41 := by rw [p41]; rfl
theorem sgn_inj {c d : Nat} (h : sgn c = sgn d) : c = d := by
  unfold sgn at h
  injection h with h
  injection h with h
  have h2 := congrArg Array.toList h
  simpa using h2
theorem dec40 (c : Nat) : decide (V.str ⟨#[c]⟩ = V.str (Str.ofString "(")) = decide (c = 40) := by
  rw [sgn40]
  show decide (sgn c = sgn 40) = _
  by_cases h : c = 40
  · subst h; rw [decide_eq_true rfl, decide_eq_true rfl]
  · rw [decide_eq_false h, decide_eq_false fun z => h (sgn_inj z)]
theorem dec41 (c : Nat) : decide (V.str ⟨#[c]⟩ = V.str (Str.ofString ")")) = decide (c = 41) := by
  rw [sgn41]
  show decide (sgn c = sgn 41) = _
  by_cases h : c = 41
  · subst h; rw [decide_eq_true rfl, decide_eq_true rfl]
  · rw [decide_eq_false h, decide_eq_false fun z => h (sgn_inj z)]
theorem drop_cps {x : Str} {i c : Nat} (h : x.cps[i]? = some c) : x.cps.toList.drop i = c :: x.cps.toList.drop (i + 1) := by
  have h' : x.cps.toList[i]? = some c := by simpa using h
  obtain ⟨hi, e⟩ := List.getElem?_eq_some_iff.mp h'
  rw [List.drop_eq_getElem_cons hi, e]
theorem drop_all (x : Str) : x.cps.toList.drop x.cps.size = [] := List.drop_eq_nil_of_le (by simp)
theorem len_cps (x : Str) : x.cps.toList.length = x.length := by simp [Str.length]
theorem glue_list (sep : Str) (hs : sep.cps = #[]) : ∀ (ys : List Str) (acc : Array Nat), (ys.foldl (fun acc p => acc ++ sep.cps ++ p.cps) acc).toList = acc.toList ++ (ys.map (·.cps.toList)).flatten
  | [], acc => by simp
  | y :: r, acc => by
    rw [List.foldl_cons, glue_list sep hs r]
    simp [hs]
theorem join_codes (sep : Str) (hs : sep.cps = #[]) (ys : List Str) : (Txt.join sep ys).cps.toList = (ys.map (·.cps.toList)).flatten := by
  unfold Txt.join Builtin.Str.glued
  show ((ys.drop 1).foldl (fun acc p => acc ++ sep.cps ++ p.cps) (ys.headD Str.empty).cps).toList = _
  rw [glue_list sep hs]
  cases ys with
  | nil => rfl
  | cons y r => simp
theorem empty_cps : (Str.ofString "").cps = #[] := by decide +kernel
noncomputable def mkS (c : Nat) : Str := ⟨#[c]⟩
theorem map_sgn (l : List Nat) : l.map sgn = (l.map mkS).map V.str := by rw [List.map_map]; rfl
theorem flat_mkS : ∀ l : List Nat, ((l.map mkS).map (·.cps.toList)).flatten = l
  | [] => rfl
  | c :: r => by rw [List.map_cons, List.map_cons, List.flatten_cons, flat_mkS r]; rfl
theorem join_sgn (l : List Nat) : (Txt.join (Str.ofString "") (l.map mkS)).cps.toList = l := by rw [join_codes _ empty_cps, flat_mkS]
theorem sum_mkS : ∀ l : List Nat, ((l.map mkS).map (·.length)).sum = l.length
  | [] => rfl
  | c :: r => by
    rw [List.map_cons, List.map_cons, List.sum_cons, sum_mkS r, List.length_cons]
    show 1 + r.length = r.length + 1
    omega
theorem len_of_codes {x : Str} {l : List Nat} (h : x.cps.toList = l) : x.length = l.length := by rw [← len_cps, h]
theorem at_text {z : Str} {m : Int} (h : 0 < z.length) : ∃ c, atI z.cps.toList (m % (z.length : Int)) = some c := by
  have e0 := Int.emod_nonneg m (show (z.length : Int) ≠ 0 by omega)
  have e1 := Int.emod_lt_of_pos m (show (0 : Int) < (z.length : Int) by omega)
  have hk : (m % (z.length : Int)).toNat < z.cps.toList.length := by rw [len_cps]; omega
  refine ⟨z.cps.toList[(m % (z.length : Int)).toNat], ?_⟩
  have q := atI_nat (xs := z.cps.toList) (j := (m % (z.length : Int)).toNat) (List.getElem?_eq_getElem hk)
  rw [show (((m % (z.length : Int)).toNat : Nat) : Int) = m % (z.length : Int) by omega] at q
  exact q
theorem app_length (x y : Str) : (x ++ y).length = x.length + y.length := by
  show (x.cps ++ y.cps).size = _
  rw [Array.size_append]; rfl
theorem cutI_length (ns : List Int) (lo hi : Option Int) : (cutI ns lo hi).length ≤ ns.length := by
  unfold cutI; rw [List.length_take, List.length_drop]; omega
theorem cutI_from (ns : List Int) {t : Int} (h : 0 ≤ t) : cutI ns (some t) none = ns.drop t.toNat := by
  unfold cutI
  have e1 : HT.sIx ns.length 0 (some t) = min t.toNat ns.length := by
    show (if t < 0 then _ else _) = _
    rw [if_neg (by omega)]
  rw [e1, HT.sIx_none]
  by_cases hl : t.toNat ≤ ns.length
  · rw [Nat.min_eq_left hl]; exact List.take_of_length_le (by simp)
  · rw [Nat.min_eq_right (by omega), List.drop_eq_nil_of_le (Nat.le_refl _), List.drop_eq_nil_of_le (by omega)]; simp
end L2
namespace Ck
noncomputable def cR : Nat → Int
  | 0 => 1
  | k + 1 => cR k * (4 * (k : Int) + 2) / ((k : Int) + 2)
noncomputable def cN : Nat → Nat
  | 0 => 1
  | k + 1 => cN k * (4 * k + 2) / (k + 2)
theorem cR_cN : ∀ k, cR k = (cN k : Int)
  | 0 => rfl
  | k + 1 => by
    rw [cR, cN, cR_cN k, Int.natCast_ediv, Int.natCast_mul]
    rfl
noncomputable def shL : Nat → List Int
  | 0 => [1]
  | k + 1 => shL k ++ [((List.range (k + 1)).map fun j => (shL k).getD j 0 * (shL k).getD (k - j) 0).sum]
noncomputable def sh (k : Nat) : Int := (shL k).getD k 0
theorem shL_length : ∀ k, (shL k).length = k + 1
  | 0 => rfl
  | k + 1 => by rw [shL, List.length_append, shL_length k]; rfl
theorem shL_get : ∀ (n j : Nat), j ≤ n → (shL n).getD j 0 = sh j
  | 0, j, h => by
    have e : j = 0 := by omega
    subst e; rfl
  | n + 1, j, h => by
    by_cases e : j = n + 1
    · subst e; rfl
    · rw [shL, List.getD_eq_getElem?_getD, List.getElem?_append_left (by rw [shL_length]; omega), ← List.getD_eq_getElem?_getD]
      exact shL_get n j (by omega)
theorem sh_zero : sh 0 = 1 := rfl
theorem sh_succ (k : Nat) : sh (k + 1) = ((List.range (k + 1)).map fun j => sh j * sh (k - j)).sum := by
  have e : sh (k + 1) = ((List.range (k + 1)).map fun j => (shL k).getD j 0 * (shL k).getD (k - j) 0).sum := by
    unfold sh
    rw [shL, List.getD_eq_getElem?_getD, List.getElem?_append_right (by rw [shL_length]; omega), shL_length, Nat.sub_self]
    rfl
  rw [e]
  congr 1
  refine List.map_congr_left fun j hj => ?_
  have := List.mem_range.mp hj
  rw [shL_get k j (by omega), shL_get k (k - j) (by omega)]
theorem shL_eq (n : Nat) : shL n = (List.range (n + 1)).map sh := by
  refine List.ext_getElem? fun i => ?_
  by_cases h : i < n + 1
  · rw [List.getElem?_map, List.getElem?_range h]
    have := shL_get n i (by omega)
    rw [List.getD_eq_getElem?_getD, List.getElem?_eq_getElem (by rw [shL_length]; omega)] at this
    rw [List.getElem?_eq_getElem (by rw [shL_length]; omega)]
    exact congrArg some this
  · rw [List.getElem?_eq_none (by rw [shL_length]; omega), List.getElem?_eq_none (by simp; omega)]
theorem shL_snoc (k : Nat) : shL (k + 1) = shL k ++ [sh (k + 1)] := by
  rw [shL_eq, shL_eq, List.range_succ (n := k + 1), List.map_append]; rfl
noncomputable def shN : Nat → List Nat
  | 0 => [1]
  | k + 1 => shN k ++ [((List.range (k + 1)).map fun j => (shN k).getD j 0 * (shN k).getD (k - j) 0).sum]
theorem cast_sum : ∀ l : List Nat, ((l.sum : Nat) : Int) = (l.map fun n : Nat => (n : Int)).sum
  | [] => rfl
  | a :: l => by rw [List.sum_cons, List.map_cons, List.sum_cons, Int.natCast_add, cast_sum l]
theorem getD_cast (l : List Nat) (j : Nat) : (l.map fun n : Nat => (n : Int)).getD j 0 = ((l.getD j 0 : Nat) : Int) := by
  rw [List.getD_eq_getElem?_getD, List.getElem?_map, List.getD_eq_getElem?_getD]
  cases l[j]? <;> rfl
theorem shL_shN : ∀ k, shL k = (shN k).map fun n : Nat => (n : Int)
  | 0 => rfl
  | k + 1 => by
    rw [shL, shN, List.map_append, shL_shN k]
    congr 1
    rw [List.map_cons, List.map_nil, cast_sum, List.map_map]
    congr 2
    refine List.map_congr_left fun j _ => ?_
    rw [getD_cast, getD_cast]
    exact (Int.natCast_mul _ _).symm
theorem shN_cN : shN 61 = (List.range 62).map cN := by decide +kernel
theorem sh_cR {k : Nat} (h : k ≤ 61) : sh k = cR k := by
  rw [cR_cN, ← shL_get 61 k h, shL_shN, getD_cast, shN_cN, List.getD_eq_getElem?_getD, List.getElem?_map, List.getElem?_range (by omega)]
  rfl
theorem cN_small : ((List.range 37).all fun k => decide (cN k < 18446744073709551616)) = true := by decide +kernel
theorem sh_small {k : Nat} (h : k ≤ 36) : 0 ≤ sh k ∧ sh k < 2 ^ 64 := by
  rw [sh_cR (by omega), cR_cN]
  have q := List.all_eq_true.mp cN_small k (List.mem_range.mpr (by omega))
  have q' := of_decide_eq_true q
  have e : (2 : Int) ^ 64 = 18446744073709551616 := by decide
  omega
end Ck
namespace Ck
noncomputable def r : Nat → Nat → Int
  | 0, _ => 1
  | _ + 1, 0 => 0
  | u + 1, d + 1 => if d < u then 0 else r u (d + 1) + r (u + 1) d
noncomputable def row (n u : Nat) : List Int := (List.range (n + 1 - u)).map fun i => r u (u + i)
end Ck
namespace Ck
noncomputable def clo : Nat → List Nat → Bool
  | k, [] => k == 0
  | k, c :: t => if c = 40 then clo (k + 1) t else if c = 41 then (match k with | 0 => false | k + 1 => clo k t) else false
theorem clo_up (k : Nat) (t : List Nat) : clo k (40 :: t) = clo (k + 1) t := by
  conv => lhs; unfold clo
  rw [if_pos rfl]
theorem clo_down (k : Nat) (t : List Nat) : clo (k + 1) (41 :: t) = clo k t := by
  conv => lhs; unfold clo
  rw [if_neg (by decide), if_pos rfl]
theorem clo_under (t : List Nat) : clo 0 (41 :: t) = false := by
  unfold clo
  rw [if_neg (by decide), if_pos rfl]
theorem clo_other {k c : Nat} {t : List Nat} (h1 : ¬ c = 40) (h2 : ¬ c = 41) : clo k (c :: t) = false := by
  unfold clo
  rw [if_neg h1, if_neg h2]
theorem clo_nil (k : Nat) : clo k [] = (k == 0) := by unfold clo; rfl
inductive Good : Nat → Nat → List Nat → Prop
  | nil : Good 0 0 []
  | up {u d : Nat} {t : List Nat} (h : Good u d t) (le : u + 1 ≤ d) : Good (u + 1) d (40 :: t)
  | down {u d : Nat} {t : List Nat} (h : Good u d t) (le : u ≤ d) : Good u (d + 1) (41 :: t)
theorem Good.length {u d : Nat} {t : List Nat} (h : Good u d t) : t.length = u + d := by
  induction h with
  | nil => rfl
  | up _ _ ih => rw [List.length_cons, ih]; omega
  | down _ _ ih => rw [List.length_cons, ih]; omega
theorem good_of_clo : ∀ (t : List Nat) (k : Nat), clo k t = true → ∃ u, Good u (u + k) t
  | [], k, h => by
    have e : k = 0 := by simpa [clo] using h
    subst e
    exact ⟨0, .nil⟩
  | c :: t, k, h => by
    unfold clo at h
    by_cases h1 : c = 40
    · rw [if_pos h1] at h
      obtain ⟨u, g⟩ := good_of_clo t (k + 1) h
      subst h1
      refine ⟨u + 1, ?_⟩
      rw [show u + 1 + k = u + (k + 1) by omega]
      exact .up g (by omega)
    · rw [if_neg h1] at h
      by_cases h2 : c = 41
      · rw [if_pos h2] at h
        cases k with
        | zero => cases h
        | succ k =>
          obtain ⟨u, g⟩ := good_of_clo t k h
          subst h2
          exact ⟨u, Good.down g (Nat.le_add_right u k)⟩
      · rw [if_neg h2] at h; cases h
noncomputable def lt : List Nat → List Nat → Bool
  | c :: s, e :: t => if c = e then lt s t else c == 40
  | _, _ => false
end Ck
set_option Elab.async false
set_option linter.all false
set_option maxRecDepth 100000
set_option maxHeartbeats 4000000
namespace Ck
open PySem
theorem cps_len (x : Str) : x.cps.toList.length = x.length := by simp [Str.length]
noncomputable def ix (n d : Nat) : Option Int → Nat
  | none => d
  | some v => if v < 0 then (v + (n : Int)).toNat else min v.toNat n
theorem pick_range (l : List Nat) : ∀ (k a : Nat), ((List.range k).map fun j => a + j).filterMap (fun j => l[j]?) = (l.drop a).take k
  | 0, a => by simp
  | k + 1, a => by
    rw [List.range_succ, List.map_append, List.filterMap_append, pick_range l k a, List.take_add_one]
    congr 1
    rw [List.getElem?_drop]
    cases h : l[a + k]? <;> simp [h]
theorem slice_indices (lo hi : Option Int) (n : Nat) : Builtin.Str.strSliceIndices lo hi 1 n = (List.range (ix n n hi - ix n 0 lo)).map fun j => ix n 0 lo + j := by
  have key : ∀ (a b : Nat), sliceRange (a : Int) (b : Int) 1 = (List.range (b - a)).map fun j => a + j := by
    intro a b
    unfold sliceRange
    simp only [show (1 : Int) > 0 by decide, if_true, Int.ediv_one]
    have e : (if (a : Int) < (b : Int) then (b : Int) - (a : Int) + 1 - 1 else 0).toNat = b - a := by split <;> omega
    rw [e]
    refine List.map_congr_left fun j _ => ?_
    omega
  unfold Builtin.Str.strSliceIndices
  have elo : (match lo with | none => (0 : Int) | some i => max 0 (min (if i < 0 then i + (n : Int) else i) (n : Int))) = ((ix n 0 lo : Nat) : Int) := by
    cases lo with
    | none => rfl
    | some i =>
      show max 0 (min (if i < 0 then i + (n : Int) else i) (n : Int)) = (((if i < 0 then (i + (n : Int)).toNat else min i.toNat n) : Nat) : Int)
      split <;> omega
  have ehi : (match hi with | none => (n : Int) | some i => max 0 (min (if i < 0 then i + (n : Int) else i) (n : Int))) = ((ix n n hi : Nat) : Int) := by
    cases hi with
    | none => rfl
    | some i =>
      show max 0 (min (if i < 0 then i + (n : Int) else i) (n : Int)) = (((if i < 0 then (i + (n : Int)).toNat else min i.toNat n) : Nat) : Int)
      split <;> omega
  rw [← key, ← elo, ← ehi]
  cases lo <;> cases hi <;> simp <;> rfl
theorem slice_codes (x : Str) (lo hi : Option Int) : (Txt.slice x lo hi).cps.toList = (x.cps.toList.drop (ix x.length 0 lo)).take (ix x.length x.length hi - ix x.length 0 lo) := by
  have e : ((Builtin.Str.strSliceIndices lo hi 1 x.length).filterMap (x.cps[·]?)) = (x.cps.toList.drop (ix x.length 0 lo)).take (ix x.length x.length hi - ix x.length 0 lo) := by
    rw [slice_indices, ← pick_range]
    congr 1
    funext j
    simp
  unfold Txt.slice
  split
  · rename_i h
    have hl : (Builtin.Str.strSliceIndices lo hi 1 x.length).length = x.length := by simpa using h
    rw [slice_indices, List.length_map, List.length_range] at hl
    have h1 : ix x.length x.length hi ≤ x.length := by
      cases hi with
      | none => exact Nat.le_refl _
      | some v => show (if v < 0 then (v + (x.length : Int)).toNat else min v.toNat x.length) ≤ x.length; split <;> omega
    have h2 : x.length = 0 ∨ ix x.length 0 lo = 0 := by omega
    have h3 : ix x.length x.length hi - ix x.length 0 lo = x.length := hl
    rw [h3]
    rcases h2 with h2 | h2
    · have : x.cps.toList = [] := List.eq_nil_of_length_eq_zero (by rw [cps_len]; exact h2)
      rw [this]; simp
    · rw [h2, List.drop_zero, List.take_of_length_le (by rw [cps_len]; exact Nat.le_refl _)]
  · show ((Builtin.Str.strSliceIndices lo hi 1 x.length).filterMap (x.cps[·]?)).toArray.toList = _
    rw [← e]
theorem slice_to {x : Str} {p : Int} (h0 : 0 ≤ p) : (Txt.slice x none (some p)).cps.toList = x.cps.toList.take p.toNat := by
  rw [slice_codes]
  have e : ix x.length x.length (some p) = min p.toNat x.length := by show (if p < 0 then _ else _) = _; rw [if_neg (by omega)]
  rw [e]
  show (x.cps.toList.drop 0).take (min p.toNat x.length - 0) = _
  rw [List.drop_zero, Nat.sub_zero]
  by_cases h : p.toNat ≤ x.length
  · rw [Nat.min_eq_left h]
  · rw [Nat.min_eq_right (by omega), List.take_of_length_le (by rw [cps_len]; exact Nat.le_refl _), List.take_of_length_le (by rw [cps_len]; omega)]
theorem slice_from {x : Str} {p : Int} (h0 : 0 ≤ p) : (Txt.slice x (some p) none).cps.toList = x.cps.toList.drop p.toNat := by
  rw [slice_codes]
  have e : ix x.length 0 (some p) = min p.toNat x.length := by show (if p < 0 then _ else _) = _; rw [if_neg (by omega)]
  rw [e]
  show (x.cps.toList.drop (min p.toNat x.length)).take (x.length - min p.toNat x.length) = _
  by_cases h : p.toNat ≤ x.length
  · rw [Nat.min_eq_left h, List.take_of_length_le (by rw [List.length_drop, cps_len]; exact Nat.le_refl _)]
  · rw [Nat.min_eq_right (by omega), Nat.sub_self, List.drop_eq_nil_of_le (show x.cps.toList.length ≤ p.toNat by rw [cps_len]; omega)]; simp
theorem app_codes (x y : Str) : (x ++ y).cps.toList = x.cps.toList ++ y.cps.toList := by
  show (x.cps ++ y.cps).toList = _
  simp
theorem occ_loop (x : Str) (c : Nat) : ∀ (m i : Nat) (st : Array Nat × Nat), st.2 ≤ i → st.1.size ≤ i → i + m ≤ x.length + 1 →
    (forIn (List.range' i m) st (StrLaws.occBody x ⟨#[c]⟩ x.length (x.length + 1))).run.fst.size = st.1.size + ((x.cps.toList.drop i).take m).count c
  | 0, i, st, _, _, _ => by
    show st.1.size = _
    simp
  | m + 1, i, st, h1, h2, h3 => by
    rw [List.range'_succ, List.forIn_cons]
    unfold StrLaws.occBody
    have hone := StrLaws.subAt_one x c i
    have step : (x.cps.toList.drop i).take (m + 1) = (match x.cps.toList[i]? with | some a => [a] | none => []) ++ (x.cps.toList.drop (i + 1)).take m := by
      cases hx : x.cps.toList[i]? with
      | none =>
        have := List.getElem?_eq_none_iff.mp hx
        rw [List.drop_eq_nil_of_le this, List.drop_eq_nil_of_le (by omega)]; simp
      | some a =>
        obtain ⟨hlt, e⟩ := List.getElem?_eq_some_iff.mp hx
        rw [List.drop_eq_getElem_cons hlt, e]; rfl
    by_cases hc : x.cps.toList[i]? = some c
    · have hs := hone.mpr hc
      rw [if_pos ⟨⟨⟨by omega, h1⟩, hs.1⟩, hs.2⟩]
      show (forIn (List.range' (i + 1) m) (st.1.push i, i + 1) (StrLaws.occBody x ⟨#[c]⟩ x.length (x.length + 1))).run.fst.size = _
      rw [occ_loop x c m (i + 1) _ (Nat.le_refl _) (by simp; omega) (by omega), step, hc]
      simp
      omega
    · rw [if_neg fun h => hc (hone.mp ⟨h.1.2, h.2⟩)]
      show (forIn (List.range' (i + 1) m) (st.1, st.2) (StrLaws.occBody x ⟨#[c]⟩ x.length (x.length + 1))).run.fst.size = _
      rw [occ_loop x c m (i + 1) (st.1, st.2) (Nat.le_succ_of_le h1) (Nat.le_succ_of_le h2) (by omega), step]
      cases hx : x.cps.toList[i]? with
      | none => simp
      | some a =>
        rw [hx] at hc
        have hne : a ≠ c := fun e => hc (by rw [e])
        simp [List.count_cons, hne]
theorem count_one (x : Str) (c : Nat) : Txt.count x ⟨#[c]⟩ = ((x.cps.toList.count c : Nat) : Int) := by
  unfold Txt.count
  rw [StrLaws.occ_eq, Array.length_toList, Nat.sub_zero, occ_loop x c _ 0 _ (Nat.le_refl _) (by simp) (by omega)]
  rw [List.drop_zero, List.take_of_length_le (by rw [cps_len]; omega)]
  simp
end Ck
set_option Elab.async false
set_option linter.all false
set_option maxRecDepth 100000
set_option maxHeartbeats 4000000
namespace Ck
open PySem L2
theorem mul_ok {i j : Nat} (h : i + j ≤ 60) : CMul (sh i) (sh j) := by
  have two : (0 : Int) < 2 ^ 64 := by decide
  by_cases hi : i ≤ 36
  · have := sh_small hi
    exact .inl ⟨by omega, this.2⟩
  · have := sh_small (k := j) (by omega)
    exact .inr ⟨by omega, this.2⟩
end Ck
namespace L2
open PySem
end L2
namespace Ck
open PySem L2
end Ck
namespace L2
open PySem PySem.Spec PyProof.Rows
theorem vals_of_signs {l : List Nat} : ∀ {us : List Value}, us.length = l.length → (∀ (j : Nat) v, us[j]? = some v → ∃ c u, l[j]? = some c ∧ v = .str ⟨#[c]⟩ u) → Vals (l.map sgn) us := by
  induction l with
  | nil => intro us h _; rw [List.eq_nil_of_length_eq_zero h]; exact .nil
  | cons c l ih =>
    intro us h k
    cases us with
    | nil => cases h
    | cons v us =>
      obtain ⟨c', u, e1, e2⟩ := k 0 v rfl
      have : c = c' := by simpa using e1
      subst this
      exact .cons ⟨u, e2⟩ (ih (by simpa using h) fun j w e => by
        obtain ⟨c2, u2, f1, f2⟩ := k (j + 1) w (by simpa using e)
        exact ⟨c2, u2, by simpa using f1, f2⟩)
theorem call_listS {X : Cx} (hc : X.calm = true) : CallR X (.type "list") (fun xs H Q => ∃ z, xs = [.str z] ∧ z.length ≤ sizeLine ∧ ∀ l, H l = none → Q (.ref l) (upd H l (.lst (z.cps.toList.map sgn)))) := by
  intro pins s σ H xs us Q I r h
  obtain ⟨z, rfl, hz, q⟩ := h
  obtain ⟨u, rfl, t, rfl⟩ := vals1 r
  refine PySem.call_list_str (I.ok.hd hc) z t (fun h' tk acc' c' hk he hacc => ?_) hz
  have hl : acc'.toList.length = z.cps.toList.length := by simpa using hacc.1
  refine ⟨.ref s.heap.objs.size, _, I.laid (t' := tk) (o := .lst (z.cps.toList.map sgn)) hk (Nat.le_refl _) ⟨?_, acc'.toList, c', vals_of_signs hl fun j v e => ?_, he⟩, rfl, q _ (I.hok.fresh (Nat.le_refl _))⟩
  · rw [List.length_map, len_cps]; exact hz
  · obtain ⟨c, u, e1, e2⟩ := hacc.2 j v (by simpa using e)
    exact ⟨c, u, by simpa using e1, e2⟩
noncomputable def rCount : V → List V → Hp → VK → Prop := fun x vs H Q => ∃ z y, x = .str z ∧ vs = [.str y] ∧ Q (.int (Txt.count z y)) H
theorem mt_count {X : Cx} : MtM X "str.count" rCount := by
  intro pins s σ H x xs v us Q I rx rs h
  obtain ⟨z, y, rfl, rfl, q⟩ := h
  obtain ⟨t, rfl⟩ := rx
  obtain ⟨u, rfl, t', rfl⟩ := vals1 rs
  exact SC.count ⟨.int (Txt.count z y), H, I.tok _, ⟨_, rfl⟩, q⟩
theorem at_code {x : Str} {i : Int} {c : Nat} (h0 : 0 ≤ i) (h : x.cps.toList[i.toNat]? = some c) : atI x.cps.toList i = some c := by
  have q := atI_nat (xs := x.cps.toList) (j := i.toNat) h
  rw [show ((i.toNat : Nat) : Int) = i by omega] at q
  exact q
theorem str_ext {x y : Str} (h : x.cps.toList = y.cps.toList) : x = y := by
  obtain ⟨a⟩ := x
  obtain ⟨b⟩ := y
  have : a = b := by
    have h' : a.toList = b.toList := h
    rw [← Array.toArray_toList (xs := a), h', Array.toArray_toList]
  rw [this]
end L2
namespace Ck
open PySem L2
structure Beg (n : Nat) (l : List Nat) (i u h : Nat) : Prop where
  len : l.length = i
  bal : 2 * u = i + h
  le : u ≤ n
  clo : ∀ t, Ck.clo 0 (l ++ t) = Ck.clo h t
theorem Beg.up {n : Nat} {l : List Nat} {i u h : Nat} (b : Beg n l i u h) (hu : u < n) : Beg n (l ++ [40]) (i + 1) (u + 1) (h + 1) :=
  ⟨by rw [List.length_append, b.len]; rfl, by have := b.bal; omega, hu, fun t => by rw [List.append_assoc, b.clo]; exact clo_up h t⟩
theorem Beg.down {n : Nat} {l : List Nat} {i u h : Nat} (b : Beg n l i u (h + 1)) : Beg n (l ++ [41]) (i + 1) u h :=
  ⟨by rw [List.length_append, b.len]; rfl, by have := b.bal; omega, b.le, fun t => by rw [List.append_assoc, b.clo]; exact clo_down h t⟩
theorem prefix_beg {n : Nat} {c : List Nat} (g : Good n n c) : ∀ i, i ≤ c.length → ∃ h u', Beg n (c.take i) i ((c.take i).count 40) h ∧ Good u' (u' + h) (c.drop i) ∧ (c.take i).count 40 + u' = n
  | 0, _ => ⟨0, n, ⟨rfl, rfl, by simp, fun t => rfl⟩, g, by simp⟩
  | i + 1, hi => by
    obtain ⟨h, u', b, gd, e⟩ := prefix_beg g i (by omega)
    have hlt : i < c.length := by omega
    rw [List.drop_eq_getElem_cons hlt] at gd
    have et : c.take (i + 1) = c.take i ++ [c[i]] := by rw [List.take_add_one, List.getElem?_eq_getElem hlt]; rfl
    generalize hc : c[i] = x at gd et
    generalize hd : u' + h = d at gd
    rw [et]
    cases gd with
    | @up v d t g' le =>
      refine ⟨h + 1, v, ?_, ?_, ?_⟩
      · have := b.up (by omega)
        rw [List.count_append, show List.count 40 [40] = 1 by rfl]
        exact this
      · rw [show v + (h + 1) = d by omega]; exact g'
      · rw [List.count_append, show List.count 40 [40] = 1 by rfl]; omega
    | @down v d' t g' le =>
      obtain ⟨h', rfl⟩ : ∃ h', h = h' + 1 := ⟨h - 1, by omega⟩
      refine ⟨h', u', ?_, ?_, ?_⟩
      · have := b.down
        rw [List.count_append, show List.count 40 [41] = 0 by rfl]
        exact this
      · rw [show u' + h' = d' by omega]; exact g'
      · rw [List.count_append, show List.count 40 [41] = 0 by rfl]; omega
end Ck
set_option Elab.async false
set_option linter.all false
set_option maxRecDepth 100000
set_option maxHeartbeats 4000000
namespace L2
open PySem PySem.Spec PyProof.Rows
section
variable {X : Cx} {tg : Expr}
end
noncomputable def eqL : List V → List V → Bool
  | [], [] => true
  | x :: xs, y :: ys => eqV x y && eqL xs ys
  | _, _ => false
theorem eqL_len : ∀ {xs ys : List V}, xs.length ≠ ys.length → eqL xs ys = false
  | [], [], h => absurd rfl h
  | [], _ :: _, _ => rfl
  | _ :: _, [], _ => rfl
  | x :: xs, y :: ys, h => by
    rw [eqL, eqL_len (xs := xs) (ys := ys) (by simpa using h), Bool.and_false]
theorem eqL_all : ∀ {xs ys : List V}, xs.length = ys.length → (List.range xs.length).all (fun j => eqV (xs.getD j .non) (ys.getD j .non)) = eqL xs ys
  | [], [], _ => rfl
  | x :: xs, y :: ys, h => by
    rw [eqL, ← eqL_all (xs := xs) (ys := ys) (by simpa using h), List.length_cons, List.range_succ_eq_map, List.all_cons, List.all_map]
    rfl
noncomputable def rEqL (K : PySem.W.Frag) (neg : Bool) : R2 := fun x y H Q => ∃ a b xs ys, x = .ref a ∧ y = .ref b ∧ SqL K H a xs ∧ SqL K H b ys ∧ xs.all flatV = true ∧ ys.all flatV = true ∧ Q (.bl (if neg then !eqL xs ys else eqL xs ys)) H
section
variable {X : Cx}
theorem items_eqAt {A : Around} {s : Shared} {xs ys : List V} {us vs : List Value} (r : Vals xs us) (r' : Vals ys vs) (fx : xs.all flatV = true) (fy : ys.all flatV = true) :
    ∀ j (h1 : j < us.toArray.size) (h2 : j < vs.toArray.size), SeqAt.EqAt A s us.toArray[j] vs.toArray[j] (eqV (xs.getD j .non) (ys.getD j .non)) := fun j h1 h2 => by
  have l1 := r.length
  have l2 := r'.length
  have h1' : j < us.length := by simpa using h1
  have h2' : j < vs.length := by simpa using h2
  obtain ⟨u, eu, ru⟩ := r.get (List.getElem?_eq_getElem (show j < xs.length by omega))
  obtain ⟨v, ev, rv⟩ := r'.get (List.getElem?_eq_getElem (show j < ys.length by omega))
  have e1 : us.toArray[j] = u := by
    rw [List.getElem?_eq_getElem h1'] at eu
    simpa using eu
  have e2 : vs.toArray[j] = v := by
    rw [List.getElem?_eq_getElem h2'] at ev
    simpa using ev
  rw [e1, e2]
  have g1 : xs.getD j .non = xs[j]'(by omega) := by rw [List.getD_eq_getElem?_getD, List.getElem?_eq_getElem (show j < xs.length by omega)]; rfl
  have g2 : ys.getD j .non = ys[j]'(by omega) := by rw [List.getD_eq_getElem?_getD, List.getElem?_eq_getElem (show j < ys.length by omega)]; rfl
  rw [g1, g2]
  exact eqAt_V ru rv (List.all_eq_true.mp fx _ (List.getElem_mem _)) (List.all_eq_true.mp fy _ (List.getElem_mem _))
theorem op_eq_list (hu : X.A.units < cLine) : OpR X (compareOp .Eq) (rEqL X.K false) := by
  intro pins s σ H x y v u Q I rx ry h
  obtain ⟨a, b, xs, ys, rfl, rfl, ha, hb, fx, fy, q⟩ := h
  cases rx
  cases ry
  obtain ⟨us, r, pl, hz⟩ := I.list ha
  obtain ⟨vs, r', pl', hz'⟩ := I.list hb
  have l1 := r.length
  have l2 := r'.length
  by_cases hl : xs.length = ys.length
  · refine SeqAt.eq_listAt (e := fun j => eqV (xs.getD j .non) (ys.getD j .non)) pl.isList pl'.isList (by simp; omega) hu (items_eqAt r r' fx fy) ⟨.bl _, H, I, rfl, ?_⟩
    rw [show us.toArray.size = xs.length by simp; omega, eqL_all hl]
    exact q
  · refine SeqAt.eq_list_lengthsAt pl.isList pl'.isList (by simp; omega) hu ⟨.bl false, H, I, rfl, ?_⟩
    rw [← eqL_len hl]
    exact q
theorem op_ne_list (hu : X.A.units < cLine) : OpR X (compareOp .NotEq) (rEqL X.K true) := by
  intro pins s σ H x y v u Q I rx ry h
  obtain ⟨a, b, xs, ys, rfl, rfl, ha, hb, fx, fy, q⟩ := h
  cases rx
  cases ry
  obtain ⟨us, r, pl, hz⟩ := I.list ha
  obtain ⟨vs, r', pl', hz'⟩ := I.list hb
  have l1 := r.length
  have l2 := r'.length
  by_cases hl : xs.length = ys.length
  · refine SeqAt.RcNeAt.lists (e := fun j => eqV (xs.getD j .non) (ys.getD j .non)) pl.isList pl'.isList (by simp; omega) hu (items_eqAt r r' fx fy) _ _ _ _ ⟨.bl _, H, I, rfl, ?_⟩
    rw [show us.toArray.size = xs.length by simp; omega, eqL_all hl]
    exact q
  · refine SeqAt.RcNeAt.lists_lengths pl.isList pl'.isList (by simp; omega) hu _ _ _ _ ⟨.bl true, H, I, rfl, ?_⟩
    have z := eqL_len hl
    rw [z] at q
    exact q
end
end L2
set_option Elab.async false
set_option linter.all false
set_option maxRecDepth 100000
set_option maxHeartbeats 4000000
namespace L2
open PySem PySem.Spec PyProof.Rows PySem.W Builtin Builtin.ObjectAttr Builtin.Getset_descriptor
noncomputable def excK (K : Frag) (C : Addr) : Bool :=
  findIn K (.ref C) "__getattribute__" == some (some (.builtin "BaseException.__getattribute__")) && findIn K (.ref C) "__getattr__" == some none &&
  findIn K (.ref C) "__class__" == some (some (.builtin "object.__class__")) && specialIn K (.builtin "object.__class__") "__get__" == some (some (.builtin "getset_descriptor.__get__")) &&
  takesIn K (.builtin "object.__class__") == some true && mroIn K C (.type "object") == some true && mroIn K C (.type "BaseException") == some true && (clsIn K C).isSome
structure ExcK (K : Frag) (C : Addr) : Prop where
  ga : findIn K (.ref C) "__getattribute__" = some (some (.builtin "BaseException.__getattribute__"))
  gh : findIn K (.ref C) "__getattr__" = some none
  cl : findIn K (.ref C) "__class__" = some (some (.builtin "object.__class__"))
  gt : specialIn K (.builtin "object.__class__") "__get__" = some (some (.builtin "getset_descriptor.__get__"))
  tk : takesIn K (.builtin "object.__class__") = some true
  mo : mroIn K C (.type "object") = some true
  mb : mroIn K C (.type "BaseException") = some true
  is : (clsIn K C).isSome = true
theorem excK_of {K : Frag} {C : Addr} (h : excK K C = true) : ExcK K C := by
  unfold excK at h
  simp only [Bool.and_eq_true, beq_iff_eq] at h
  obtain ⟨⟨⟨⟨⟨⟨⟨a, b⟩, c⟩, d⟩, e⟩, f⟩, g⟩, i⟩ := h
  exact ⟨a, b, c, d, e, f, g, i⟩
section
variable {K : Frag} {e C : Addr} {M : Model} {h : Heap} {prog : Program} {w : World} {A : Around} {E : Value → Shared → Prop} {s : Shared}
noncomputable def IsX (e C : Addr) (h : Heap) : Prop := ∃ o, h.get? e = some o ∧ o.cls = .ref C ∧ ∃ vs, o.data = .fields vs
theorem IsX.ty (x : IsX e C h) : Looks M h (typeOf (.ref e)) (.ref C) := by
  obtain ⟨o, ho, hc, _⟩ := x
  rw [← hc]
  exact (Looks.ld ho).andThen .now
theorem ExcK.find (F : ExcK K C) (X : K.In h) (x : Value) : Looks M h (Builtin.ObjectAttr.find x (.ref C) "__class__") (.bind (.builtin "getset_descriptor.__get__") (.builtin "object.__class__")) := by
  unfold Builtin.ObjectAttr.find
  refine (looks_findIn X F.cl).andThen ?_
  refine Looks.andThen (a := some (.builtin "getset_descriptor.__get__")) (looks_specialIn X F.gt) ?_
  refine Looks.andThen (a := some (.builtin "getset_descriptor.__get__", .builtin "object.__class__")) ?_ (Looks.tag .now)
  exact (looks_takesIn X F.tk).andThen .now
end
section
variable {K : Frag} {e C : Addr} {M : Model} {h : Heap} {prog : Program} {w : World} {A : Around} {E : Value → Shared → Prop} {s : Shared}
theorem ExcK.got (F : ExcK K C) {R : Result → Shared → Prop} {tp : Value} (X : K.In s.heap) (I : IsX e C s.heap) (q : R (.ok (.ret (.ref C))) s) :
    codeAny (model prog w) A (.call (.builtin "getset_descriptor.__get__") ⟨[.builtin "object.__class__", .ref e, tp], []⟩) R s := by
  obtain ⟨hh, g, dr, t, os⟩ := s
  have L0 := I.ty (M := model prog w)
  have L1 := looks_mroIn (M := model prog w) X F.mo
  refine codeAny_call_builtin KF.slot_gs.plain KF.entry_gs (KF.slot_gs.check _ _ _ _ _ _ _ _ KF.type_class (KF.args_gs _ _ _) ?_)
  unfold Builtin.«getset_descriptor.__get__» descrGet
  rw [dga_obj]
  refine wpAny_bind (wpAny_pure ?_)
  unfold descrGetter descrCheckInstance descrNameAndClass isInstance
  simp only [KF.owner_class]
  repeat lk
  refine ⟨Code.quiet_builtin _ (by decide +kernel), codeAny_builtin KF.entry_class ?_⟩
  unfold Builtin.«object.__class__» shownTypeOf
  repeat lk
  exact q
theorem ExcK.checked (F : ExcK K C) {nv : Value} {Q : Unit → Shared → Prop} (X : K.In s.heap) (I : IsX e C s.heap) (q : Q () s) : wpAny M A (checkBuiltinCall "BaseException.__getattribute__" ⟨[.ref e, nv], []⟩) Q E s := by
  obtain ⟨hh, g, dr, t, os⟩ := s
  have LI : Looks M hh (isInstance (.ref e) (.type "BaseException")) true := I.ty.andThen (looks_mroIn X F.mb)
  have e1 : builtinKind "BaseException.__getattribute__" = some .slot := (by decide +kernel)
  have e2 : splitId "BaseException.__getattribute__" = some (("BaseException", "__getattribute__") : String × String) := by decide +kernel
  have e3 := PySem.F.args_bexc_ga (.ref e) nv
  simp only [checkBuiltinCall, e1, e2]
  refine wpAny_bind (LI.at ?_)
  repeat (first | assumption | wp_step)
theorem ExcK.attr (F : ExcK K C) {tk : Tok} {Q : Value → Shared → Prop} (X : K.In s.heap) (I : IsX e C s.heap) (q : Q (.ref C) s) : wpAny (model prog w) A (getAttrBy (.ref e) (.str "__class__" tk) false false) Q E s := by
  obtain ⟨hh, g, dr, t, os⟩ := s
  have L0 := I.ty (M := model prog w)
  have L1 := looks_findIn (M := model prog w) X F.ga
  have L2 := looks_findIn (M := model prog w) X F.gh
  have L3 := F.find (M := model prog w) X (.ref e)
  have b := PySem.F.attr_ValueError.ga.bind (.ref e)
  unfold getAttrBy
  refine wpAny_holding (wpAny_bind (L0.at (wpAny_bind (L1.at ?_))))
  show wpAny _ _ (getAttrByItsOwn _ _ _ _ _ _) _ _ _
  unfold getAttrByItsOwn hookBefore
  refine wpAny_bind (L2.at ?_)
  refine wpAny_bind (wpAny_attempt (wpAny_holding ?_))
  show wpAny _ _ (boundAndCalled _ _ _) _ _ _
  unfold boundAndCalled
  rw [b]
  refine wpAny_bind (wpAny_pure (wpAny_call (codeAny_call_builtin PySem.F.attr_ValueError.ga.plain PySem.F.entry_bexc_ga (F.checked X I ?_))))
  show wpAny _ _ (Builtin.«object.__getattribute__» ⟨[.ref e, .str "__class__" tk], []⟩) _ _ _
  unfold Builtin.«object.__getattribute__»
  repeat lk
  show wpAny _ _ (run (.call (.builtin "getset_descriptor.__get__") ⟨[.builtin "object.__class__", .ref e, .ref C], []⟩) none) _ _ _
  refine wpAny_run (h := none) (F.got X I ?_)
  show wpAny _ _ (pure (Value.ref C)) _ _ _
  refine wpAny_pure ?_
  show wpAny _ _ (ret (.ref C)) _ _ _
  refine wpAny_pure ?_
  exact handed_on rfl q
theorem kitx_exc (F : ExcK K C) : KitX K (.ref e) (.ref C) (IsX e C) where
  ty := fun _ _ _ I => I.ty
  it := fun _ _ X _ => by
    have hc := F.is
    unfold clsIn at hc
    split at hc
    · rename_i ho
      intro A' Q' E' s' k q
      unfold isType loadHead
      exact wpAny_bind (wpAny_loadPart (k _ _ (X _ _ ho)) (wpAny_pure q))
    · cases hc
  ne := fun h tp dd its n sl X htp => by
    have hc := F.is
    refine Bool.eq_false_iff.mpr fun q => ?_
    have z : C = tp := Value.ref.inj (beq_iff_eq.mp q)
    subst z
    unfold clsIn at hc
    split at hc
    · rename_i ho
      have z := (X _ _ ho).symm.trans htp
      cases z
    · cases hc
  ca := fun {prog w A E Q s} X I q => by
    obtain ⟨hh, g, d, t, os⟩ := s
    unfold getAttr? getAttrBy?
    refine wpAny_bind (wpAny_mkText (wpAny_bind (wpAny_attempt (F.attr (s := ⟨hh, g, d, t + 1, os⟩) X I ?_))))
    exact wpAny_pure q
end
structure Errs where
  kin : Addr
  size : Addr
  number : Addr
  thing : Addr
  family : Addr
  way : Addr
  apart : Addr
  mark : Addr
  text : Addr
  broken : Addr
noncomputable def errTab (K : Frag) (er : Errs) : Bool :=
  (excIn K er.size veB "ValueError.__new__") &&
  (excK K er.size) &&
  (exmOne K (.ref er.size) (.ref er.kin) == some true) &&
  (kitOne K (.ref er.size) (.type "ValueError") == some true) &&
  (kitOne K (.ref er.size) (.ref er.size) == some true) &&
  (kitOne K (.ref er.size) (.ref er.number) == some false) &&
  (kitOne K (.ref er.size) (.ref er.thing) == some false) &&
  (kitOne K (.ref er.size) (.ref er.family) == some false) &&
  (kitOne K (.ref er.size) (.ref er.way) == some false) &&
  (kitOne K (.ref er.size) (.ref er.apart) == some false) &&
  (kitOne K (.ref er.size) (.ref er.mark) == some false) &&
  (kitOne K (.ref er.size) (.ref er.text) == some false) &&
  (kitOne K (.ref er.size) (.ref er.broken) == some false) &&
  (excIn K er.number veB "ValueError.__new__") &&
  (excK K er.number) &&
  (exmOne K (.ref er.number) (.ref er.kin) == some true) &&
  (kitOne K (.ref er.number) (.type "ValueError") == some true) &&
  (kitOne K (.ref er.number) (.ref er.size) == some false) &&
  (kitOne K (.ref er.number) (.ref er.number) == some true) &&
  (kitOne K (.ref er.number) (.ref er.thing) == some false) &&
  (kitOne K (.ref er.number) (.ref er.family) == some false) &&
  (kitOne K (.ref er.number) (.ref er.way) == some false) &&
  (kitOne K (.ref er.number) (.ref er.apart) == some false) &&
  (kitOne K (.ref er.number) (.ref er.mark) == some false) &&
  (kitOne K (.ref er.number) (.ref er.text) == some false) &&
  (kitOne K (.ref er.number) (.ref er.broken) == some false) &&
  (excIn K er.thing veB "ValueError.__new__") &&
  (excK K er.thing) &&
  (exmOne K (.ref er.thing) (.ref er.kin) == some true) &&
  (kitOne K (.ref er.thing) (.type "ValueError") == some true) &&
  (kitOne K (.ref er.thing) (.ref er.size) == some false) &&
  (kitOne K (.ref er.thing) (.ref er.number) == some false) &&
  (kitOne K (.ref er.thing) (.ref er.thing) == some true) &&
  (kitOne K (.ref er.thing) (.ref er.family) == some false) &&
  (kitOne K (.ref er.thing) (.ref er.way) == some false) &&
  (kitOne K (.ref er.thing) (.ref er.apart) == some false) &&
  (kitOne K (.ref er.thing) (.ref er.mark) == some false) &&
  (kitOne K (.ref er.thing) (.ref er.text) == some false) &&
  (kitOne K (.ref er.thing) (.ref er.broken) == some false)
structure ErrOk (K : Frag) (mg : Str → Option Value) (er : Errs) : Prop where
  m_kin : mg "KinError" = some (.ref er.kin)
  m_size : mg "NoSize" = some (.ref er.size)
  m_number : mg "NoNumber" = some (.ref er.number)
  m_thing : mg "NoThing" = some (.ref er.thing)
  m_family : mg "NoFamily" = some (.ref er.family)
  m_way : mg "NoWay" = some (.ref er.way)
  m_apart : mg "Apart" = some (.ref er.apart)
  m_mark : mg "NoMark" = some (.ref er.mark)
  m_text : mg "NoText" = some (.ref er.text)
  m_broken : mg "Broken" = some (.ref er.broken)
  x_size : excI K er.size
  k_size : ExcK K er.size
  c_size : exmOne K (.ref er.size) (.ref er.kin) = some true
  size_value : kitOne K (.ref er.size) (.type "ValueError") = some true
  size_size : kitOne K (.ref er.size) (.ref er.size) = some true
  size_number : kitOne K (.ref er.size) (.ref er.number) = some false
  size_thing : kitOne K (.ref er.size) (.ref er.thing) = some false
  size_family : kitOne K (.ref er.size) (.ref er.family) = some false
  size_way : kitOne K (.ref er.size) (.ref er.way) = some false
  size_apart : kitOne K (.ref er.size) (.ref er.apart) = some false
  size_mark : kitOne K (.ref er.size) (.ref er.mark) = some false
  size_text : kitOne K (.ref er.size) (.ref er.text) = some false
  size_broken : kitOne K (.ref er.size) (.ref er.broken) = some false
  x_number : excI K er.number
  k_number : ExcK K er.number
  c_number : exmOne K (.ref er.number) (.ref er.kin) = some true
  number_value : kitOne K (.ref er.number) (.type "ValueError") = some true
  number_size : kitOne K (.ref er.number) (.ref er.size) = some false
  number_number : kitOne K (.ref er.number) (.ref er.number) = some true
  number_thing : kitOne K (.ref er.number) (.ref er.thing) = some false
  number_family : kitOne K (.ref er.number) (.ref er.family) = some false
  number_way : kitOne K (.ref er.number) (.ref er.way) = some false
  number_apart : kitOne K (.ref er.number) (.ref er.apart) = some false
  number_mark : kitOne K (.ref er.number) (.ref er.mark) = some false
  number_text : kitOne K (.ref er.number) (.ref er.text) = some false
  number_broken : kitOne K (.ref er.number) (.ref er.broken) = some false
  x_thing : excI K er.thing
  k_thing : ExcK K er.thing
  c_thing : exmOne K (.ref er.thing) (.ref er.kin) = some true
  thing_value : kitOne K (.ref er.thing) (.type "ValueError") = some true
  thing_size : kitOne K (.ref er.thing) (.ref er.size) = some false
  thing_number : kitOne K (.ref er.thing) (.ref er.number) = some false
  thing_thing : kitOne K (.ref er.thing) (.ref er.thing) = some true
  thing_family : kitOne K (.ref er.thing) (.ref er.family) = some false
  thing_way : kitOne K (.ref er.thing) (.ref er.way) = some false
  thing_apart : kitOne K (.ref er.thing) (.ref er.apart) = some false
  thing_mark : kitOne K (.ref er.thing) (.ref er.mark) = some false
  thing_text : kitOne K (.ref er.thing) (.ref er.text) = some false
  thing_broken : kitOne K (.ref er.thing) (.ref er.broken) = some false
theorem errOk {K : Frag} {mg : Str → Option Value} {er : Errs} (h : errTab K er = true) (h_kin : mg "KinError" = some (.ref er.kin)) (h_size : mg "NoSize" = some (.ref er.size)) (h_number : mg "NoNumber" = some (.ref er.number)) (h_thing : mg "NoThing" = some (.ref er.thing)) (h_family : mg "NoFamily" = some (.ref er.family)) (h_way : mg "NoWay" = some (.ref er.way)) (h_apart : mg "Apart" = some (.ref er.apart)) (h_mark : mg "NoMark" = some (.ref er.mark)) (h_text : mg "NoText" = some (.ref er.text)) (h_broken : mg "Broken" = some (.ref er.broken)) : ErrOk K mg er := by
  unfold errTab at h
  simp only [Bool.and_eq_true, beq_iff_eq] at h
  obtain ⟨⟨⟨⟨⟨⟨⟨⟨⟨⟨⟨⟨⟨⟨⟨⟨⟨⟨⟨⟨⟨⟨⟨⟨⟨⟨⟨⟨⟨⟨⟨⟨⟨⟨⟨⟨⟨⟨q0, q1⟩, q2⟩, q3⟩, q4⟩, q5⟩, q6⟩, q7⟩, q8⟩, q9⟩, q10⟩, q11⟩, q12⟩, q13⟩, q14⟩, q15⟩, q16⟩, q17⟩, q18⟩, q19⟩, q20⟩, q21⟩, q22⟩, q23⟩, q24⟩, q25⟩, q26⟩, q27⟩, q28⟩, q29⟩, q30⟩, q31⟩, q32⟩, q33⟩, q34⟩, q35⟩, q36⟩, q37⟩, q38⟩ := h
  exact ⟨h_kin, h_size, h_number, h_thing, h_family, h_way, h_apart, h_mark, h_text, h_broken, q0, excK_of q1, q2, q3, q4, q5, q6, q7, q8, q9, q10, q11, q12, q13, excK_of q14, q15, q16, q17, q18, q19, q20, q21, q22, q23, q24, q25, q26, excK_of q27, q28, q29, q30, q31, q32, q33, q34, q35, q36, q37, q38⟩
section
variable {X : Cx}
theorem call_isinstX : CallR X (.builtin "isinstance") (fun xs H Q => ∃ e c cv C b, xs = [.ref e, c] ∧ (∀ u, RelV c u → u = cv) ∧ H e = some (excO e (.ref C)) ∧ ExcK X.K C ∧ kitOne X.K (.ref C) cv = some b ∧ Q (.bl b) H) := by
  intro pins s σ H xs us Q I r h
  obtain ⟨e, c, cv, C, b, rfl, hcv, he, F, k, q⟩ := h
  obtain ⟨u, v, rfl, r1, r2⟩ := vals2 r
  rw [hcv v r2]
  cases (show u = Value.ref e from r1)
  obtain ⟨ix, _⟩ := (show ObjOk X.prog X.w H s.heap e (excO e (.ref C)) from I.hok e _ he)
  exact kia_one (kitx_exc F) I.kIn ix k (fun z => nomatch z) fun tk => ⟨.bl b, H, I.tok _, rfl, q⟩
theorem relRef {a : Addr} : ∀ u, RelV (.ref a) u → u = Value.ref a := fun _ h => h
theorem hu0 {A : Around} {k : Nat} (hr : Room k A) : A.units < cLine := Nat.lt_of_succ_lt (hu_of hr)
end
theorem bb_ValueError : bootBuiltins "ValueError" = some (.type "ValueError") := by decide +kernel
theorem eqL_one (t : Str) : eqL [.str t] [.str t] = true := by simp [eqL, eqV]
theorem eq_told {K : Frag} {t : Str} {p : Addr} {H1 : Hp} {σ : St} {Q' : VK} (hp : H1 p = some (.lst [.str t])) (q : ∀ H2, Same H1 H2 → Q' (.bl true) H2) :
    tLst (tCons (tC (.str t)) tNil) σ H1 (fun y H2 => rEqL K false (.ref p) y H2 Q') :=
  ⟨sz (n := 1) (by decide), fun l hl => ⟨p, l, _, _, rfl, rfl, SqL.of ((upd_ne (ne_of_none hp hl)).trans hp), SqL.of upd_same, rfl, rfl, by
    show Q' (.bl (eqL [.str t] [.str t])) _
    rw [eqL_one]
    exact q _ (Same.new (Same.refl _) hl _)⟩⟩
theorem ne_told {K : Frag} {t : Str} {p : Addr} {H1 : Hp} {σ : St} {Q' : VK} (hp : H1 p = some (.lst [.str t])) (q : ∀ H2, Same H1 H2 → Q' (.bl false) H2) :
    tLst (tCons (tC (.str t)) tNil) σ H1 (fun y H2 => rEqL K true (.ref p) y H2 Q') :=
  ⟨sz (n := 1) (by decide), fun l hl => ⟨p, l, _, _, rfl, rfl, SqL.of ((upd_ne (ne_of_none hp hl)).trans hp), SqL.of upd_same, rfl, rfl, by
    show Q' (.bl (!eqL [.str t] [.str t])) _
    rw [eqL_one]
    exact q _ (Same.new (Same.refl _) hl _)⟩⟩
end L2
namespace Ck
open PySem L2
end Ck
set_option Elab.async false
set_option linter.all false
set_option maxRecDepth 100000
set_option maxHeartbeats 4000000
namespace L2
open PySem PySem.Spec PyProof.Rows
structure MDef (P : Program) (w : World) (K : PySem.W.Frag) (mg : Str → Option Value) (base : Heap) (ps : List Str) (k : Nat) (sp : Sp) (f : Addr) (fd : FuncData) : Prop where
  ok : FnOk P w K mg base (CX1 P w) k f fd ps sp
  b : Binds K fd ps []
section
variable {X : Cx} {C f : Addr} {fd : FuncData} {ps : List Str} {sp : Sp} {m : Str} {apos pos : Pos} {o e : Expr} {es : List Expr} {ta : TE} {t : TA} {j k : Nat}
theorem pmeth {pl : Sem Bool} (ho : PE X o ta) (c : Cls X.K C) (hm : Meth X.K C m f) (D : MDef X.prog X.w X.K X.mg X.base ps j sp f fd) (hr : Room k X.A) (ha : PA X (e :: es) t) (hjk : j ≤ k := by decide)
    (hst : starEach (e :: es) X.env = (false, eval e X.env) :: starEach es X.env := by rfl) (hpl : (backTo pos (starEach es X.env)).any (·.1) = false := by rfl)
    (ht : eval (.Call (.Attribute o m apos) (e :: es) [] pos) X.env = (do
      let ov ← eval o X.env
      standAt apos.atName
      let (f, first) ← holding [ov] (getMethod ov m pl)
      callWith pos f first (backTo pos (starEach (e :: es) X.env)) (backToKw pos (keywordEach [] X.env))) := by rfl) :
    PE X (.Call (.Attribute o m apos) (e :: es) [] pos) (tMeth C m sp [] E0 ta t) := pe_meth ho c hm D.ok (hr.mono hjk) D.b .nil passN ha hst hpl ht
theorem pmeth0 {pl : Sem Bool} (ho : PE X o ta) (c : Cls X.K C) (hm : Meth X.K C m f) (D : MDef X.prog X.w X.K X.mg X.base ps j sp f fd) (hr : Room k X.A) (hjk : j ≤ k := by decide)
    (ht : eval (.Call (.Attribute o m apos) [] [] pos) X.env = (do
      let ov ← eval o X.env
      standAt apos.atName
      let (f, first) ← holding [ov] (getMethod ov m pl)
      callWith pos f first (backTo pos (starEach [] X.env)) (backToKw pos (keywordEach [] X.env))) := by rfl) :
    PE X (.Call (.Attribute o m apos) [] [] pos) (tMeth C m sp [] E0 ta tNil) := pe_meth0 ho c hm D.ok (hr.mono hjk) D.b .nil passN ht
theorem pmethT {E : XK} (T : Thr X E) {pl : Sem Bool} (ho : PE X o ta) (c : Cls X.K C) (hm : Meth X.K C m f) (D : MDef X.prog X.w X.K X.mg X.base ps j sp f fd) (hr : Room k X.A) (ha : PA X (e :: es) t) (hjk : j ≤ k := by decide)
    (hst : starEach (e :: es) X.env = (false, eval e X.env) :: starEach es X.env := by rfl) (hpl : (backTo pos (starEach es X.env)).any (·.1) = false := by rfl)
    (ht : eval (.Call (.Attribute o m apos) (e :: es) [] pos) X.env = (do
      let ov ← eval o X.env
      standAt apos.atName
      let (f, first) ← holding [ov] (getMethod ov m pl)
      callWith pos f first (backTo pos (starEach (e :: es) X.env)) (backToKw pos (keywordEach [] X.env))) := by rfl) :
    PE X (.Call (.Attribute o m apos) (e :: es) [] pos) (tMeth C m sp [] E ta t) := pe_meth ho c hm D.ok (hr.mono hjk) D.b .nil T.pass ha hst hpl ht
theorem px_meth {pl : Sem Bool} (ho : ∀ (pn' : List (Addr × Obj)) (xe' : Value → Shared → Prop), PE { X with pn := pn', xe := xe' } o ta) (c : Cls X.K C) (hm : Meth X.K C m f) (D : MDef X.prog X.w X.K X.mg X.base ps j sp f fd) (hr : Room k X.A)
    (ha : ∀ (pn' : List (Addr × Obj)) (xe' : Value → Shared → Prop), PA { X with pn := pn', xe := xe' } (e :: es) t) (hjk : j ≤ k := by decide)
    (hst : starEach (e :: es) X.env = (false, eval e X.env) :: starEach es X.env := by rfl) (hpl : (backTo pos (starEach es X.env)).any (·.1) = false := by rfl)
    (ht : eval (.Call (.Attribute o m apos) (e :: es) [] pos) X.env = (do
      let ov ← eval o X.env
      standAt apos.atName
      let (f, first) ← holding [ov] (getMethod ov m pl)
      callWith pos f first (backTo pos (starEach (e :: es) X.env)) (backToKw pos (keywordEach [] X.env))) := by rfl) :
    PEx X (.Call (.Attribute o m apos) (e :: es) [] pos) (fun E => tMeth C m sp [] E ta t) := by
  intro E σ pn' xe' hp pins s H Q I h
  refine PySem.W.methodCall_KW (pl := pl) (thn (ho pn' xe' pins s σ H _ I h) fun u s1 ⟨x, H1, I1, rx, a, dx, fs, ex, ea, l, q⟩ => ?_) ht
  subst ex
  obtain rfl : u = Value.ref a := rx
  refine getmeth_ok (X := { X with pn := pn', xe := xe' }) I1 ea c hm l ?_
  refine PySem.W.callWith_K (first := [.ref a]) (h₀ := X.base) I.ok.mod.kin hm.kp (thn (ha pn' xe' pos pins s1 σ H1 _ I1 q) fun us s2 ⟨vs, H2, I2, r, q2⟩ => ⟨I2.kIn, ?_⟩) hst hpl
  have q3 : sp (.ref a :: (vs ++ [])) H2 Q E := q2
  rw [List.append_nil] at q3
  exact run_at (X := { X with pn := pn', xe := xe' }) (us := .ref a :: us) (vs := .ref a :: vs) D.ok (hr.mono hjk) D.b hp I2 (.cons rfl r) q3
end
structure ClsM (K : PySem.W.Frag) (C : Addr) (m : Str) (f : Addr) : Prop where
  hg : PySem.W.specialIn K (.ref C) "__getattribute__" = some (some (.builtin "type.__getattribute__"))
  rd : PySem.W.readsIn K C (.type "type") = true
  at_ : PySem.W.findCls K (.ref C) (.type "type") m = some (.val (.ref f))
  kp : PySem.W.keepIn K (.ref f) = true
section
variable {X : Cx} {C f : Addr} {fd : FuncData} {ps : List Str} {sp : Sp} {x m : Str} {p apos pos : Pos} {e : Expr} {es : List Expr} {t : TA} {j k : Nat}
theorem pcls {pl : Sem Bool} (hm : X.mg x = some (.ref C)) (M : ClsM X.K C m f) (D : MDef X.prog X.w X.K X.mg X.base ps j sp f fd) (hr : Room k X.A) (ha : PA X (e :: es) t) (hjk : j ≤ k := by decide) (hg : Gl X x := by rfl)
    (hdb : (x == ("__debug__" : Str)) = false := by decide) (hst : starEach (e :: es) X.env = (false, eval e X.env) :: starEach es X.env := by rfl) (hpl : (backTo pos (starEach es X.env)).any (·.1) = false := by rfl)
    (ht : eval (.Call (.Attribute (.Name x p) m apos) (e :: es) [] pos) X.env = (do
      let ov ← eval (.Name x p) X.env
      standAt apos.atName
      let (f, first) ← holding [ov] (getMethod ov m pl)
      callWith pos f first (backTo pos (starEach (e :: es) X.env)) (backToKw pos (keywordEach [] X.env))) := by rfl) :
    PE X (.Call (.Attribute (.Name x p) m apos) (e :: es) [] pos) (tCall sp [] E0 t) := by
  intro pins s σ H Q I h
  refine PySem.W.methodCall_KW (pl := pl) (ld_glob I hg hm ?_ hdb) ht
  refine PySem.W.method_cls I.kIn M.hg (PySem.W.cls_value I.kIn M.rd M.at_ rfl ?_)
  have I1 : Inv X pins σ H { s with toks := s.toks + 1 } := I.tok _
  refine PySem.W.callWith_K (first := []) (h₀ := X.base) I.ok.mod.kin M.kp (thn (ha pos pins _ σ H _ I1 h) fun us s2 ⟨vs, H2, I2, r, q2⟩ => ⟨I2.kIn, ?_⟩) hst hpl
  exact run_fn D.ok (hr.mono hjk) D.b .nil passN I2 r q2
end
section
variable {X : Cx} {C f : Addr} {fd : FuncData} {ps : List Str} {sp : Sp} {x : Str} {p pos : Pos} {j k : Nat}
theorem pmake0 (M : Mk X.K C f) (hm : X.mg x = some (.ref C)) (D : MDef X.prog X.w X.K X.mg X.base ps j sp f fd) (hr : Room k X.A) (hjk : j + 1 ≤ k := by decide) (hg : Gl X x := by rfl) (hdb : (x == ("__debug__" : Str)) = false := by decide) :
    PE X (.Call (.Name x p) [] [] pos) (tMake C sp [] E0 tNil) := pe_make0 M D.ok (hr.mono hjk) hg hm D.b .nil passN hdb
end
end L2
namespace L2
open PySem
noncomputable def below (N : Nat) (sp : Nat → Sp) : Sp := fun vs H Q E => ∃ m, m < N ∧ sp m vs H Q E
theorem below_ok {P : Program} {w : World} {K : PySem.W.Frag} {mg : Str → Option Value} {base : Heap} {CX : CXT} {L N : Nat} {f : Addr} {fd : FuncData} {ps : List Str} {sp : Nat → Sp} (h : ∀ m, m < N → FnOk P w K mg base CX (L + m + 1) f fd ps (sp m)) :
    FnOk P w K mg base CX (L + N) f fd ps (below N sp) :=
  ⟨fun vs H Q E ⟨m, hm, q⟩ => (h m hm).len vs H Q E q, fun A outer s H args us vs Q E hr he hb hv ⟨m, hm, q⟩ => (h m hm).run A outer s H args us vs Q E (hr.mono (by omega)) he hb hv q⟩
theorem rec_ok {P : Program} {w : World} {K : PySem.W.Frag} {mg : Str → Option Value} {base : Heap} {CX : CXT} {L : Nat} {f : Addr} {fd : FuncData} {ps : List Str} {sp : Nat → Sp}
    (h : ∀ n, (∀ m, m < n → FnOk P w K mg base CX (L + m + 1) f fd ps (sp m)) → FnOk P w K mg base CX (L + n + 1) f fd ps (sp n)) : ∀ n, FnOk P w K mg base CX (L + n + 1) f fd ps (sp n) := fun n =>
  Nat.strongRecOn n fun n ih => h n ih
end L2
set_option Elab.async false
set_option linter.all false
set_option maxRecDepth 100000
set_option maxHeartbeats 4000000
namespace L2
open PySem PySem.Spec PyProof.Rows
inductive EqD (K : PySem.W.Frag) (H : Hp) : Nat → V → V → Bool → Prop
  | flat {n : Nat} {x y : V} (fx : flatV x = true) (fy : flatV y = true) : EqD K H n x y (eqV x y)
  | same {n : Nat} {a : Addr} : EqD K H n (.ref a) (.ref a) true
  | lst {n : Nat} {a b : Addr} {xs ys : List V} {e : Nat → Bool} (ne : a ≠ b) (ha : SqL K H a xs) (hb : SqL K H b ys) (hl : xs.length = ys.length)
      (hi : ∀ j x y, xs[j]? = some x → ys[j]? = some y → EqD K H n x y (e j)) : EqD K H (n + 1) (.ref a) (.ref b) ((List.range xs.length).all e)
  | lstN {n : Nat} {a b : Addr} {xs ys : List V} (ne : a ≠ b) (ha : SqL K H a xs) (hb : SqL K H b ys) (hl : xs.length ≠ ys.length) : EqD K H (n + 1) (.ref a) (.ref b) false
  | tup {n : Nat} {a b : Addr} {xs ys : List V} {e : Nat → Bool} (ne : a ≠ b) (ha : SqT K H a xs) (hb : SqT K H b ys)
      (hi : ∀ j x y, xs[j]? = some x → ys[j]? = some y → EqD K H n x y (e j)) : EqD K H (n + 1) (.ref a) (.ref b) ((List.range (min xs.length ys.length)).all e && xs.length == ys.length)
theorem EqD.lstT {K : PySem.W.Frag} {H : Hp} {n : Nat} {a b : Addr} {xs ys : List V} (ne : a ≠ b) (ha : SqL K H a xs) (hb : SqL K H b ys) (hl : xs.length = ys.length) (hi : ∀ (j : Nat) (x y : V), xs[j]? = some x → ys[j]? = some y → EqD K H n x y true) : EqD K H (n + 1) (.ref a) (.ref b) true := by
  have h := EqD.lst (e := fun _ => true) ne ha hb hl hi
  have e (k : Nat) : (List.range k).all (fun _ => true) = true := List.all_eq_true.mpr fun _ _ => rfl
  rw [e] at h
  exact h
theorem EqD.tupT {K : PySem.W.Frag} {H : Hp} {n : Nat} {a b : Addr} {xs ys : List V} (ne : a ≠ b) (ha : SqT K H a xs) (hb : SqT K H b ys) (hl : xs.length = ys.length) (hi : ∀ (j : Nat) (x y : V), xs[j]? = some x → ys[j]? = some y → EqD K H n x y true) : EqD K H (n + 1) (.ref a) (.ref b) true := by
  have h := EqD.tup (e := fun _ => true) ne ha hb hi
  have e (k : Nat) : (List.range k).all (fun _ => true) = true := List.all_eq_true.mpr fun _ _ => rfl
  rw [e, hl] at h
  simpa using h
section
variable {X : Cx} {pins : List (Addr × Obj)} {σ : St} {H : Hp} {s : Shared}
theorem at_get {xs : List V} {us : List Value} (r : Vals xs us) {j : Nat} (h : j < us.toArray.size) : ∃ x, xs[j]? = some x ∧ RelV x us.toArray[j] := by
  have h' : j < us.length := by simpa using h
  have hx : j < xs.length := by rw [r.length]; exact h'
  obtain ⟨u, eu, ru⟩ := r.get (List.getElem?_eq_getElem hx)
  rw [List.getElem?_eq_getElem h'] at eu
  exact ⟨_, List.getElem?_eq_getElem hx, by
    have : us.toArray[j] = u := by simpa using eu
    rw [this]; exact ru⟩
theorem EqD.at_ {n : Nat} {x y : V} {b : Bool} (d : EqD X.K H n x y b) : ∀ {A : Around} {u v : Value}, A.units + n < cLine → Inv X pins σ H s → RelV x u → RelV y v → SeqAt.EqAt A s u v b := by
  induction d with
  | flat fx fy => intro A u v _ I ru rv; exact eqAt_V ru rv fx fy
  | same =>
    intro A u v _ I ru rv
    cases (show u = Value.ref _ from ru)
    cases (show v = Value.ref _ from rv)
    exact SeqAt.EqAt.same _
  | @lst n a b xs ys e ne ha hb hl hi ih =>
    intro A u v hu I ru rv
    cases (show u = Value.ref _ from ru)
    cases (show v = Value.ref _ from rv)
    obtain ⟨us, r, pl, _⟩ := I.list ha
    obtain ⟨vs, r', pl', _⟩ := I.list hb
    have l1 := r.length
    have l2 := r'.length
    have z := SeqAt.RcAt.lists (A := A) (e := e) pl.isList pl'.isList (by simp; omega) (by omega) fun j h1 h2 => by
      obtain ⟨x, ex, rx⟩ := at_get r h1
      obtain ⟨y, ey, ry⟩ := at_get r' h2
      exact ih j x y ex ey (A := A.in1) (by show A.units + 1 + n < cLine; omega) I rx ry
    rw [show us.toArray.size = xs.length by simp; omega] at z
    exact .of_refs ne z
  | @lstN n a b xs ys ne ha hb hl =>
    intro A u v hu I ru rv
    cases (show u = Value.ref _ from ru)
    cases (show v = Value.ref _ from rv)
    obtain ⟨us, r, pl, _⟩ := I.list ha
    obtain ⟨vs, r', pl', _⟩ := I.list hb
    have l1 := r.length
    have l2 := r'.length
    exact .of_refs ne (SeqAt.RcAt.lists_lengths pl.isList pl'.isList (by simp; omega) (by omega))
  | @tup n a b xs ys e ne ha hb hi ih =>
    intro A u v hu I ru rv
    cases (show u = Value.ref _ from ru)
    cases (show v = Value.ref _ from rv)
    obtain ⟨us, r, pl, _⟩ := I.tuple ha
    obtain ⟨vs, r', pl', _⟩ := I.tuple hb
    have l1 := r.length
    have l2 := r'.length
    have z := SeqAt.RcAt.tuples (A := A) (e := e) pl pl' (by omega) fun j h1 h2 => by
      obtain ⟨x, ex, rx⟩ := at_get r h1
      obtain ⟨y, ey, ry⟩ := at_get r' h2
      exact ih j x y ex ey (A := A.in1) (by show A.units + 1 + n < cLine; omega) I rx ry
    rw [show us.toArray.size = xs.length by simp; omega, show vs.toArray.size = ys.length by simp; omega] at z
    exact .of_refs ne z
noncomputable def rEqD (K : PySem.W.Frag) (neg : Bool) : R2 := fun x y H Q => ∃ n b, n ≤ 100 ∧ EqD K H n x y b ∧ (∃ a c, x = .ref a ∧ y = .ref c ∧ a ≠ c) ∧ Q (.bl (if neg then !b else b)) H
theorem op_eqD (hu : X.A.units + 100 < cLine) : OpR X (compareOp .Eq) (rEqD X.K false) := by
  intro pins s σ H x y u v Q I ru rv h
  obtain ⟨n, b, hn, d, ⟨a, c, rfl, rfl, hne⟩, q⟩ := h
  cases (show u = Value.ref _ from ru)
  cases (show v = Value.ref _ from rv)
  cases d with
  | flat fx _ => cases fx
  | same => exact absurd rfl hne
  | @lst n _ _ xs ys e ne ha hb hl hi =>
    obtain ⟨us, r, pl, _⟩ := I.list ha
    obtain ⟨vs, r', pl', _⟩ := I.list hb
    have l1 := r.length
    have l2 := r'.length
    refine SeqAt.eq_listAt (e := e) pl.isList pl'.isList (by simp; omega) (by omega) (fun j h1 h2 => ?_) ⟨.bl _, H, I, rfl, ?_⟩
    · obtain ⟨x, ex, rx⟩ := at_get r h1
      obtain ⟨y, ey, ry⟩ := at_get r' h2
      exact (hi j x y ex ey).at_ (A := X.A.in1) (by show X.A.units + 1 + n < cLine; omega) I rx ry
    · rw [show us.toArray.size = xs.length by simp; omega]; exact q
  | @lstN n _ _ xs ys ne ha hb hl =>
    obtain ⟨us, r, pl, _⟩ := I.list ha
    obtain ⟨vs, r', pl', _⟩ := I.list hb
    have l1 := r.length
    have l2 := r'.length
    exact SeqAt.eq_list_lengthsAt pl.isList pl'.isList (by simp; omega) (by omega) ⟨.bl false, H, I, rfl, q⟩
  | @tup n _ _ xs ys e ne ha hb hi =>
    obtain ⟨us, r, pl, _⟩ := I.tuple ha
    obtain ⟨vs, r', pl', _⟩ := I.tuple hb
    have l1 := r.length
    have l2 := r'.length
    refine SeqAt.eq_tupleAt (e := e) pl pl' (by omega) (fun j h1 h2 => ?_) ⟨.bl _, H, I, rfl, ?_⟩
    · obtain ⟨x, ex, rx⟩ := at_get r h1
      obtain ⟨y, ey, ry⟩ := at_get r' h2
      exact (hi j x y ex ey).at_ (A := X.A.in1) (by show X.A.units + 1 + n < cLine; omega) I rx ry
    · rw [show us.toArray.size = xs.length by simp; omega, show vs.toArray.size = ys.length by simp; omega]; exact q
theorem op_neD (hu : X.A.units + 100 < cLine) : OpR X (compareOp .NotEq) (rEqD X.K true) := by
  intro pins s σ H x y u v Q I ru rv h
  obtain ⟨n, b, hn, d, ⟨a, c, rfl, rfl, hne⟩, q⟩ := h
  cases (show u = Value.ref _ from ru)
  cases (show v = Value.ref _ from rv)
  cases d with
  | flat fx _ => cases fx
  | same => exact absurd rfl hne
  | @lst n _ _ xs ys e ne ha hb hl hi =>
    obtain ⟨us, r, pl, _⟩ := I.list ha
    obtain ⟨vs, r', pl', _⟩ := I.list hb
    have l1 := r.length
    have l2 := r'.length
    refine SeqAt.RcNeAt.lists (e := e) pl.isList pl'.isList (by simp; omega) (by omega) (fun j h1 h2 => ?_) _ _ _ _ ⟨.bl _, H, I, rfl, ?_⟩
    · obtain ⟨x, ex, rx⟩ := at_get r h1
      obtain ⟨y, ey, ry⟩ := at_get r' h2
      exact (hi j x y ex ey).at_ (A := X.A.in1) (by show X.A.units + 1 + n < cLine; omega) I rx ry
    · rw [show us.toArray.size = xs.length by simp; omega]; exact q
  | @lstN n _ _ xs ys ne ha hb hl =>
    obtain ⟨us, r, pl, _⟩ := I.list ha
    obtain ⟨vs, r', pl', _⟩ := I.list hb
    have l1 := r.length
    have l2 := r'.length
    exact SeqAt.RcNeAt.lists_lengths pl.isList pl'.isList (by simp; omega) (by omega) _ _ _ _ ⟨.bl true, H, I, rfl, q⟩
  | @tup n _ _ xs ys e ne ha hb hi =>
    obtain ⟨us, r, pl, _⟩ := I.tuple ha
    obtain ⟨vs, r', pl', _⟩ := I.tuple hb
    have l1 := r.length
    have l2 := r'.length
    refine SeqAt.RcNeAt.tuples (e := e) pl pl' (by omega) (fun j h1 h2 => ?_) _ _ _ _ ⟨.bl _, H, I, rfl, ?_⟩
    · obtain ⟨x, ex, rx⟩ := at_get r h1
      obtain ⟨y, ey, ry⟩ := at_get r' h2
      exact (hi j x y ex ey).at_ (A := X.A.in1) (by show X.A.units + 1 + n < cLine; omega) I rx ry
    · rw [show us.toArray.size = xs.length by simp; omega, show vs.toArray.size = ys.length by simp; omega]; exact q
theorem hu100 {A : Around} {k : Nat} (hr : Room k A) : A.units + 100 < cLine := Nat.lt_of_le_of_lt (by omega) hr.un
end
end L2
set_option Elab.async false
set_option linter.all false
set_option maxRecDepth 100000
set_option maxHeartbeats 4000000
namespace L2
open PySem PySem.Spec PyProof.Rows
section
variable {X : Cx}
end
section
variable {X : Cx} {pins : List (Addr × Obj)} {σ : St} {H : Hp} {s : Shared} {h' : Heap}
theorem Inv.trackO {e : Addr} {o' : HO} (I : Inv X pins σ H s) (o : Ours X pins H e) (new : ObjOk X.prog X.w (upd H e o') s.heap e o') : Inv X pins σ (upd H e o') s := by
  have ne : ∀ b u, H b = some u → b ≠ e := fun b u q z => by rw [z, o.free] at q; cases q
  refine ⟨I.ok, I.os, I.bare, ⟨I.base.keep, I.base.slot, fun b ob q n hx => ?_, I.base.there, fun b xs q => ?_, fun b ob u q => ?_, fun b ps q => ?_⟩, I.loc, I.cell, ?_, fun x c q => ?_, fun p hp => ?_, fun b u q => ?_, I.len⟩
  · rw [upd_ne (fun z => by rw [z, o.new] at q; cases q)]; exact I.base.free b ob q n hx
  · have := I.base.tups b xs q
    rw [upd_ne (ne _ _ this)]; exact this
  · have := I.base.frzs b ob u q
    rw [upd_ne (ne _ _ this)]; exact this
  · obtain ⟨m, z⟩ := I.base.tbls b ps q
    exact ⟨m, by rw [upd_ne (ne _ _ z)]; exact z⟩
  · rw [upd_ne (Ne.symm o.loc)]; exact I.free
  · rw [upd_ne (o.cell x c q)]; exact I.freeC x c q
  · obtain ⟨z, n, r⟩ := I.pin p hp
    exact ⟨z, by rw [upd_ne (o.pin p hp)]; exact n, r⟩
  · by_cases z : b = e
    · subst z; rw [upd_same] at q; cases q; exact new
    · rw [upd_ne z] at q
      exact (I.hok b u q).stay (fun _ _ _ x => x) (fun c x => by rw [upd_ne (ne _ _ x)]; exact x) fun c xs x => by rw [upd_ne (ne _ _ x)]; exact x
theorem Inv.turned2 {t' : Nat} {e it : Addr} (I : Inv X pins σ H s) (k : ∀ b o, b ≠ e → b ≠ it → s.heap.get? b = some o → h'.get? b = some o) (he : ∃ o, h'.get? e = some o) (hi : ∃ o, h'.get? it = some o) (f1 : FpOk X pins H e) (f2 : FpOk X pins H it) :
    Inv X pins σ H { s with heap := h', toks := t' } := by
  have nit : ∀ b u, H b = some u → b ≠ e ∧ b ≠ it := fun b u q => ⟨fun z => (by rw [z, f1.1] at q; cases q), fun z => (by rw [z, f2.1] at q; cases q)⟩
  have sp : ∀ b, b ∉ [e, it] → b ≠ e ∧ b ≠ it := fun b hb => ⟨fun z => hb (by simp [z]), fun z => hb (by simp [z])⟩
  refine I.step (g' := s.gens) (d' := s.drawn) (ch := [e, it]) (fun b hb => ?_) (fun b o _ _ hc q _ => k b o (sp b hc).1 (sp b hc).2 q) (fun b o _ _ hc q _ => ⟨o.slots, k b o (sp b hc).1 (sp b hc).2 q⟩) (fun _ _ _ _ n => n)
    (fun b o hc q => ⟨o, k b o (sp b hc).1 (sp b hc).2 q⟩) (fun _ _ q => q) (fun _ _ _ q => q) (fun b ps q => ⟨#[], by rw [q]; simp⟩) (fun m hm => ?_) (fun b u q => ?_) I.bare
  · rcases List.mem_cons.mp hb with z | z
    · rw [z]; exact ⟨f1.2.2.2.1, f1.2.1, f1.2.2.2.2.1, f1.2.2.2.2.2⟩
    · rw [show b = it by simpa using z]; exact ⟨f2.2.2.2.1, f2.2.1, f2.2.2.2.2.1, f2.2.2.2.2.2⟩
  · obtain ⟨o, es, ep, ho, r⟩ := hm
    exact ⟨o, es, ep, k _ o (Ne.symm f1.2.1) (Ne.symm f2.2.1) ho, r⟩
  · refine (I.hok b u q).stay (fun c v hc q' => ?_) (fun _ q => q) fun _ _ q => q
    have : c ≠ e ∧ c ≠ it := by
      rcases hc with z | z
      · rw [z]; exact nit b u q
      · exact nit c _ z
    exact k c v this.1 this.2 q'
end
noncomputable def Ite (K : PySem.W.Frag) (l : Addr) : It :=
  ⟨fun i H => ∃ xs x, SqL K H l xs ∧ xs[i]? = some x, fun i H v H' => ∃ T x, H T = none ∧ (∀ xs, SqL K H l xs → xs[i]? = some x) ∧ v = .ref T ∧ H' = upd H T (.tup [.int i, x]), fun i H => ∃ xs, SqL K H l xs ∧ xs.length ≤ i⟩
theorem turn_enum {P : Program} {w : World} {K : PySem.W.Frag} {elts : List Expr} {k0 : Nat} {tp : Pos} (e it l : Addr) (hei : e ≠ it) :
    Turn P w K (.Tuple elts k0 tp) (Ite K l) [e, it] e (fun i h => (∃ old, IsEnum h e it i old) ∧ h.IsListIter it l i) where
  mem := by simp
  obj := fun i h st b hb => by
    obtain ⟨⟨old, he⟩, o, ho, c, d⟩ := st
    rcases List.mem_cons.mp hb with z | z
    · rw [z]
      exact ⟨_, he, fun v z => by
        have z' : Data.fields _ = Data.cell v := z
        cases z'⟩
    · rw [show b = it by simpa using z]
      exact ⟨o, ho, fun v z => by rw [d] at z; cases z⟩
  keep := fun i h h' st k => ⟨let ⟨old, he⟩ := st.1; ⟨old, k e (by simp) _ he⟩, st.2.at fun o q => k it (by simp) o q⟩
  item := by
    intro X hP hw hK hc i pins s σ H E I hf st hg
    subst hP hw hK
    obtain ⟨xs, x, hq, hx⟩ := hg
    obtain ⟨its, rv, p, hz⟩ := I.list hq
    obtain ⟨u, hu, ru⟩ := rv.get hx
    obtain ⟨⟨old, he⟩, hit⟩ := st
    have fe := hf e (by simp)
    have fi := hf it (by simp)
    refine wpAny_pyNext_enum_item he hit p.isList (x := u) (by simpa using hu) hei fun h1 ho hit1 hT hsz hk => ?_
    refine ⟨_, rfl, wpAny_letOwnedTupleGo_enum ho fun h2 he2 sb => ?_⟩
    have nT : s.heap.get? s.heap.objs.size = none := Heap.get?_none_of_le (Nat.le_refl _)
    have elt : e < s.heap.objs.size := Heap.lt_size he
    have ilt : it < s.heap.objs.size := by obtain ⟨_, q, _⟩ := hit; exact Heap.lt_size q
    have hit2 : h2.IsListIter it l (i + 1) := hit1.at fun o q => (sb.2 it (Ne.symm hei)).trans q
    have k2 : ∀ b o, b ≠ e → b ≠ it → s.heap.get? b = some o → h2.get? b = some o := fun b o b1 b2 q => (sb.2 b b1).trans (hk b o b1 b2 q)
    have I2 : Inv X pins σ H { s with heap := h2, toks := s.toks + 1 } := I.turned2 k2 ⟨_, he2⟩ (by obtain ⟨o, q, _⟩ := hit2; exact ⟨o, q⟩) fe fi
    have oT : Ours X pins H s.heap.objs.size := by
      have fT : FpOk X pins H s.heap.objs.size := I.fpOk (Nat.le_refl _) (I.hok.fresh (Nat.le_refl _))
      exact ⟨Heap.get?_none_of_le I.sz, fT.1, fT.2.1, fT.2.2.2.2.1, fT.2.2.2.2.2⟩
    have hT2 : h2.get? s.heap.objs.size = some { cls := .type "tuple", data := .seq #[.int i s.toks, u] } := (sb.2 _ (Nat.ne_of_gt elt)).trans hT
    have I3 := I2.trackO (o' := .tup [.int i, x]) oT ⟨sz (n := 2) (by decide), [.int i s.toks, u], .cons ⟨_, rfl⟩ (.cons ru .nil), _, hT2, rfl, _, rfl⟩
    refine ⟨.ref s.heap.objs.size, _, I3, rfl, ⟨_, x, oT.free, fun ys hy => by rw [I.list_inj hy hq]; exact hx, rfl, rfl⟩, ⟨⟨_, by simpa using he2⟩, hit2⟩, fun b hb => ?_⟩
    rcases List.mem_cons.mp hb with z | z
    · rw [z, upd_ne (Nat.ne_of_lt elt)]; exact fe.1
    · rw [show b = it by simpa using z, upd_ne (Nat.ne_of_lt ilt)]; exact fi.1
  done := by
    intro X hP hw hK hc i pins s σ H E I hf st hg
    subst hP hw hK
    obtain ⟨xs, hq, hx⟩ := hg
    obtain ⟨its, rv, p, hz⟩ := I.list hq
    obtain ⟨⟨old, he⟩, hit⟩ := st
    have hl := rv.length
    obtain ⟨f0, f1, f2, f3, f4, f5⟩ := hf it (by simp)
    refine wpAny_pyNext_enum_end (I.ok.hd hc) he hit p.isList (Array.getElem?_eq_none (by simp; omega)) fun h2 eb => ⟨rfl, ?_⟩
    exact I.turned (t' := s.toks) (fun b o hb q => eb b o hb q) f0 f1 f3 f4 f5
  self := fun _ _ _ _ _ st h => by
    obtain ⟨⟨old, he⟩, _⟩ := st
    exact wpAny_pyIter_enum he h
noncomputable def iEnum (K : PySem.W.Frag) (ta : TA) : TI := fun σ H R => ta σ H fun vs H1 => ∃ l, vs = [.ref l] ∧ (∃ xs, SqL K H1 l xs) ∧ R (Ite K l) H1
section
variable {X : Cx}
theorem pi_enum {elts : List Expr} {k0 : Nat} {tp : Pos} {a : Expr} {ta : TA} {p pos : Pos} (hg : Gl X "enumerate") (hm : X.mg "enumerate" = none) (ha : PA X [a] ta) (hs : starEach [a] X.env = [(false, eval a X.env)] := by rfl) :
    PI X (.Tuple elts k0 tp) (.Call (.Name "enumerate" p) [a] [] pos) (iEnum X.K ta) := by
  intro pins s σ H R I h
  refine Call_ (ld_blt I hg hm boot_enumerate (PyProof.Rows.callWith_type1 (thn (ha pos pins s σ H _ I h) fun us s1 ⟨vs, H1, I1, r1, q1⟩ => ?_) hs rfl))
  obtain ⟨l, rfl, ⟨xs, hq⟩, q⟩ := q1
  obtain ⟨u, rfl, ru⟩ := vals1 r1
  cases ru
  obtain ⟨its, rv, pl, hz⟩ := I1.list hq
  refine call_enumerate_list pl.isList fun h2 he hit hsz hk => ?_
  have I2 : Inv X pins σ H1 { s1 with heap := h2 } := I1.kept (t' := s1.toks) hk
  refine wpAny_pyIter_enum he ⟨_, [s1.heap.objs.size + 1, s1.heap.objs.size], _, _, H1, rfl, I2, turn_enum _ s1.heap.objs.size l (Nat.succ_ne_self _), ⟨⟨_, he⟩, hit⟩, fun b hb => ?_, q⟩
  rcases List.mem_cons.mp hb with z | z
  · rw [z]; exact I1.fpOk (Nat.le_succ _) (I1.hok.fresh (Nat.le_succ _))
  · rw [show b = s1.heap.objs.size by simpa using z]; exact I1.fpOk (Nat.le_refl _) (I1.hok.fresh (Nat.le_refl _))
theorem for_enum {K : PySem.W.Frag} {l : Addr} {xs : List V} {g : TG} {tb : TS} {D : Ends} {σ : St} {H : Hp} (Pv : Nat → St → Hp → Prop) (h0 : Pv 0 σ H) (hl : ∀ i σ H, i ≤ xs.length → Pv i σ H → SqL K H l xs)
    (hs : ∀ i x σ H T, xs[i]? = some x → Pv i σ H → H T = none → g (.ref T) σ (upd H T (.tup [.int i, x])) fun σ2 H2 => tb { D with nx := Pv (i + 1), ct := Pv (i + 1), bk := D.nx } σ2 H2) (hd : ∀ σ H, Pv xs.length σ H → D.nx σ H) :
    ∃ W : Nat → Nat → St → Hp → Prop, (∃ m, W 0 m σ H) ∧ ∀ i m σ H, W i m σ H →
      ((Ite K l).stop i H ∧ D.nx σ H) ∨ ((Ite K l).go i H ∧ ∃ N : St → Hp → Prop, (∀ σ' H', N σ' H' → ∃ m', m' < m ∧ W (i + 1) m' σ' H') ∧ ∀ x H', (Ite K l).yld i H x H' → g x σ H' fun σ2 H2 => tb { D with nx := N, ct := N, bk := D.nx } σ2 H2) := by
  refine ⟨fun i m σ H => m = xs.length - i ∧ i ≤ xs.length ∧ Pv i σ H, ⟨xs.length, by simp, Nat.zero_le _, h0⟩, ?_⟩
  rintro i m σ H ⟨rfl, hi, p⟩
  have q := hl i σ H hi p
  by_cases hlt : i < xs.length
  · refine .inr ⟨⟨xs, _, q, List.getElem?_eq_getElem hlt⟩, Pv (i + 1), fun σ' H' p' => ⟨xs.length - (i + 1), by omega, rfl, hlt, p'⟩, fun v H' y => ?_⟩
    obtain ⟨T, x, nT, hx, rfl, rfl⟩ := y
    exact hs i x σ H T (hx xs q) p nT
  · have e : i = xs.length := by omega
    subst e
    exact .inl ⟨⟨xs, q, Nat.le_refl _⟩, hd σ H p⟩
end
end L2
set_option Elab.async false
set_option linter.all false
set_option maxRecDepth 100000
set_option maxHeartbeats 4000000
namespace Ck
open PySem L2
inductive Tree where
  | int (i : Int)
  | lst (l : List Tree)
  | tup (l : List Tree)
mutual
noncomputable def Rep (H : Hp) : Tree → V → Prop
  | .int i, v => v = .int i
  | .lst ts, v => ∃ a xs, v = .ref a ∧ H a = some (.lst xs) ∧ ts.length ≤ 1000000 ∧ RepL H ts xs
  | .tup ts, v => ∃ a xs, v = .ref a ∧ H a = some (.tup xs) ∧ ts.length ≤ 1000000 ∧ RepL H ts xs
noncomputable def RepL (H : Hp) : List Tree → List V → Prop
  | [], xs => xs = []
  | t :: ts, xs => ∃ v vs, xs = v :: vs ∧ Rep H t v ∧ RepL H ts vs
end
mutual
noncomputable def dep : Tree → Nat
  | .int _ => 0
  | .lst ts => depL ts + 1
  | .tup ts => depL ts + 1
noncomputable def depL : List Tree → Nat
  | [] => 0
  | t :: ts => max (dep t) (depL ts)
end
mutual
theorem Rep.same {H H' : Hp} (s : Same H H') : ∀ (t : Tree) {v : V}, Rep H t v → Rep H' t v
  | .int i, v, h => by unfold Rep at h ⊢; exact h
  | .lst ts, v, h => by
    unfold Rep at h ⊢
    obtain ⟨a, xs, e, ha, hl, r⟩ := h
    exact ⟨a, xs, e, s _ _ ha, hl, RepL.same s ts r⟩
  | .tup ts, v, h => by
    unfold Rep at h ⊢
    obtain ⟨a, xs, e, ha, hl, r⟩ := h
    exact ⟨a, xs, e, s _ _ ha, hl, RepL.same s ts r⟩
theorem RepL.same {H H' : Hp} (s : Same H H') : ∀ (ts : List Tree) {xs : List V}, RepL H ts xs → RepL H' ts xs
  | [], xs, h => by unfold RepL at h ⊢; exact h
  | t :: ts, xs, h => by
    unfold RepL at h ⊢
    obtain ⟨v, vs, e, r, rs⟩ := h
    exact ⟨v, vs, e, Rep.same s t r, RepL.same s ts rs⟩
end
noncomputable abbrev Pair := Int × Int
end Ck
namespace L2
open PySem
theorem kit_tuple_tuple {K : PySem.W.Frag} : PySem.W.kitOne K (.type "tuple") (.type "tuple") = some true := by rfl
end L2
set_option Elab.async false
set_option linter.all false
set_option maxRecDepth 100000
set_option maxHeartbeats 4000000
namespace Ck
open PySem L2
theorem cutV_from (xs : List V) (k : Nat) : cutV xs (some (k : Int)) none = xs.drop k := by
  unfold cutV
  rw [HT.sIx_nat, HT.sIx_none]
  rw [List.take_of_length_le (by rw [List.length_drop]; omega)]
  by_cases h : k ≤ xs.length
  · rw [show min k xs.length = k by omega]
  · rw [List.drop_eq_nil_of_le (show xs.length ≤ k by omega), List.drop_eq_nil_of_le (by omega)]
theorem cutV_to (xs : List V) (k : Nat) : cutV xs none (some (k : Int)) = xs.take k := by
  unfold cutV
  rw [HT.sIx_nat, HT.sIx_none, List.drop_zero, Nat.sub_zero]
  by_cases h : k ≤ xs.length
  · rw [show min k xs.length = k by omega]
  · rw [List.take_of_length_le (by omega), List.take_of_length_le (by omega)]
end Ck
set_option Elab.async false
set_option linter.all false
set_option maxRecDepth 100000
set_option maxHeartbeats 4000000
namespace L2
open PySem PySem.Spec PyProof.Rows PySem.SeqAt
section
variable {X : Cx}
theorem comp_walk {K : PySem.W.Frag} {a : Addr} {xs : List V} {g : TG} {tt : TT} {te : TE} {σ0 : St} {H : Hp} {D : Addr} {Q : VK} (Pv : Nat → List V → Hp → Prop) (hz : xs.length ≤ sizeLine)
    (h0 : Pv 0 [] (upd H D (.lst []))) (hl : ∀ i ys H', i ≤ xs.length → Pv i ys H' → SqL K H' a xs ∧ ys.length ≤ i)
    (hs : ∀ (i : Nat) (x : V) (ys : List V) (H' : Hp) (R : VK) (R0 : Hp → Prop), xs[i]? = some x → Pv i ys H' → (∀ v H3, H3 D = some (.lst ys) → Pv (i + 1) (ys ++ [v]) (upd H3 D (.lst (ys ++ [v]))) → R v H3) → (∀ H3, Pv (i + 1) ys H3 → R0 H3) →
      g x σ0 H' fun σ2 H2 => Ext σ0 σ2 ∧ tt σ2 H2 fun b H3 => if b = true then te σ2 H3 R else R0 H3)
    (hq : ∀ ys H', Pv xs.length ys H' → Q (.ref D) H') :
    CompW (Itl K a) g tt te σ0 D Q H := by
  refine ⟨fun i m ys H' => m = xs.length - i ∧ i ≤ xs.length ∧ Pv i ys H', ⟨xs.length, by simp, Nat.zero_le _, h0⟩, ?_⟩
  rintro i m ys H' ⟨rfl, hi, p⟩
  obtain ⟨sq, ly⟩ := hl i ys H' hi p
  by_cases hlt : i < xs.length
  · refine .inr ⟨⟨xs, xs[i], sq, by simp [hlt]⟩, fun x H'' y => ?_⟩
    obtain ⟨e, y⟩ := y
    subst e
    have ex := y xs sq
    refine hs i x ys _ _ _ ex p (fun v H3 hD p' => ⟨hD, by omega, xs.length - (i + 1), by omega, rfl, hlt, p'⟩) fun H3 p' => ⟨xs.length - (i + 1), by omega, rfl, hlt, p'⟩
  · have e : i = xs.length := by omega
    subst e
    exact .inl ⟨⟨xs, sq, Nat.le_refl _⟩, hq ys H' p⟩
end
end L2
namespace Ck
open PySem L2
theorem cutV_both (xs : List V) (a b : Nat) (ha : a ≤ b) : cutV xs (some (a : Int)) (some (b : Int)) = (xs.drop a).take (b - a) := by
  unfold cutV
  rw [HT.sIx_nat, HT.sIx_nat]
  by_cases h : a ≤ xs.length
  · rw [show min a xs.length = a by omega]
    by_cases h2 : b ≤ xs.length
    · rw [show min b xs.length = b by omega]
    · rw [show min b xs.length = xs.length by omega, List.take_of_length_le (by rw [List.length_drop]; omega), List.take_of_length_le (by rw [List.length_drop]; omega)]
  · rw [List.drop_eq_nil_of_le (show xs.length ≤ a by omega), List.drop_eq_nil_of_le (by omega)]
    simp
theorem map_up_down (d : Int) (ns : List Int) : (ns.map (· + d)).map (· + -d) = ns := by
  rw [List.map_map]
  refine (List.map_congr_left fun y _ => ?_).trans (List.map_id _)
  show y + d + -d = y
  omega
end Ck
namespace Ck
open PySem L2
structure Flds (fs : List (Str × V)) (w : Str) (l : Int) : Prop where
  word : fs.lookup ("word" : Str) = some (.str w)
  least : fs.lookup ("least" : Str) = some (.int l)
  no : ∀ m : Str, m ≠ ("word" : Str) → m ≠ ("least" : Str) → fs.lookup m = none
theorem flds_mk (w : Str) (l : Int) : Flds (putF ("least" : Str) (.int l) (putF ("word" : Str) (.str w) [])) w l :=
  ⟨by rw [lookup_putF, if_neg (by decide), lookup_putF, if_pos rfl], by rw [lookup_putF, if_pos rfl], fun m a b => by rw [lookup_putF, if_neg b, lookup_putF, if_neg a]; rfl⟩
noncomputable def up (d : Int) (p : Pair) : Pair := (p.1 + d, p.2 + d)
end Ck
namespace Ck
open PySem L2
theorem flat_ints (ns : List Int) : (ns.map V.int).all flatV = true := by
  rw [List.all_eq_true]
  intro x hx
  obtain ⟨n, _, rfl⟩ := List.mem_map.mp hx
  rfl
end Ck
namespace Ck
open PySem L2
end Ck
set_option Elab.async false
set_option linter.all false
set_option maxRecDepth 100000
set_option maxHeartbeats 4000000
namespace Ck
open PySem L2
noncomputable def stF : Nat → Int → List Int → Bool
  | _, _, [] => true
  | k, a, n :: ns => if n < a ∨ (k : Int) < n then false else stF (k + 1) n ns
theorem stF_nil (k : Nat) (a : Int) : stF k a [] = true := rfl
theorem stF_bad {k : Nat} {a n : Int} {ns : List Int} (h : n < a ∨ (k : Int) < n) : stF k a (n :: ns) = false := by unfold stF; rw [if_pos h]
theorem stF_go {k : Nat} {a n : Int} {ns : List Int} (h : ¬ (n < a ∨ (k : Int) < n)) : stF k a (n :: ns) = stF (k + 1) n ns := by conv => lhs; unfold stF; rw [if_neg h]
inductive St : List Int → Int → Prop
  | nil : St [] 0
  | snoc {rs : List Int} {a n : Int} : St rs a → a ≤ n → n ≤ (rs.length : Int) → St (rs ++ [n]) n
theorem St.run {rs : List Int} {a : Int} (h : St rs a) : ∀ ys, stF 0 0 (rs ++ ys) = stF rs.length a ys := by
  induction h with
  | nil => intro ys; rfl
  | @snoc rs a n _ h1 h2 ih =>
    intro ys
    rw [List.append_assoc, ih]
    show stF rs.length a (n :: ys) = _
    rw [stF_go (by omega)]
    simp
theorem St.ok {rs : List Int} {a : Int} (h : St rs a) : stF 0 0 rs = true := by
  have := h.run []
  rw [List.append_nil] at this
  exact this
theorem St.low {rs : List Int} {a : Int} (h : St rs a) : 0 ≤ a := by
  induction h with
  | nil => exact Int.le_refl _
  | snoc _ h1 _ ih => omega
theorem St.top {rs : List Int} {a : Int} (h : St rs a) : a ≤ (rs.length : Int) := by
  induction h with
  | nil => exact Int.le_refl _
  | snoc _ h1 h2 ih => rw [List.length_append]; simp; omega
theorem St.get {rs : List Int} {a : Int} (h : St rs a) : ∀ (i : Nat) (x : Int), rs[i]? = some x → 0 ≤ x ∧ x ≤ (i : Int) := by
  induction h with
  | nil => intro i x e; cases e
  | @snoc rs a n hs h1 h2 ih =>
    intro i x e
    have := hs.low
    by_cases hi : i < rs.length
    · rw [List.getElem?_append_left hi] at e; exact ih i x e
    · rw [List.getElem?_append_right (by omega)] at e
      have hl := (List.getElem?_eq_some_iff.mp e).1
      have h0 : i - rs.length = 0 := by simpa using hl
      rw [h0] at e
      have : n = x := by simpa using e
      omega
noncomputable def joinS (ps qs : List Int) : List Int := [0] ++ ps ++ qs.map (· + ((ps.length : Int) + 1))
theorem joinS_len (ps qs : List Int) : (joinS ps qs).length = ps.length + qs.length + 1 := by unfold joinS; simp <;> omega
theorem joinS_left {ps qs : List Int} {a : Int} (h : St ps a) {j : Nat} (h1 : 1 ≤ j) (h2 : j ≤ ps.length) : (joinS ps qs).getD j 0 ≠ (j : Int) := by
  obtain ⟨i, rfl⟩ : ∃ i, j = i + 1 := ⟨j - 1, by omega⟩
  have hi : i < ps.length := by omega
  have e : (joinS ps qs)[i + 1]? = some ps[i] := by
    unfold joinS
    rw [List.append_assoc, List.getElem?_append_right (by simp)]
    show (ps ++ _)[i + 1 - 1]? = _
    rw [Nat.add_sub_cancel, List.getElem?_append_left hi, List.getElem?_eq_getElem hi]
  have := h.get i ps[i] (List.getElem?_eq_getElem hi)
  rw [List.getD_eq_getElem?_getD, e]
  show ps[i] ≠ ((i + 1 : Nat) : Int)
  omega
theorem joinS_right {ps qs : List Int} {b : Int} (h : St qs b) (hq : 0 < qs.length) : (joinS ps qs).getD (ps.length + 1) 0 = ((ps.length + 1 : Nat) : Int) := by
  have z := h.get 0 qs[0] (List.getElem?_eq_getElem hq)
  have e : (joinS ps qs)[ps.length + 1]? = some (qs[0] + ((ps.length : Int) + 1)) := by
    unfold joinS
    rw [List.getElem?_append_right (by simp)]
    have e1 : ps.length + 1 - ([0] ++ ps).length = 0 := by simp
    rw [e1, List.getElem?_map, List.getElem?_eq_getElem hq]
    rfl
  rw [List.getD_eq_getElem?_getD, e]
  show qs[0] + ((ps.length : Int) + 1) = _
  omega
theorem get_drop {ns : List Int} {i : Nat} (h : i < ns.length) : ns.drop i = ns.getD i 0 :: ns.drop (i + 1) := by
  rw [List.drop_eq_getElem_cons h, List.getD_eq_getElem?_getD, List.getElem?_eq_getElem h]
  rfl
end Ck
set_option Elab.async false
set_option linter.all false
set_option maxRecDepth 100000
set_option maxHeartbeats 4000000
namespace Ck
open PySem L2
theorem clo_app : ∀ (a : List Nat) (j k : Nat) (b : List Nat), clo j a = true → clo (k + j) (a ++ b) = clo k b
  | [], j, k, b, h => by
    rw [clo_nil] at h
    have : j = 0 := by simpa using h
    subst this
    rfl
  | c :: a, j, k, b, h => by
    by_cases h1 : c = 40
    · subst h1
      rw [clo_up] at h
      rw [List.cons_append, clo_up]
      exact clo_app a (j + 1) k b h
    · by_cases h2 : c = 41
      · subst h2
        cases j with
        | zero => rw [clo_under] at h; cases h
        | succ j =>
          rw [clo_down] at h
          rw [List.cons_append]
          show clo (k + j + 1) (41 :: _) = _
          rw [clo_down]
          exact clo_app a j k b h
      · rw [clo_other h1 h2] at h; cases h
theorem clo_join {a b : List Nat} (ha : clo 0 a = true) (hb : clo 0 b = true) : clo 0 (40 :: (a ++ 41 :: b)) = true := by
  rw [clo_up, clo_app a 0 1 _ ha, clo_down]
  exact hb
theorem clo_cut : ∀ (t : List Nat) (d : Nat), clo (d + 1) t = true → ∃ a b, t = a ++ 41 :: b ∧ clo d a = true ∧ clo 0 b = true
  | [], d, h => by rw [clo_nil] at h; cases h
  | c :: t, d, h => by
    by_cases h1 : c = 40
    · subst h1
      rw [clo_up] at h
      obtain ⟨a, b, e, ha, hb⟩ := clo_cut t (d + 1) h
      exact ⟨40 :: a, b, by rw [e]; rfl, by rw [clo_up]; exact ha, hb⟩
    · by_cases h2 : c = 41
      · subst h2
        rw [clo_down] at h
        cases d with
        | zero => exact ⟨[], t, rfl, by rw [clo_nil]; rfl, h⟩
        | succ d =>
          obtain ⟨a, b, e, ha, hb⟩ := clo_cut t d h
          exact ⟨41 :: a, b, by rw [e]; rfl, by rw [clo_down]; exact ha, hb⟩
      · rw [clo_other h1 h2] at h; cases h
theorem clo_parts {t : List Nat} (h : clo 0 t = true) (hne : t ≠ []) : ∃ a b, t = 40 :: (a ++ 41 :: b) ∧ clo 0 a = true ∧ clo 0 b = true := by
  cases t with
  | nil => exact absurd rfl hne
  | cons c t =>
    by_cases h1 : c = 40
    · subst h1
      rw [clo_up] at h
      obtain ⟨a, b, e, ha, hb⟩ := clo_cut t 0 h
      exact ⟨a, b, by rw [e], ha, hb⟩
    · by_cases h2 : c = 41
      · subst h2; rw [clo_under] at h; cases h
      · rw [clo_other h1 h2] at h; cases h
theorem clo_step {a : List Nat} {p d : Nat} (hp : p < a.length) (h : clo d (a.drop p) = true) : (a[p] = 40 ∧ clo (d + 1) (a.drop (p + 1)) = true) ∨ (a[p] = 41 ∧ ∃ e, d = e + 1 ∧ clo e (a.drop (p + 1)) = true) := by
  rw [List.drop_eq_getElem_cons hp] at h
  by_cases h1 : a[p] = 40
  · rw [h1, clo_up] at h; exact .inl ⟨h1, h⟩
  · by_cases h2 : a[p] = 41
    · rw [h2] at h
      cases d with
      | zero => rw [clo_under] at h; cases h
      | succ d => rw [clo_down] at h; exact .inr ⟨h2, d, rfl, h⟩
    · rw [clo_other h1 h2] at h; cases h
theorem clo_end {a : List Nat} {p d : Nat} (hp : a.length ≤ p) (h : clo d (a.drop p) = true) : d = 0 := by
  rw [List.drop_eq_nil_of_le hp, clo_nil] at h
  simpa using h
theorem slice_mid {x : Str} {p q : Int} (h0 : 0 ≤ p) (h1 : p ≤ q) (h2 : q ≤ x.length) : (Txt.slice x (some p) (some q)).cps.toList = (x.cps.toList.drop p.toNat).take (q.toNat - p.toNat) := by
  rw [slice_codes]
  have e1 : ix x.length 0 (some p) = p.toNat := by show (if p < 0 then _ else _) = _; rw [if_neg (by omega)]; omega
  have e2 : ix x.length x.length (some q) = q.toNat := by show (if q < 0 then _ else _) = _; rw [if_neg (by omega)]; omega
  rw [e1, e2]
theorem part_len {x : Str} {a b : List Nat} (h : x.cps.toList = 40 :: (a ++ 41 :: b)) : x.length = a.length + b.length + 2 := by
  rw [← cps_len, h]
  simp
  omega
theorem part_left {x : Str} {a b : List Nat} (h : x.cps.toList = 40 :: (a ++ 41 :: b)) : (Txt.slice x (some 1) (some ((a.length : Int) + 1))).cps.toList = a := by
  have l := part_len h
  rw [slice_mid (by decide) (by omega) (by omega), h, show ((a.length : Int) + 1).toNat - (1 : Int).toNat = a.length by omega, show (1 : Int).toNat = 1 from rfl, List.drop_succ_cons, List.drop_zero, List.take_left' rfl]
theorem part_right {x : Str} {a b : List Nat} (h : x.cps.toList = 40 :: (a ++ 41 :: b)) : (Txt.slice x (some ((a.length : Int) + 1 + 1)) none).cps.toList = b := by
  rw [slice_from (by omega), h, show ((a.length : Int) + 1 + 1).toNat = a.length + 1 + 1 by omega, List.drop_succ_cons]
  have e : a ++ 41 :: b = (a ++ [41]) ++ b := by simp
  rw [e, List.drop_left' (by simp)]
theorem clo_ends {t : List Nat} (h : clo 0 t = true) : t.length = 2 * t.count 40 := by
  obtain ⟨u, g⟩ := good_of_clo t 0 h
  have l := g.length
  have c : t.count 40 = u := by
    obtain ⟨h', u', bg, _, e⟩ := prefix_beg (n := u) (by simpa using g) t.length (Nat.le_refl _)
    have gd : Good u' (u' + h') (t.drop t.length) := by assumption
    rw [List.drop_length] at gd
    have := gd.length
    rw [List.take_length] at e
    simp at this
    omega
  omega
end Ck
namespace Ck
open PySem L2
end Ck
set_option Elab.async false
set_option linter.all false
set_option maxRecDepth 100000
set_option maxHeartbeats 4000000
namespace L2
open PySem PySem.Spec PyProof.Rows
section
variable {X : Cx}
end
end L2
namespace Ck
open PySem L2
end Ck
set_option Elab.async false
set_option linter.all false
set_option maxRecDepth 100000
set_option maxHeartbeats 4000000
namespace Ck
open PySem L2
end Ck
set_option Elab.async false
set_option linter.all false
set_option maxRecDepth 100000
set_option maxHeartbeats 4000000
namespace Ck
open PySem L2
end Ck
namespace Ck
open PySem L2
noncomputable def steps (ws : List Int) : List Int := (List.range (ws.length - 1)).map fun (i : Nat) => (ws.getD (i + 1) 0 - ws.getD i 0) % ((ws.length : Int) + 1)
end Ck
set_option Elab.async false
set_option linter.all false
set_option maxRecDepth 100000
set_option maxHeartbeats 4000000
namespace L2
open PySem PySem.W
end L2
namespace Ck
open PySem L2
theorem ne_int {a b : Int} (h : a ≠ b) : ¬ V.int a = V.int b := fun z => h (by injection z)
end Ck
namespace Ck
end Ck
set_option Elab.async false
set_option linter.all false
set_option maxRecDepth 100000
set_option maxHeartbeats 4000000
namespace Ck
open PySem L2
noncomputable def stp (es : List Int) (r : Int) : Int := if 0 < r then es.getD (r - 1).toNat 0 else r
end Ck
namespace Ck
open PySem L2
theorem dec_int (a b : Int) : decide (V.int a = V.int b) = decide (a = b) := by
  by_cases h : a = b
  · rw [decide_eq_true h, decide_eq_true (by rw [h])]
  · rw [decide_eq_false h, decide_eq_false (ne_int h)]
end Ck
namespace Ck
end Ck
namespace Ck
open PySem L2
end Ck
set_option Elab.async false
set_option linter.all false
set_option maxRecDepth 100000
set_option maxHeartbeats 4000000
namespace L2
open PySem PySem.Spec PyProof.Rows
section
variable {X : Cx}
end
end L2
namespace L2
open PySem PySem.Spec PyProof.Rows
end L2
namespace L2
open PySem PySem.Spec PyProof.Rows
end L2
set_option Elab.async false
set_option linter.all false
set_option maxRecDepth 100000
set_option maxHeartbeats 4000000
namespace Ck
open PySem L2
noncomputable def rgI (n : Nat) : List Int := (List.range n).map fun (k : Nat) => (k : Int)
noncomputable def stk (row : List Int) (k p : Nat) : List Int := (rgI p).filter fun m => !decide (m ∈ row.take k)
end Ck
namespace Ck
open PySem L2
end Ck
set_option Elab.async false
set_option linter.all false
set_option maxRecDepth 100000
set_option maxHeartbeats 4000000
namespace Ck
open PySem L2
noncomputable def knots (n : Nat) : List Int := (List.range n).map fun (k : Nat) => 1 + (k : Int)
end Ck
namespace Ck
end Ck
namespace Ck
end Ck
set_option Elab.async false
set_option linter.all false
set_option maxRecDepth 100000
set_option maxHeartbeats 4000000
namespace L2
open PySem PySem.Spec PyProof.Rows PySem.SeqAt
section
variable {X : Cx}
end
end L2
namespace Ck
open PySem L2
end Ck
namespace L2
open PySem
end L2
namespace Ck
open PySem L2
end Ck
set_option Elab.async false
set_option linter.all false
set_option maxRecDepth 100000
set_option maxHeartbeats 4000000
namespace L2
open PySem PySem.Spec PyProof.Rows
section
variable {X : Cx}
noncomputable def tEit (t1 t2 : TE) : TE := fun σ H Q => t1 σ H Q ∨ t2 σ H Q
theorem pe_eit {e : Expr} {t1 t2 : TE} (h1 : PE X e t1) (h2 : PE X e t2) : PE X e (tEit t1 t2) := fun pins s σ H Q I h => h.elim (h1 pins s σ H Q I) (h2 pins s σ H Q I)
end
structure InsT (K : PySem.W.Frag) (C : Addr) : Prop where
  cl : Cls K C
  ha : PySem.W.findIn K (.ref C) "__class__" = some (some (.builtin "object.__class__"))
  hn : PySem.W.specialIn K (.builtin "object.__class__") "__get__" = some (some (.builtin "getset_descriptor.__get__"))
  htk : PySem.W.takesIn K (.builtin "object.__class__") = some true
  hm : PySem.W.mroIn K C (.type "object") = some true
theorem InsT.ty {K : PySem.W.Frag} {C a dx : Addr} {fs : List (Str × V)} {H : Hp} (h : InsT K C) (e : H a = some (.ins C dx fs)) : TyOf K H (.ref a) (.ref C) := .ins e h.cl h.ha h.hn h.htk h.hm
end L2
namespace Ck
open PySem L2
end Ck
namespace L2
open PySem PySem.Spec PyProof.Rows PyProof
noncomputable def CMulB (i j : Int) : Prop := i.natAbs < 2 ^ 1000 ∧ j.natAbs < 2 ^ 1000
theorem bits_le {i : Int} (h : i.natAbs < 2 ^ 1000) : Builtin.Int.intBits i ≤ 2 ^ 20 := by
  unfold Builtin.Int.intBits
  split
  · exact Nat.zero_le _
  · rename_i z
    have hz : i.natAbs ≠ 0 := by
      intro e
      apply z
      simp [Int.natAbs_eq_zero.mp e]
    have : i.natAbs.log2 < 1000 := (Nat.log2_lt hz).mpr h
    exact Nat.le_trans (show i.natAbs.log2 + 1 ≤ 1000 by omega) (by decide)
theorem op_mulB {X : Cx} : OpR X (binaryOp .Mult) (rI CMulB fun i j => .int (i * j)) := opI fun _ _ _ _ _ _ _ hc q => mul_int q (IntMulOk.of_bits (bits_le hc.1) (bits_le hc.2))
theorem divB {i j : Int} (h0 : 0 < j) (h : j.natAbs < 2 ^ 1000) : CDivL i j := ⟨h0, by
  have hz : j.natAbs ≠ 0 := by omega
  have := (Nat.log2_lt hz).mpr h
  omega⟩
end L2
set_option Elab.async false
set_option linter.all false
set_option maxRecDepth 100000
set_option maxHeartbeats 4000000
namespace L2
open PySem PySem.Spec PyProof.Rows
section
variable {X : Cx} {f : Addr} {fd : FuncData} {ps : List Str} {sp : Sp} {x : Str} {p pos : Pos} {a b e : Expr} {es : List Expr} {tc : TE} {t : TA} {j k : Nat}
theorem px_eit {e : Expr} {t1 t2 : XK → TE} (h1 : PEx X e t1) (h2 : PEx X e t2) : PEx X e (fun E => tEit (t1 E) (t2 E)) :=
  fun E σ pn' xe' hp pins s H Q I h => h.elim (h1 E σ pn' xe' hp pins s H Q I) (h2 E σ pn' xe' hp pins s H Q I)
end
end L2
set_option Elab.async false
set_option linter.all false
set_option maxRecDepth 100000
set_option maxHeartbeats 4000000
namespace Ck
open PySem L2
inductive Bt where
  | leaf
  | node (l r : Bt)
noncomputable def Bt.size : Bt → Nat
  | .leaf => 0
  | .node l r => l.size + r.size + 1
noncomputable def brk : Bt → List Nat
  | .leaf => []
  | .node l r => 40 :: (brk l ++ 41 :: brk r)
noncomputable def stT : Bt → List Int
  | .leaf => []
  | .node l r => joinS (stT l) (stT r)
theorem brk_len : ∀ t : Bt, (brk t).length = 2 * t.size
  | .leaf => rfl
  | .node l r => by
    show (40 :: (brk l ++ 41 :: brk r)).length = 2 * (l.size + r.size + 1)
    rw [List.length_cons, List.length_append, List.length_cons, brk_len l, brk_len r]
    omega
theorem brk_clo : ∀ t : Bt, clo 0 (brk t) = true
  | .leaf => rfl
  | .node l r => clo_join (brk_clo l) (brk_clo r)
theorem brk_count (t : Bt) : (brk t).count 40 = t.size := by
  have := clo_ends (brk_clo t)
  rw [brk_len] at this
  omega
theorem brk_all : ∀ (n : Nat) (x : List Nat), x.length ≤ n → clo 0 x = true → ∃ t, brk t = x
  | 0, x, hn, _ => ⟨.leaf, (List.eq_nil_of_length_eq_zero (by omega)).symm⟩
  | n + 1, x, hn, h => by
    by_cases hx : x = []
    · exact ⟨.leaf, hx.symm⟩
    · obtain ⟨a, b, rfl, ha, hb⟩ := clo_parts h hx
      rw [List.length_cons, List.length_append, List.length_cons] at hn
      obtain ⟨l, rfl⟩ := brk_all n a (by omega) ha
      obtain ⟨r, rfl⟩ := brk_all n b (by omega) hb
      exact ⟨.node l r, rfl⟩
theorem stT_len : ∀ t : Bt, (stT t).length = t.size
  | .leaf => rfl
  | .node l r => by
    show (joinS (stT l) (stT r)).length = _
    rw [joinS_len, stT_len l, stT_len r]
    rfl
theorem St.zero {ps : List Int} {p : Int} (h : St ps p) : St ([0] ++ ps) p := by
  induction h with
  | nil => exact St.snoc .nil (by omega) (by simp)
  | @snoc rs a x _ h1 h2 ih =>
    rw [← List.append_assoc]
    exact St.snoc ih h1 (by simp; omega)
theorem St.app {rs qs : List Int} {a q : Int} (h : St rs a) (k : St qs q) : ∃ c, St (rs ++ qs.map (· + (rs.length : Int))) c ∧ (qs = [] → c = a) ∧ (qs ≠ [] → c = q + (rs.length : Int)) := by
  induction k with
  | nil => exact ⟨a, by simpa using h, fun _ => rfl, fun z => absurd rfl z⟩
  | @snoc qs q x k h1 h2 ih =>
    obtain ⟨c, hc, e1, e2⟩ := ih
    refine ⟨x + (rs.length : Int), ?_, (fun z => by simp at z), fun _ => rfl⟩
    rw [List.map_append, ← List.append_assoc]
    have ht := h.top
    have hl := k.low
    refine St.snoc (n := x + (rs.length : Int)) hc ?_ (by simp; omega)
    by_cases z : qs = []
    · rw [e1 z]; omega
    · rw [e2 z]; omega
theorem stT_St : ∀ t : Bt, ∃ a, St (stT t) a
  | .leaf => ⟨0, .nil⟩
  | .node l r => by
    obtain ⟨a, ha⟩ := stT_St l
    obtain ⟨b, hb⟩ := stT_St r
    obtain ⟨c, hc, _⟩ := ha.zero.app hb
    refine ⟨c, ?_⟩
    show St (joinS (stT l) (stT r)) c
    unfold joinS
    have e : (([0] ++ stT l : List Int).length : Int) = ((stT l).length : Int) + 1 := by simp
    rw [e] at hc
    exact hc
theorem sum_nn : ∀ l : List Int, (∀ x ∈ l, 0 ≤ x) → 0 ≤ l.sum
  | [], _ => Int.le_refl _
  | x :: l, h => by
    rw [List.sum_cons]
    exact Int.add_nonneg (h x (by simp)) (sum_nn l fun y hy => h y (by simp [hy]))
theorem sh_pos (n : Nat) : 1 ≤ sh n := by
  induction n using Nat.strongRecOn with
  | _ n ih =>
    cases n with
    | zero => rw [sh_zero]; exact Int.le_refl _
    | succ k =>
      rw [sh_succ, List.range_succ_eq_map, List.map_cons, List.sum_cons]
      have h1 := ih k (by omega)
      have h2 : 0 ≤ ((List.map Nat.succ (List.range k)).map fun j => sh j * sh (k - j)).sum := sum_nn _ fun x hx => by
        obtain ⟨j, hj, rfl⟩ := List.mem_map.mp hx
        obtain ⟨i, hi, rfl⟩ := List.mem_map.mp hj
        have := List.mem_range.mp hi
        have a1 := ih (i + 1) (by omega)
        have a2 := ih (k - (i + 1)) (by omega)
        exact Int.mul_nonneg (by show 0 ≤ sh (i + 1); omega) (by show 0 ≤ sh (k - (i + 1)); omega)
      rw [sh_zero, Int.one_mul, Nat.sub_zero]
      omega
noncomputable def pre (n j : Nat) : Int := ((List.range j).map fun i => sh i * sh (n - 1 - i)).sum
theorem pre_succ (n j : Nat) : pre n (j + 1) = pre n j + sh j * sh (n - 1 - j) := by
  unfold pre
  rw [List.range_succ, List.map_append, List.sum_append]
  simp
theorem pre_mono (n : Nat) {i j : Nat} (h : i ≤ j) : pre n i ≤ pre n j := by
  induction j with
  | zero => rw [Nat.le_zero.mp h]; exact Int.le_refl _
  | succ j ih =>
    by_cases e : i = j + 1
    · rw [e]; exact Int.le_refl _
    · rw [pre_succ]
      have := ih (by omega)
      have a1 := sh_pos j
      have a2 := sh_pos (n - 1 - j)
      have := Int.mul_nonneg (show 0 ≤ sh j by omega) (show 0 ≤ sh (n - 1 - j) by omega)
      omega
theorem pre_all (k : Nat) : pre (k + 1) (k + 1) = sh (k + 1) := by
  rw [sh_succ]
  rfl
noncomputable def bnum : Bt → Int
  | .leaf => 0
  | .node l r => pre (l.size + r.size + 1) l.size + bnum l * sh r.size + bnum r
theorem bnum_low : ∀ t : Bt, 0 ≤ bnum t
  | .leaf => Int.le_refl _
  | .node l r => by
    have h1 := bnum_low l
    have h2 := bnum_low r
    have h3 := sh_pos r.size
    have h4 := Int.mul_nonneg h1 (show 0 ≤ sh r.size by omega)
    have h5 := pre_mono (l.size + r.size + 1) (Nat.zero_le l.size)
    have h6 : pre (l.size + r.size + 1) 0 = 0 := rfl
    show 0 ≤ pre (l.size + r.size + 1) l.size + bnum l * sh r.size + bnum r
    omega
theorem part_lt {x y a b : Int} (x1 : x < a) (y0 : 0 ≤ y) (y1 : y < b) : x * b + y < a * b := by
  have : (x + 1) * b ≤ a * b := Int.mul_le_mul_of_nonneg_right (by omega) (by omega)
  rw [Int.add_mul, Int.one_mul] at this
  omega
theorem bnum_lt : ∀ t : Bt, bnum t < sh t.size
  | .leaf => by show (0 : Int) < sh 0; rw [sh_zero]; decide
  | .node l r => by
    have h1 := bnum_lt l
    have h2 := bnum_lt r
    have h3 := part_lt (b := sh r.size) h1 (bnum_low r) h2
    have h4 := pre_succ (l.size + r.size + 1) l.size
    rw [show l.size + r.size + 1 - 1 - l.size = r.size by omega] at h4
    have h5 := pre_mono (l.size + r.size + 1) (show l.size + 1 ≤ l.size + r.size + 1 by omega)
    have h6 := pre_all (l.size + r.size)
    show pre (l.size + r.size + 1) l.size + bnum l * sh r.size + bnum r < sh (l.size + r.size + 1)
    omega
theorem left_go {l r : Bt} {j : Nat} (h : j < l.size) : sh j * sh (l.size + r.size - j) ≤ bnum (.node l r) - pre (l.size + r.size + 1) j := by
  have h4 := pre_succ (l.size + r.size + 1) j
  rw [show l.size + r.size + 1 - 1 - j = l.size + r.size - j by omega] at h4
  have h5 := pre_mono (l.size + r.size + 1) (show j + 1 ≤ l.size by omega)
  have h1 := bnum_low l
  have h2 := bnum_low r
  have h3 := sh_pos r.size
  have h6 := Int.mul_nonneg h1 (show 0 ≤ sh r.size by omega)
  show _ ≤ pre (l.size + r.size + 1) l.size + bnum l * sh r.size + bnum r - _
  omega
theorem left_stop (l r : Bt) : bnum (.node l r) - pre (l.size + r.size + 1) l.size = bnum l * sh r.size + bnum r := by
  show pre (l.size + r.size + 1) l.size + bnum l * sh r.size + bnum r - _ = _
  omega
theorem part_div {x y b : Int} (y0 : 0 ≤ y) (y1 : y < b) : (x * b + y) / b = x ∧ (x * b + y) % b = y := by
  have hb : b ≠ 0 := by omega
  constructor
  · rw [Int.add_comm, Int.add_mul_ediv_right _ _ hb, Int.ediv_eq_zero_of_lt y0 y1, Int.zero_add]
  · rw [Int.add_comm, Int.add_mul_emod_self_right, Int.emod_eq_of_lt y0 y1]
theorem sh_big_all : ((List.range 62).all fun k => decide (cN k < 2 ^ 200)) = true := by decide +kernel
theorem sh_big {k : Nat} (h : k ≤ 61) : (sh k).natAbs < 2 ^ 1000 := by
  rw [sh_cR h, cR_cN, Int.natAbs_natCast]
  have := List.all_eq_true.mp sh_big_all k (List.mem_range.mpr (by omega))
  exact Nat.lt_trans (of_decide_eq_true this) (Nat.pow_lt_pow_right (by decide) (by decide))
theorem mulC {a b : Nat} (h : a + b ≤ 39) {x y : Int} (x0 : 0 ≤ x) (x1 : x ≤ sh a) (y0 : 0 ≤ y) (y1 : y ≤ sh b) : CMul x y := by
  by_cases ha : a ≤ 36
  · have := sh_small ha
    exact .inl ⟨by omega, by omega⟩
  · have := sh_small (show b ≤ 36 by omega)
    exact .inr ⟨by omega, by omega⟩
noncomputable def Tw (H : Hp) : V → Bt → Prop
  | v, .leaf => ∃ p, v = .ref p ∧ H p = some (.tup [])
  | v, .node l r => ∃ p a b, v = .ref p ∧ H p = some (.tup [a, b]) ∧ Tw H a l ∧ Tw H b r
theorem Tw.same {H H' : Hp} (s : Same H H') : ∀ {t : Bt} {v : V}, Tw H v t → Tw H' v t
  | .leaf, _, ⟨p, e, h⟩ => ⟨p, e, s _ _ h⟩
  | .node l r, _, ⟨p, a, b, e, h, hl, hr⟩ => ⟨p, a, b, e, s _ _ h, hl.same s, hr.same s⟩
noncomputable def Th (w : Nat) (H : Hp) (v : V) (t : Bt) : Prop := match w with
  | 0 => ∃ x : Str, v = .str x ∧ x.cps.toList = brk t
  | 1 => ∃ p, v = .ref p ∧ H p = some (.lst ((stT t).map V.int))
  | _ => Tw H v t
theorem Th.same {w : Nat} {H H' : Hp} {v : V} {t : Bt} (h : Th w H v t) (s : Same H H') : Th w H' v t := by
  match w, h with
  | 0, h => exact h
  | 1, ⟨p, e, h⟩ => exact ⟨p, e, s _ _ h⟩
  | _ + 2, h => exact Tw.same s h
end Ck
set_option Elab.async false
set_option linter.all false
set_option maxRecDepth 100000
set_option maxHeartbeats 4000000
namespace L2
open PySem PySem.Spec PyProof.Rows
theorem extend_tup (l b : Addr) (us vs : Array Value) (n m : Nat) (d : Option Addr) (sl : Array (Option Value)) (h0 : ¬(!us.isEmpty && Builtin.List.listTooLong (us.size + vs.size)) = true) (h1 : us.size ≤ sizeLine) (h2 : us.size + vs.size ≤ sizeLine + 1) :
    Meets (Builtin.«list.extend» ⟨[.ref l, .ref b], []⟩) (fun _ R s => s.heap.get? l = some { cls := .type "list", dict := none, data := .seq us n, slots := #[] } ∧
      s.heap.get? b = some { cls := .type "tuple", dict := d, data := .seq vs m, slots := sl } ∧
      R (.ok (.ret Value.none)) { s with heap := s.heap.update l (Obj.mapSeq fun x => x ++ vs), toks := s.toks }) :=
  .of_wp fun prog w A R s h => by
    obtain ⟨hp, g, dr, tk, os⟩ := s
    obtain ⟨hl, hb, h⟩ := h
    have f2 := AutoSeq1.sub_tuple_tuple
    have f3 := AutoSeq1.sub_list_list
    have f4 := AutoSeq1.sub_tuple_list
    have f5 := AutoSeq1.sub_list_tuple
    have h2' : (us ++ vs).size ≤ sizeLine + 1 := by rw [Array.size_append]; exact h2
    wp_walk using (wpAny_updateSeq hl rfl (hz := h1) (_hz' := h2')), AutoSeq1.wpAny_loadPart' hl, AutoSeq1.wpAny_loadPart' hb
    exact ⟨_, rfl, h⟩
section
variable {X : Cx}
noncomputable def rExtT (K : PySem.W.Frag) : V → List V → Hp → VK → Prop := fun x vs H Q => ∃ l b xs zs, x = .ref l ∧ vs = [.ref b] ∧ H l = some (.lst xs) ∧ SqT K H b zs ∧ xs.length + zs.length ≤ sizeLine ∧ Q .non (upd H l (.lst (xs ++ zs)))
theorem mt_extT : MtM X "list.extend" (rExtT X.K) := by
  intro pins s σ H x vs v us Q I rx rv h
  obtain ⟨l, b, xs, zs, rfl, rfl, hH, hB, hz, q⟩ := h
  cases rx
  obtain ⟨u, rfl, ru⟩ := rv.one
  cases ru
  obtain ⟨z, its, n, r, hl, e⟩ := I.lstM hH
  obtain ⟨its2, r2, ⟨⟨oc, od, dt, os⟩, e2, c2, m2, d2⟩, z2⟩ := I.tuple hB
  dsimp only at c2 d2
  subst c2 d2
  have l1 := r.length
  have l2 := r2.length
  have hsz : its.toArray.size + its2.toArray.size ≤ sizeLine := by rw [List.size_toArray, List.size_toArray]; omega
  have hlong : ¬ (!its.toArray.isEmpty && Builtin.List.listTooLong (its.toArray.size + its2.toArray.size)) = true := by
    rw [notLongL hsz, Bool.and_false]
    exact Bool.false_ne_true
  refine call_meets F.slot_list_extend ⟨_, e, rfl⟩ F.entry_list_extend (F.args_list_extend_2 _ _) (extend_tup l b its.toArray its2.toArray n m2 od os hlong (by rw [List.size_toArray]; omega) (by omega)) ⟨e, e2, ?_⟩
  refine ⟨.non, _, I.lset (its' := its ++ its2) hH e (by simp) (r.append r2) ?_, rfl, q⟩
  rw [List.length_append]
  omega
variable {X : Cx} {o e : Expr} {es : List Expr} {to : TE} {t : TA} {name : Str} {apos cpos : Pos} {T id : String} {r : V → List V → Hp → VK → Prop}
end
section
variable {X : Cx}
noncomputable def rEqS (K : PySem.W.Frag) (neg : Bool) : R2 := fun x y H Q => ∃ a xs, x = .ref a ∧ y = .ref a ∧ SqT K H a xs ∧ (∀ z ∈ xs, ∃ p, z = V.ref p) ∧ Q (.bl (!neg)) H
theorem op_neS (hu : X.A.units + 100 < cLine) : OpR X (compareOp .NotEq) (rEqS X.K true) := by
  intro pins s σ H x y u v Q I ru rv h
  obtain ⟨a, xs, rfl, rfl, ha, hi, q⟩ := h
  cases (show u = Value.ref _ from ru)
  cases (show v = Value.ref _ from rv)
  obtain ⟨us, r, pl, _⟩ := I.tuple ha
  refine SeqAt.RcNeAt.tuples (e := fun _ => true) pl pl (by omega) (fun j h1 h2 => ?_) _ _ _ _ ⟨.bl _, H, I, rfl, ?_⟩
  · obtain ⟨x, ex, rx⟩ := at_get r h1
    obtain ⟨p, rfl⟩ := hi x (List.mem_of_getElem? ex)
    exact (EqD.same (K := X.K) (H := H) (n := 0) (a := p)).at_ (A := X.A.in1) (by show X.A.units + 1 + 0 < cLine; omega) I rx rx
  · have e (k : Nat) : (List.range k).all (fun _ => true) = true := List.all_eq_true.mpr fun _ _ => rfl
    rw [e]
    simpa using q
end
theorem EqD.deeper {K : PySem.W.Frag} {H : Hp} {n m : Nat} {x y : V} {b : Bool} (d : EqD K H n x y b) (h : n ≤ m) : EqD K H m x y b := by
  induction d generalizing m with
  | flat fx fy => exact .flat fx fy
  | same => exact .same
  | lst ne ha hb hl hi ih =>
    obtain ⟨k, rfl⟩ : ∃ k, m = k + 1 := ⟨m - 1, by omega⟩
    exact .lst ne ha hb hl fun j x y hx hy => ih j x y hx hy (by omega)
  | lstN ne ha hb hl =>
    obtain ⟨k, rfl⟩ : ∃ k, m = k + 1 := ⟨m - 1, by omega⟩
    exact .lstN ne ha hb hl
  | tup ne ha hb hi ih =>
    obtain ⟨k, rfl⟩ : ∃ k, m = k + 1 := ⟨m - 1, by omega⟩
    exact .tup ne ha hb fun j x y hx hy => ih j x y hx hy (by omega)
end L2
namespace Ck
open PySem L2
theorem ngT {b : Bool} {A B : Prop} (h : b = false) (x : A) : if (if true = true then !b else b) = true then A else B := by subst h; exact x
theorem ngF {b : Bool} {A B : Prop} (h : b = true) (x : B) : if (if true = true then !b else b) = true then A else B := by subst h; exact x
theorem EqD.unit {K : PySem.W.Frag} {H : Hp} {n : Nat} {a b : Addr} {xs : List V} (ne : a ≠ b) (ha : SqT K H a xs) (hb : SqT K H b []) : EqD K H (n + 1) (.ref a) (.ref b) (decide (xs = [])) := by
  have h := EqD.tup (n := n) (e := fun _ => true) ne ha hb (fun j x y _ hy => by cases hy)
  have e : ((List.range (min xs.length ([] : List V).length)).all (fun _ => true) && xs.length == ([] : List V).length) = decide (xs = []) := by
    cases xs with
    | nil => rfl
    | cons x xs => simp
  rw [e] at h
  exact h
theorem EqD.void {K : PySem.W.Frag} {H : Hp} {n : Nat} {a b : Addr} {xs : List V} (ne : a ≠ b) (ha : SqL K H a xs) (hb : SqL K H b []) : EqD K H (n + 1) (.ref a) (.ref b) (decide (xs = [])) := by
  cases xs with
  | nil => exact EqD.lstT ne ha hb rfl (fun j x y hx _ => by cases hx)
  | cons x xs => exact EqD.lstN ne ha hb (by simp)
noncomputable abbrev Tws (H : Hp) : List V → List Bt → Prop := Paired fun v t => Tw H v t
noncomputable def sizes (ts : List Bt) : Nat := (ts.map Bt.size).sum
theorem sizes_app (as bs : List Bt) : sizes (as ++ bs) = sizes as + sizes bs := by unfold sizes; rw [List.map_append, List.sum_append]
theorem Tws.app {H : Hp} : ∀ {xs ys : List V} {ts us : List Bt}, Tws H xs ts → Tws H ys us → Tws H (xs ++ ys) (ts ++ us)
  | _, _, _, _, .nil, h => h
  | _, _, _, _, .cons r t, h => .cons r (Tws.app t h)
theorem Tws.unsnoc {H : Hp} : ∀ {xs : List V} {ts : List Bt}, Tws H xs ts → xs ≠ [] → ∃ ys y us u, xs = ys ++ [y] ∧ ts = us ++ [u] ∧ Tws H ys us ∧ Tw H y u
  | [_], [_], .cons r .nil, _ => ⟨[], _, [], _, rfl, rfl, .nil, r⟩
  | _ :: b :: xs, _, .cons r (.cons r' t), _ => by
    obtain ⟨ys, y, us, u, e1, e2, h1, h2⟩ := Tws.unsnoc (.cons r' t) (by simp)
    exact ⟨_ :: ys, y, _ :: us, u, by rw [e1]; rfl, by rw [e2]; rfl, .cons r h1, h2⟩
theorem Tw.ref {H : Hp} : ∀ {t : Bt} {v : V}, Tw H v t → ∃ p xs, v = .ref p ∧ H p = some (.tup xs) ∧ (xs = [] ↔ t = .leaf)
  | .leaf, _, ⟨p, e, h⟩ => ⟨p, [], e, h, by simp⟩
  | .node l r, _, ⟨p, a, b, e, h, _⟩ => ⟨p, [a, b], e, h, by simp⟩
theorem Tw.keep {H H' : Hp} (s : ∀ p xs, H p = some (.tup xs) → H' p = some (.tup xs)) : ∀ {t : Bt} {v : V}, Tw H v t → Tw H' v t
  | .leaf, _, ⟨p, e, h⟩ => ⟨p, e, s _ _ h⟩
  | .node l r, _, ⟨p, a, b, e, h, hl, hr⟩ => ⟨p, a, b, e, s _ _ h, hl.keep s, hr.keep s⟩
theorem Tws.keep {H H' : Hp} (s : ∀ p xs, H p = some (.tup xs) → H' p = some (.tup xs)) : ∀ {xs : List V} {ts : List Bt}, Tws H xs ts → Tws H' xs ts
  | _, _, .nil => .nil
  | _, _, .cons r t => .cons (r.keep s) (Tws.keep s t)
noncomputable def kids : Bt → List Bt
  | .leaf => []
  | .node l r => [l, r]
theorem Tw.kids {H : Hp} : ∀ {t : Bt} {v : V}, Tw H v t → ∃ p xs, v = .ref p ∧ H p = some (.tup xs) ∧ Tws H xs (kids t)
  | .leaf, _, ⟨p, e, h⟩ => ⟨p, [], e, h, .nil⟩
  | .node l r, _, ⟨p, a, b, e, h, hl, hr⟩ => ⟨p, [a, b], e, h, .cons hl (.cons hr .nil)⟩
theorem Tws.len {H : Hp} : ∀ {xs : List V} {ts : List Bt}, Tws H xs ts → xs.length = ts.length
  | _, _, .nil => rfl
  | _, _, .cons _ t => congrArg (· + 1) (Tws.len t)
theorem Tws.at {H : Hp} : ∀ {xs : List V} {ts : List Bt} {i : Nat} {b : Bt}, Tws H xs ts → ts[i]? = some b → ∃ x, xs[i]? = some x ∧ Tw H x b
  | _, _, 0, _, .cons r _, e => ⟨_, rfl, by simp at e; rw [← e]; exact r⟩
  | _, _, i + 1, _, .cons _ t, e => Tws.at (i := i) t (by simpa using e)
  | _, _, _, _, .nil, e => by simp at e
noncomputable def Nw (H : Hp) (v : V) : Prop := ∀ p, v = .ref p → H p = none
theorem Nw.back {H H' : Hp} {v : V} (h : Nw H' v) (s : Same H H') : Nw H v := fun p e => s.free (h p e)
theorem Th.put {w : Nat} {H : Hp} {v : V} {t : Bt} {pg : Addr} {xs : List V} {o : HO} (h : Th w H v t) (hg : H pg = some (.lst xs)) (ne : v ≠ .ref pg) : Th w (upd H pg o) v t := by
  match w, h with
  | 0, h => exact h
  | 1, ⟨p, e, h⟩ => exact ⟨p, e, (upd_ne (fun z => ne (by rw [e, z]))).trans h⟩
  | _ + 2, h => exact Tw.keep (fun p xs e => (upd_ne (fun z => by rw [z, hg] at e; cases e)).trans e) h
theorem Th.old {w : Nat} {H : Hp} {v : V} {t : Bt} {p : Addr} (h : Th w H v t) (e : v = .ref p) : H p ≠ none := by
  match w, h with
  | 0, ⟨x, e', _⟩ => rw [e'] at e; cases e
  | 1, ⟨p', e', h⟩ => rw [e'] at e; cases e; rw [h]; exact fun z => by cases z
  | _ + 2, h =>
    obtain ⟨p', xs, e', h', _⟩ := Tw.ref h
    rw [e'] at e
    cases e
    rw [h']
    exact fun z => by cases z
theorem pre_find {n : Nat} {m : Int} (h0 : 0 ≤ m) : ∀ k, m < pre n k → ∃ j, j < k ∧ pre n j ≤ m ∧ m < pre n (j + 1)
  | 0, h => by have : pre n 0 = 0 := rfl; omega
  | k + 1, h => by
    by_cases z : m < pre n k
    · obtain ⟨j, a, b, c⟩ := pre_find h0 k z
      exact ⟨j, by omega, b, c⟩
    · exact ⟨k, by omega, by omega, h⟩
theorem bnum_all (n : Nat) : ∀ m : Int, 0 ≤ m → m < sh n → ∃ t : Bt, t.size = n ∧ bnum t = m := by
  induction n using Nat.strongRecOn with
  | _ n ih =>
    intro m h0 h1
    cases n with
    | zero => rw [sh_zero] at h1; exact ⟨.leaf, rfl, by show (0 : Int) = m; omega⟩
    | succ k =>
      rw [← pre_all k] at h1
      obtain ⟨j, hj, a, b⟩ := pre_find h0 (k + 1) h1
      rw [pre_succ, Nat.add_sub_cancel] at b
      have p1 := sh_pos (k - j)
      generalize hR : m - pre (k + 1) j = R
      have R0 : 0 ≤ R := by omega
      have d0 : 0 ≤ R / sh (k - j) := Int.ediv_nonneg R0 (by omega)
      have d1 : R / sh (k - j) < sh j := Int.ediv_lt_of_lt_mul (by omega) (by omega)
      have e0 := Int.emod_nonneg R (show sh (k - j) ≠ 0 by omega)
      have e1 := Int.emod_lt_of_pos R (show 0 < sh (k - j) by omega)
      obtain ⟨l, hl, bl⟩ := ih j (by omega) _ d0 d1
      obtain ⟨r, hr, br⟩ := ih (k - j) (by omega) _ e0 e1
      have es : l.size + r.size + 1 = k + 1 := by omega
      refine ⟨.node l r, es, ?_⟩
      show pre (l.size + r.size + 1) l.size + bnum l * sh r.size + bnum r = m
      rw [es, hl, hr, bl, br]
      have := Int.mul_ediv_add_emod R (sh (k - j))
      rw [Int.mul_comm] at this
      omega
theorem Nw.ne {w : Nat} {H : Hp} {v g : V} {t : Bt} {p : Addr} (h : Nw H g) (tv : Th w H v t) (e : g = .ref p) : v ≠ .ref p := fun e' => Th.old (w := w) (t := t) tv e' (h p e)
theorem Tw.eqD {K : PySem.W.Frag} {H : Hp} : ∀ {t : Bt} {v u : V}, Tw H v t → Tw H u t → EqD K H (t.size + 1) v u true
  | .leaf, v, u, ⟨p, e, h⟩, ⟨r, e', h'⟩ => by
    subst e e'
    by_cases z : p = r
    · subst z; exact .same
    · exact EqD.tupT z (SqT.of h) (SqT.of h') rfl (fun j x y hx _ => by simp at hx)
  | .node l r, v, u, ⟨p, a, b, e, h, hl, hr⟩, ⟨p', a', b', e', h', hl', hr'⟩ => by
    subst e e'
    by_cases z : p = p'
    · subst z; exact .same
    · have sn : (Bt.node l r).size = l.size + r.size + 1 := rfl
      refine EqD.tupT (n := l.size + r.size + 1) z (SqT.of h) (SqT.of h') rfl (fun j x y hx hy => ?_)
      match j, hx, hy with
      | 0, hx, hy =>
        simp at hx hy
        subst hx hy
        exact (Tw.eqD hl hl').deeper (by omega)
      | 1, hx, hy =>
        simp at hx hy
        subst hx hy
        exact (Tw.eqD hr hr').deeper (by omega)
      | j + 2, hx, hy => simp at hx
theorem same_ne {K : PySem.W.Frag} {w : Nat} {H : Hp} {v u : V} {t : Bt} {Q : VK} (tv : Th w H v t) (tu : Th w H u t) (h1 : w = 1 → ∀ p, v = .ref p → u ≠ .ref p) (h2 : w ≠ 1 → u = v) (q : Q (.bl false) H) : rNe v u H Q ∨ rEqD K true v u H Q ∨ rEqS K true v u H Q := by
  match w, tv, tu, h1, h2 with
  | 0, ⟨x, e, _⟩, _, _, h2 =>
    have := h2 (by decide)
    subst this
    subst e
    exact .inl ⟨rfl, by rw [decide_eq_true rfl]; exact q⟩
  | 1, ⟨p, e, hp⟩, ⟨r, e', hr⟩, h1, _ =>
    have ne : p ≠ r := fun z => h1 rfl p e (by rw [e', z])
    subst e e'
    refine .inr (.inl ⟨1, true, by decide, EqD.lstT ne (SqL.of hp) (SqL.of hr) rfl (fun j x y hx hy => ?_), ⟨p, r, rfl, rfl, ne⟩, q⟩)
    rw [hx] at hy
    cases hy
    obtain ⟨c, rfl⟩ := get_int hx
    have h := EqD.flat (K := K) (H := H) (n := 0) (x := .int c) (y := .int c) rfl rfl
    rw [show eqV (.int c) (.int c) = true from decide_eq_true rfl] at h
    exact h
  | k + 2, tv, _, _, h2 =>
    have := h2 (by omega)
    subst this
    have tv : Tw H u t := tv
    obtain ⟨p, xs, e, hp, tws⟩ := tv.kids
    subst e
    refine .inr (.inr ⟨p, xs, rfl, rfl, SqT.of hp, fun z hz => ?_, q⟩)
    obtain ⟨i, hi⟩ := List.getElem?_of_mem hz
    have li : i < xs.length := (List.getElem?_eq_some_iff.mp hi).1
    rw [tws.len] at li
    obtain ⟨x, ex, tx⟩ := tws.at (List.getElem?_eq_getElem li)
    rw [hi] at ex
    cases ex
    obtain ⟨p', _, e', _⟩ := tx.ref
    exact ⟨p', e'⟩
theorem same_eq {K : PySem.W.Frag} {w : Nat} {H : Hp} {v u : V} {t : Bt} {Q : VK} (tv : Th w H v t) (tu : Th w H u t) (h40 : t.size ≤ 40) (h1 : ∀ p, v = .ref p → u ≠ .ref p) (q : Q (.bl true) H) : rEq v u H Q ∨ rEqD K false v u H Q := by
  match w, tv, tu with
  | 0, ⟨x, e, ex⟩, ⟨y, e', ey⟩ =>
    have : x = y := str_ext (ex.trans ey.symm)
    subst this
    subst e e'
    exact .inl ⟨rfl, by rw [decide_eq_true rfl]; exact q⟩
  | 1, ⟨p, e, hp⟩, ⟨r, e', hr⟩ =>
    have ne : p ≠ r := fun z => h1 p e (by rw [e', z])
    subst e e'
    refine .inr ⟨1, true, by decide, EqD.lstT ne (SqL.of hp) (SqL.of hr) rfl (fun j x y hx hy => ?_), ⟨p, r, rfl, rfl, ne⟩, q⟩
    rw [hx] at hy
    cases hy
    obtain ⟨c, rfl⟩ := get_int hx
    have h := EqD.flat (K := K) (H := H) (n := 0) (x := .int c) (y := .int c) rfl rfl
    rw [show eqV (.int c) (.int c) = true from decide_eq_true rfl] at h
    exact h
  | k + 2, tv, tu =>
    have tv : Tw H v t := tv
    have tu : Tw H u t := tu
    obtain ⟨p, _, e, _⟩ := tv.ref
    obtain ⟨r, _, e', _⟩ := tu.ref
    exact .inr ⟨t.size + 1, true, by omega, tv.eqD tu, ⟨p, r, e, e', fun z => h1 p e (by rw [e', z])⟩, q⟩
theorem stF_far {n : Int} {ys : List Int} : ∀ (xs : List Int) (i : Nat) (a : Int), 0 ≤ a → (n < 0 ∨ (i : Int) + (xs.length : Int) < n) → stF i a (xs ++ n :: ys) = false
  | [], i, a, h0, h => stF_bad (by simp at h; omega)
  | x :: xs, i, a, h0, h => by
    by_cases z : x < a ∨ (i : Int) < x
    · exact stF_bad z
    · show stF i a (x :: (xs ++ n :: ys)) = false
      rw [stF_go z]
      exact stF_far xs (i + 1) x (by omega) (by simp at h; omega)
end Ck
set_option Elab.async false
set_option linter.all false
set_option maxRecDepth 100000
set_option maxHeartbeats 4000000
namespace Ck
open PySem L2
end Ck
set_option Elab.async false
set_option linter.all false
set_option maxRecDepth 100000
namespace Ck
open PySem PySem.W PySem.Calls PyProof.Rows
noncomputable def endLook {α : Type} (p q : Program) (loose : List Str) (Xt : Shared → Bool) (Yf : Shared → α) (h0 : Heap) (s : Shared) :=
  ((staticsOk (importedModules p.main.body) h0 s.heap && namesBound p s.heap && gensDone s && laidKept h0 s.heap),
    openSeen q loose (importedModules p.main.body) Xt true s, Yf s)
theorem left_whole {p q : Program} {loose : List Str} {Xt : Shared → Bool} {α : Type} {Yf : Shared → α} {Ya : World → α} {N M m : Nat} {H : Params → Heap} {gs : Array GenState} {dr : Drawn} {tk : Nat} {an : Option Value}
    (o : ∀ w : World, (fencedOpening treeTable p w N).map (fun s => (s.heap, s.gens, s.drawn, s.toks)) = some (H w.params, gs, dr, tk))
    (z : ∀ w : World, ((H w.params).isNs mainGlobals && gs.size == 0, (H w.params).objs.size, (H w.params).nsMap mainGlobals "__annotations__") = (true, m, an))
    (r : ∀ (w : World) (os : OsState), ∃ e, topRun treeTable p w m an M ⟨H w.params, gs, dr, tk, os⟩ (topStub p) = some e ∧ endLook p q loose Xt Yf (H w.params) e = (true, openGood q loose, Ya w))
    (le : M ≤ N) : LeftO p q loose Xt Yf Ya N := by
  intro w
  have ow := o w
  cases hf : fencedOpening treeTable p w N with
  | none => rw [hf] at ow; cases ow
  | some s =>
    rw [hf] at ow
    have os := Option.some.inj ow
    have e1 : s.heap = H w.params := congrArg Prod.fst os
    have e2 : s.gens = gs := congrArg (fun x => x.2.1) os
    have e3 : s.drawn = dr := congrArg (fun x => x.2.2.1) os
    have e4 : s.toks = tk := congrArg (fun x => x.2.2.2) os
    obtain ⟨e, run, look⟩ := r w s.os
    have hs : s = ⟨H w.params, gs, dr, tk, s.os⟩ := by rw [← e1, ← e2, ← e3, ← e4]
    have run' := topRun_mono (N - M) _ _ _ _ run
    rw [Nat.add_sub_cancel' le] at run'
    have zw := z w
    have z1 := congrArg Prod.fst zw
    have z2 := congrArg (fun x => x.2.1) zw
    have z3 := congrArg (fun x => x.2.2) zw
    dsimp only at z1 z2 z3
    have l1 := congrArg Prod.fst look
    have l2 := congrArg Prod.snd look
    have tf : topFrom treeTable p w N s = some e := by
      rw [hs]
      unfold topFrom
      dsimp only
      rw [z1, z2, z3, run']
      unfold endLook at l1
      dsimp only at l1
      dsimp only [Option.bind]
      rw [l1]
    unfold openEnds
    rw [hf, Option.bind_some, tf]
    exact congrArg some l2
section
variable {tb : String → Option Builtin} {p : Program} {w : World} {m : Nat} {an : Option Value} {env : Env} {q : Pos}
noncomputable def lookEnd {β : Type} (tb : String → Option Builtin) (p : Program) (w : World) (m : Nat) (an : Option Value) (q : Pos) (c : Code) (n4 : Nat) (L : Shared → β) (r : Flow × SharedT × Code × Pos) : Flow × Code × Option β :=
  (r.1, r.2.2.1, (topRun tb p w m an n4 r.2.1.abs ⟨doneF .next, c, r.2.2.2, [topFrame q]⟩).map L)
theorem run_whole {β : Type} {L : Shared → β} {b : List Stmt} {c : Code} {n1 n2 n3 n4 : Nat} {S0 Sa : Shared} {Sb : SharedT} {pos0 pos1 : Pos} {z : β} (hc : c = .body b env)
    (h1 : topGo tb p w m an n1 S0 (topStub p) = some (Sa, ⟨denote tb c, c, pos0, [topFrame q]⟩))
    (h2 : segRun tb p w m an 1 n2 Sa (blockOf b env c pos0 [topFrame q]) = some (.next, Sb.abs, c, pos1))
    (h3 : (segRunT tb p w m an 1 n3 Sb (piecesOf b env c pos1 [topFrame q])).map (lookEnd tb p w m an q c n4 L) = some (.next, c, some z)) :
    ∃ e, topRun tb p w m an (n1 + (n2 + (n3 + n4))) S0 (topStub p) = some e ∧ L e = z := by
  cases hr : segRunT tb p w m an 1 n3 Sb (piecesOf b env c pos1 [topFrame q]) with
  | none => rw [hr] at h3; cases h3
  | some x =>
    obtain ⟨f, s, d, ps⟩ := x
    rw [hr] at h3
    have h3 := Option.some.inj h3
    unfold lookEnd at h3
    have a1 : f = .next := congrArg Prod.fst h3
    have a2 : d = c := congrArg (fun x => x.2.1) h3
    have a3 := congrArg (fun x => x.2.2) h3
    dsimp only at a3
    subst a1 a2 hc
    cases ht : topRun tb p w m an n4 s.abs ⟨doneF .next, .body b env, ps, [topFrame q]⟩ with
    | none => rw [ht] at a3; cases a3
    | some e =>
      rw [ht] at a3
      have k := piece_app (rest := []) (segRun_of hr) (piece_nil ht)
      rw [List.append_nil] at k
      exact ⟨e, go_top h1 (piece_block h2 k), Option.some.inj a3⟩
end
end Ck
set_option maxHeartbeats 4000000
namespace Ck
open PySem L2
noncomputable def top (i : Nat) : Stmt := PySem.Challenge.pw_countkin_k10_told_by_number.main.body.getD i (.Pass ⟨0, 0, 0, 0⟩)
structure ClA where
 C_Brackets : Addr
 C_Stairs : Addr
 C_Twins : Addr
 C_Family : Addr
 C_SplitFamily : Addr
 f_u22 : Addr
 f_u15 : Addr
 f_u39 : Addr
 f_u27 : Addr
 f_u17 : Addr
 f_u47 : Addr
 f_u31 : Addr
 f_u18 : Addr
 f_u49 : Addr
 f_u4 : Addr
 f_u33 : Addr
 f_u56 : Addr
 f_u46 : Addr
 f_u5 : Addr
 f_u1 : Addr
 f_u23 : Addr
 f_u11 : Addr
 f_u35 : Addr
 f_u62 : Addr
 f_u55 : Addr
 f_u10 : Addr
 f_u7 : Addr
 f_u26 : Addr
 f_u13 : Addr
 f_u38 : Addr
 f_u65 : Addr
 f_u60 : Addr
 f_u14 : Addr
 f_u12 : Addr
 f_u30 : Addr
 f_u44 : Addr
 f_u16 : Addr
 f_u41 : Addr
 f_u45 : Addr
 f_u2 : Addr
 f_u0 : Addr
 f_u20 : Addr
 f_u50 : Addr
 f_u19 : Addr
 f_u48 : Addr
 f_u52 : Addr
 f_u6 : Addr
 f_u3 : Addr
 f_u25 : Addr
 f_u57 : Addr
 f_u21 : Addr
 f_u51 : Addr
 f_u59 : Addr
 f_u9 : Addr
 f_u8 : Addr
 f_u28 : Addr
 f_u24 : Addr
 f_u29 : Addr
 f_u32 : Addr
structure ClOk (K : PySem.W.Frag) (mg : Str → Option Value) (ca : ClA) : Prop where
 m_Family : mg "Family" = some (.ref ca.C_Family)
 m_Brackets : mg "Brackets" = some (.ref ca.C_Brackets)
 m_Stairs : mg "Stairs" = some (.ref ca.C_Stairs)
 m_Twins : mg "Twins" = some (.ref ca.C_Twins)
 m_SplitFamily : mg "SplitFamily" = some (.ref ca.C_SplitFamily)
 c_Brackets : Cls K ca.C_Brackets
 c_Stairs : Cls K ca.C_Stairs
 c_Twins : Cls K ca.C_Twins
 mt_Brackets_many : Meth K ca.C_Brackets "many" ca.f_u33
 mt_Stairs_many : Meth K ca.C_Stairs "many" ca.f_u35
 mt_Twins_many : Meth K ca.C_Twins "many" ca.f_u38
 mt_Brackets_thing_of : Meth K ca.C_Brackets "thing_of" ca.f_u23
 mt_Stairs_thing_of : Meth K ca.C_Stairs "thing_of" ca.f_u26
 mt_Twins_thing_of : Meth K ca.C_Twins "thing_of" ca.f_u30
 mt_Brackets_number_of : Meth K ca.C_Brackets "number_of" ca.f_u20
 mt_Stairs_number_of : Meth K ca.C_Stairs "number_of" ca.f_u25
 mt_Twins_number_of : Meth K ca.C_Twins "number_of" ca.f_u28
 mt_Brackets_next_of : Meth K ca.C_Brackets "next_of" ca.f_u24
 mt_Stairs_next_of : Meth K ca.C_Stairs "next_of" ca.f_u29
 mt_Twins_next_of : Meth K ca.C_Twins "next_of" ca.f_u32
 mt_Brackets_unchecked_thing : Meth K ca.C_Brackets "unchecked_thing" ca.f_u1
 mt_Brackets_unchecked_many : Meth K ca.C_Brackets "unchecked_many" ca.f_u4
 mt_Brackets_thing_by_parts : Meth K ca.C_Brackets "thing_by_parts" ca.f_u5
 mt_Brackets_bare : Meth K ca.C_Brackets "bare" ca.f_u56
 mt_Brackets_joined : Meth K ca.C_Brackets "joined" ca.f_u46
 mt_Stairs_unchecked_thing : Meth K ca.C_Stairs "unchecked_thing" ca.f_u7
 mt_Stairs_unchecked_many : Meth K ca.C_Stairs "unchecked_many" ca.f_u11
 mt_Stairs_thing_by_parts : Meth K ca.C_Stairs "thing_by_parts" ca.f_u10
 mt_Stairs_bare : Meth K ca.C_Stairs "bare" ca.f_u62
 mt_Stairs_joined : Meth K ca.C_Stairs "joined" ca.f_u55
 mt_Twins_unchecked_thing : Meth K ca.C_Twins "unchecked_thing" ca.f_u12
 mt_Twins_unchecked_many : Meth K ca.C_Twins "unchecked_many" ca.f_u13
 mt_Twins_thing_by_parts : Meth K ca.C_Twins "thing_by_parts" ca.f_u14
 mt_Twins_bare : Meth K ca.C_Twins "bare" ca.f_u65
 mt_Twins_joined : Meth K ca.C_Twins "joined" ca.f_u60
 mt_Brackets_refuse_other : Meth K ca.C_Brackets "refuse_other" ca.f_u16
 mt_Brackets_unchecked_number : Meth K ca.C_Brackets "unchecked_number" ca.f_u0
 mt_Brackets_is_one : Meth K ca.C_Brackets "is_one" ca.f_u44
 mt_Brackets_number_by_parts : Meth K ca.C_Brackets "number_by_parts" ca.f_u2
 mt_Brackets_size_of : Meth K ca.C_Brackets "size_of" ca.f_u41
 mt_Brackets_parted : Meth K ca.C_Brackets "parted" ca.f_u45
 mt_Stairs_refuse_other : Meth K ca.C_Stairs "refuse_other" ca.f_u19
 mt_Stairs_unchecked_number : Meth K ca.C_Stairs "unchecked_number" ca.f_u3
 mt_Stairs_is_one : Meth K ca.C_Stairs "is_one" ca.f_u50
 mt_Stairs_number_by_parts : Meth K ca.C_Stairs "number_by_parts" ca.f_u6
 mt_Stairs_size_of : Meth K ca.C_Stairs "size_of" ca.f_u48
 mt_Stairs_parted : Meth K ca.C_Stairs "parted" ca.f_u52
 mt_Twins_refuse_other : Meth K ca.C_Twins "refuse_other" ca.f_u21
 mt_Twins_unchecked_number : Meth K ca.C_Twins "unchecked_number" ca.f_u8
 mt_Twins_is_one : Meth K ca.C_Twins "is_one" ca.f_u57
 mt_Twins_number_by_parts : Meth K ca.C_Twins "number_by_parts" ca.f_u9
 mt_Twins_size_of : Meth K ca.C_Twins "size_of" ca.f_u51
 mt_Twins_parted : Meth K ca.C_Twins "parted" ca.f_u59
 mk_Brackets : Mk K ca.C_Brackets ca.f_u39
 mk_Stairs : Mk K ca.C_Stairs ca.f_u47
 mk_Twins : Mk K ca.C_Twins ca.f_u49
 cm_SplitFamily___init___Brackets : ClsM K ca.C_SplitFamily "__init__" ca.f_u15
 cm_Family___init___Brackets : ClsM K ca.C_Family "__init__" ca.f_u22
 cm_SplitFamily___init___Stairs : ClsM K ca.C_SplitFamily "__init__" ca.f_u17
 cm_Family___init___Stairs : ClsM K ca.C_Family "__init__" ca.f_u27
 cm_SplitFamily___init___Twins : ClsM K ca.C_SplitFamily "__init__" ca.f_u18
 cm_Family___init___Twins : ClsM K ca.C_Family "__init__" ca.f_u31
 na_Brackets_word : NoAttr K ca.C_Brackets "word"
 na_Brackets_least : NoAttr K ca.C_Brackets "least"
 na_Stairs_word : NoAttr K ca.C_Stairs "word"
 na_Stairs_least : NoAttr K ca.C_Stairs "least"
 na_Twins_word : NoAttr K ca.C_Twins "word"
 na_Twins_least : NoAttr K ca.C_Twins "least"
 in_Brackets : InsT K ca.C_Brackets
 in_Stairs : InsT K ca.C_Stairs
 in_Twins : InsT K ca.C_Twins
 kit_Brackets_Family : PySem.W.kitOne K (.ref ca.C_Brackets) (.ref ca.C_Family) = some true
 kit_Stairs_Family : PySem.W.kitOne K (.ref ca.C_Stairs) (.ref ca.C_Family) = some true
 kit_Twins_Family : PySem.W.kitOne K (.ref ca.C_Twins) (.ref ca.C_Family) = some true
noncomputable abbrev s_u61 : Stmt := top 30
theorem sc_u61 : FnScope ["_law_script", "_law_k"] ["_law_script", "_law_k"] (defScope s_u61) := ⟨rfl, rfl, rfl, by decide +kernel, rfl, by decide +kernel, by decide +kernel⟩
noncomputable abbrev s_u71 : Stmt := top 33
theorem sc_u71 : FnScope ["_law_size", "_law_found", "_law_k"] ["_law_size"] (defScope s_u71) := ⟨rfl, rfl, rfl, by decide +kernel, rfl, by decide +kernel, by decide +kernel⟩
noncomputable abbrev s_u22 : Stmt := inClass (top 16) 0
theorem sc_u22 : FnScope ["self", "word", "least"] ["self", "word", "least"] (defScope s_u22) := ⟨rfl, rfl, rfl, by decide +kernel, rfl, by decide +kernel, by decide +kernel⟩
noncomputable abbrev s_u15 : Stmt := inClass (top 17) 0
theorem sc_u15 : FnScope ["self", "word"] ["self", "word"] (defScope s_u15) := ⟨rfl, rfl, rfl, by decide +kernel, rfl, by decide +kernel, by decide +kernel⟩
noncomputable abbrev s_u39 : Stmt := inClass (top 23) 0
theorem sc_u39 : FnScope ["self"] ["self"] (defScope s_u39) := ⟨rfl, rfl, rfl, by decide +kernel, rfl, by decide +kernel, by decide +kernel⟩
noncomputable abbrev s_u27 : Stmt := inClass (top 16) 0
theorem sc_u27 : FnScope ["self", "word", "least"] ["self", "word", "least"] (defScope s_u27) := ⟨rfl, rfl, rfl, by decide +kernel, rfl, by decide +kernel, by decide +kernel⟩
noncomputable abbrev s_u17 : Stmt := inClass (top 17) 0
theorem sc_u17 : FnScope ["self", "word"] ["self", "word"] (defScope s_u17) := ⟨rfl, rfl, rfl, by decide +kernel, rfl, by decide +kernel, by decide +kernel⟩
noncomputable abbrev s_u47 : Stmt := inClass (top 25) 0
theorem sc_u47 : FnScope ["self"] ["self"] (defScope s_u47) := ⟨rfl, rfl, rfl, by decide +kernel, rfl, by decide +kernel, by decide +kernel⟩
noncomputable abbrev s_u31 : Stmt := inClass (top 16) 0
theorem sc_u31 : FnScope ["self", "word", "least"] ["self", "word", "least"] (defScope s_u31) := ⟨rfl, rfl, rfl, by decide +kernel, rfl, by decide +kernel, by decide +kernel⟩
noncomputable abbrev s_u18 : Stmt := inClass (top 17) 0
theorem sc_u18 : FnScope ["self", "word"] ["self", "word"] (defScope s_u18) := ⟨rfl, rfl, rfl, by decide +kernel, rfl, by decide +kernel, by decide +kernel⟩
noncomputable abbrev s_u49 : Stmt := inClass (top 28) 0
theorem sc_u49 : FnScope ["self"] ["self"] (defScope s_u49) := ⟨rfl, rfl, rfl, by decide +kernel, rfl, by decide +kernel, by decide +kernel⟩
noncomputable abbrev s_u78 : Stmt := top 42
theorem sc_u78 : FnScope ["_law_way"] ["_law_way"] (defScope s_u78) := ⟨rfl, rfl, rfl, by decide +kernel, rfl, by decide +kernel, by decide +kernel⟩
noncomputable abbrev s_u80 : Stmt := top 3
theorem sc_u80 : FnScope ["size", "share", "k"] ["size"] (defScope s_u80) := ⟨rfl, rfl, rfl, by decide +kernel, rfl, by decide +kernel, by decide +kernel⟩
noncomputable abbrev s_u4 : Stmt := inClass (top 17) 4
theorem sc_u4 : FnScope ["self", "size"] ["self", "size"] (defScope s_u4) := ⟨rfl, rfl, rfl, by decide +kernel, rfl, by decide +kernel, by decide +kernel⟩
noncomputable abbrev s_u33 : Stmt := inClass (top 16) 6
theorem sc_u33 : FnScope ["self", "size"] ["self", "size"] (defScope s_u33) := ⟨rfl, rfl, rfl, by decide +kernel, rfl, by decide +kernel, by decide +kernel⟩
noncomputable abbrev s_u56 : Stmt := inClass (top 23) 3
theorem sc_u56 : FnScope ["self"] ["self"] (defScope s_u56) := ⟨rfl, rfl, rfl, by decide +kernel, rfl, by decide +kernel, by decide +kernel⟩
noncomputable abbrev s_u46 : Stmt := inClass (top 23) 5
theorem sc_u46 : FnScope ["self", "left", "right"] ["self", "left", "right"] (defScope s_u46) := ⟨rfl, rfl, rfl, by decide +kernel, rfl, by decide +kernel, by decide +kernel⟩
noncomputable abbrev s_u5 : Stmt := inClass (top 17) 8
theorem sc_u5 : FnScope ["self", "counts", "size", "number", "left_size", "rest", "right_size", "left", "right"] ["self", "counts", "size", "number"] (defScope s_u5) := ⟨rfl, rfl, rfl, by decide +kernel, rfl, by decide +kernel, by decide +kernel⟩
noncomputable abbrev s_u82 : Stmt := top 2
theorem sc_u82 : FnScope ["most", "found", "k"] ["most"] (defScope s_u82) := ⟨rfl, rfl, rfl, by decide +kernel, rfl, by decide +kernel, by decide +kernel⟩
noncomputable abbrev s_u1 : Stmt := inClass (top 17) 6
theorem sc_u1 : FnScope ["self", "size", "number"] ["self", "size", "number"] (defScope s_u1) := ⟨rfl, rfl, rfl, by decide +kernel, rfl, by decide +kernel, by decide +kernel⟩
noncomputable abbrev s_u23 : Stmt := inClass (top 16) 9
theorem sc_u23 : FnScope ["self", "size", "number", "most"] ["self", "size", "number"] (defScope s_u23) := ⟨rfl, rfl, rfl, by decide +kernel, rfl, by decide +kernel, by decide +kernel⟩
noncomputable abbrev s_u11 : Stmt := inClass (top 17) 4
theorem sc_u11 : FnScope ["self", "size"] ["self", "size"] (defScope s_u11) := ⟨rfl, rfl, rfl, by decide +kernel, rfl, by decide +kernel, by decide +kernel⟩
noncomputable abbrev s_u35 : Stmt := inClass (top 16) 6
theorem sc_u35 : FnScope ["self", "size"] ["self", "size"] (defScope s_u35) := ⟨rfl, rfl, rfl, by decide +kernel, rfl, by decide +kernel, by decide +kernel⟩
noncomputable abbrev s_u62 : Stmt := inClass (top 25) 3
theorem sc_u62 : FnScope ["self"] ["self"] (defScope s_u62) := ⟨rfl, rfl, rfl, by decide +kernel, rfl, by decide +kernel, by decide +kernel⟩
noncomputable abbrev s_u75 : Stmt := top 19
theorem sc_u75 : FnScope ["numbers", "step"] ["numbers", "step"] (defScope s_u75) := ⟨rfl, rfl, rfl, by decide +kernel, rfl, by decide +kernel, by decide +kernel⟩
noncomputable abbrev s_u55 : Stmt := inClass (top 25) 5
theorem sc_u55 : FnScope ["self", "left", "right"] ["self", "left", "right"] (defScope s_u55) := ⟨rfl, rfl, rfl, by decide +kernel, rfl, by decide +kernel, by decide +kernel⟩
noncomputable abbrev s_u10 : Stmt := inClass (top 17) 8
theorem sc_u10 : FnScope ["self", "counts", "size", "number", "left_size", "rest", "right_size", "left", "right"] ["self", "counts", "size", "number"] (defScope s_u10) := ⟨rfl, rfl, rfl, by decide +kernel, rfl, by decide +kernel, by decide +kernel⟩
noncomputable abbrev s_u7 : Stmt := inClass (top 17) 6
theorem sc_u7 : FnScope ["self", "size", "number"] ["self", "size", "number"] (defScope s_u7) := ⟨rfl, rfl, rfl, by decide +kernel, rfl, by decide +kernel, by decide +kernel⟩
noncomputable abbrev s_u26 : Stmt := inClass (top 16) 9
theorem sc_u26 : FnScope ["self", "size", "number", "most"] ["self", "size", "number"] (defScope s_u26) := ⟨rfl, rfl, rfl, by decide +kernel, rfl, by decide +kernel, by decide +kernel⟩
noncomputable abbrev s_u13 : Stmt := inClass (top 17) 4
theorem sc_u13 : FnScope ["self", "size"] ["self", "size"] (defScope s_u13) := ⟨rfl, rfl, rfl, by decide +kernel, rfl, by decide +kernel, by decide +kernel⟩
noncomputable abbrev s_u38 : Stmt := inClass (top 16) 6
theorem sc_u38 : FnScope ["self", "size"] ["self", "size"] (defScope s_u38) := ⟨rfl, rfl, rfl, by decide +kernel, rfl, by decide +kernel, by decide +kernel⟩
noncomputable abbrev s_u65 : Stmt := inClass (top 28) 3
theorem sc_u65 : FnScope ["self"] ["self"] (defScope s_u65) := ⟨rfl, rfl, rfl, by decide +kernel, rfl, by decide +kernel, by decide +kernel⟩
noncomputable abbrev s_u60 : Stmt := inClass (top 28) 5
theorem sc_u60 : FnScope ["self", "left", "right"] ["self", "left", "right"] (defScope s_u60) := ⟨rfl, rfl, rfl, by decide +kernel, rfl, by decide +kernel, by decide +kernel⟩
noncomputable abbrev s_u14 : Stmt := inClass (top 17) 8
theorem sc_u14 : FnScope ["self", "counts", "size", "number", "left_size", "rest", "right_size", "left", "right"] ["self", "counts", "size", "number"] (defScope s_u14) := ⟨rfl, rfl, rfl, by decide +kernel, rfl, by decide +kernel, by decide +kernel⟩
noncomputable abbrev s_u12 : Stmt := inClass (top 17) 6
theorem sc_u12 : FnScope ["self", "size", "number"] ["self", "size", "number"] (defScope s_u12) := ⟨rfl, rfl, rfl, by decide +kernel, rfl, by decide +kernel, by decide +kernel⟩
noncomputable abbrev s_u30 : Stmt := inClass (top 16) 9
theorem sc_u30 : FnScope ["self", "size", "number", "most"] ["self", "size", "number"] (defScope s_u30) := ⟨rfl, rfl, rfl, by decide +kernel, rfl, by decide +kernel, by decide +kernel⟩
noncomputable abbrev s_u66 : Stmt := top 34
theorem sc_u66 : FnScope ["_law_text", "_law_height", "_law_sign"] ["_law_text"] (defScope s_u66) := ⟨rfl, rfl, rfl, by decide +kernel, rfl, by decide +kernel, by decide +kernel⟩
noncomputable abbrev s_u70 : Stmt := top 40
theorem sc_u70 : FnScope ["_law_thing", "_law_deep"] ["_law_thing", "_law_deep"] (defScope s_u70) := ⟨rfl, rfl, rfl, by decide +kernel, rfl, by decide +kernel, by decide +kernel⟩
noncomputable abbrev s_u72 : Stmt := top 31
theorem sc_u72 : FnScope ["_law_found"] ["_law_found"] (defScope s_u72) := ⟨rfl, rfl, rfl, by decide +kernel, rfl, by decide +kernel, by decide +kernel⟩
noncomputable abbrev s_u53 : Stmt := top 38
theorem sc_u53 : FnScope ["_law_row", "_law_k"] ["_law_row"] (defScope s_u53) := ⟨rfl, rfl, rfl, by decide +kernel, rfl, by decide +kernel, by decide +kernel⟩
noncomputable abbrev s_u77 : Stmt := top 41
theorem sc_u77 : FnScope ["_law_way", "_law_thing", "_law_size"] ["_law_way", "_law_thing", "_law_size"] (defScope s_u77) := ⟨rfl, rfl, rfl, by decide +kernel, rfl, by decide +kernel, by decide +kernel⟩
noncomputable abbrev s_u81 : Stmt := top 21
theorem sc_u81 : FnScope ["text", "depth", "sign"] ["text"] (defScope s_u81) := ⟨rfl, rfl, rfl, by decide +kernel, rfl, by decide +kernel, by decide +kernel⟩
noncomputable abbrev s_u44 : Stmt := inClass (top 23) 2
theorem sc_u44 : FnScope ["self", "thing"] ["self", "thing"] (defScope s_u44) := ⟨rfl, rfl, rfl, by decide +kernel, rfl, by decide +kernel, by decide +kernel⟩
noncomputable abbrev s_u16 : Stmt := inClass (top 16) 7
theorem sc_u16 : FnScope ["self", "thing"] ["self", "thing"] (defScope s_u16) := ⟨rfl, rfl, rfl, by decide +kernel, rfl, by decide +kernel, by decide +kernel⟩
noncomputable abbrev s_u41 : Stmt := inClass (top 23) 1
theorem sc_u41 : FnScope ["self", "thing"] ["self", "thing"] (defScope s_u41) := ⟨rfl, rfl, rfl, by decide +kernel, rfl, by decide +kernel, by decide +kernel⟩
noncomputable abbrev s_u68 : Stmt := top 24
theorem sc_u68 : FnScope ["text", "depth", "place"] ["text"] (defScope s_u68) := ⟨rfl, rfl, rfl, by decide +kernel, rfl, by decide +kernel, by decide +kernel⟩
noncomputable abbrev s_u45 : Stmt := inClass (top 23) 4
theorem sc_u45 : FnScope ["self", "thing", "end"] ["self", "thing"] (defScope s_u45) := ⟨rfl, rfl, rfl, by decide +kernel, rfl, by decide +kernel, by decide +kernel⟩
noncomputable abbrev s_u2 : Stmt := inClass (top 17) 7
theorem sc_u2 : FnScope ["self", "counts", "thing", "size", "parts", "left_size", "ahead", "left_number", "right_number"] ["self", "counts", "thing"] (defScope s_u2) := ⟨rfl, rfl, rfl, by decide +kernel, rfl, by decide +kernel, by decide +kernel⟩
noncomputable abbrev s_u0 : Stmt := inClass (top 17) 5
theorem sc_u0 : FnScope ["self", "thing"] ["self", "thing"] (defScope s_u0) := ⟨rfl, rfl, rfl, by decide +kernel, rfl, by decide +kernel, by decide +kernel⟩
noncomputable abbrev s_u20 : Stmt := inClass (top 16) 8
theorem sc_u20 : FnScope ["self", "thing"] ["self", "thing"] (defScope s_u20) := ⟨rfl, rfl, rfl, by decide +kernel, rfl, by decide +kernel, by decide +kernel⟩
noncomputable abbrev s_u50 : Stmt := inClass (top 25) 2
theorem sc_u50 : FnScope ["self", "thing", "ahead", "place", "number"] ["self", "thing"] (defScope s_u50) := ⟨rfl, rfl, rfl, by decide +kernel, rfl, by decide +kernel, by decide +kernel⟩
noncomputable abbrev s_u19 : Stmt := inClass (top 16) 7
theorem sc_u19 : FnScope ["self", "thing"] ["self", "thing"] (defScope s_u19) := ⟨rfl, rfl, rfl, by decide +kernel, rfl, by decide +kernel, by decide +kernel⟩
noncomputable abbrev s_u48 : Stmt := inClass (top 25) 1
theorem sc_u48 : FnScope ["self", "thing"] ["self", "thing"] (defScope s_u48) := ⟨rfl, rfl, rfl, by decide +kernel, rfl, by decide +kernel, by decide +kernel⟩
noncomputable abbrev s_u67 : Stmt := top 26
theorem sc_u67 : FnScope ["stairs", "place"] ["stairs"] (defScope s_u67) := ⟨rfl, rfl, rfl, by decide +kernel, rfl, by decide +kernel, by decide +kernel⟩
noncomputable abbrev s_u52 : Stmt := inClass (top 25) 4
theorem sc_u52 : FnScope ["self", "thing", "begin"] ["self", "thing"] (defScope s_u52) := ⟨rfl, rfl, rfl, by decide +kernel, rfl, by decide +kernel, by decide +kernel⟩
noncomputable abbrev s_u6 : Stmt := inClass (top 17) 7
theorem sc_u6 : FnScope ["self", "counts", "thing", "size", "parts", "left_size", "ahead", "left_number", "right_number"] ["self", "counts", "thing"] (defScope s_u6) := ⟨rfl, rfl, rfl, by decide +kernel, rfl, by decide +kernel, by decide +kernel⟩
noncomputable abbrev s_u3 : Stmt := inClass (top 17) 5
theorem sc_u3 : FnScope ["self", "thing"] ["self", "thing"] (defScope s_u3) := ⟨rfl, rfl, rfl, by decide +kernel, rfl, by decide +kernel, by decide +kernel⟩
noncomputable abbrev s_u25 : Stmt := inClass (top 16) 8
theorem sc_u25 : FnScope ["self", "thing"] ["self", "thing"] (defScope s_u25) := ⟨rfl, rfl, rfl, by decide +kernel, rfl, by decide +kernel, by decide +kernel⟩
noncomputable abbrev s_u57 : Stmt := inClass (top 28) 2
theorem sc_u57 : FnScope ["self", "thing"] ["self", "thing"] (defScope s_u57) := ⟨rfl, rfl, rfl, by decide +kernel, rfl, by decide +kernel, by decide +kernel⟩
noncomputable abbrev s_u21 : Stmt := inClass (top 16) 7
theorem sc_u21 : FnScope ["self", "thing"] ["self", "thing"] (defScope s_u21) := ⟨rfl, rfl, rfl, by decide +kernel, rfl, by decide +kernel, by decide +kernel⟩
noncomputable abbrev s_u51 : Stmt := inClass (top 28) 1
theorem sc_u51 : FnScope ["self", "thing", "pairs", "row", "twin"] ["self", "thing"] (defScope s_u51) := ⟨rfl, rfl, rfl, by decide +kernel, rfl, by decide +kernel, by decide +kernel⟩
noncomputable abbrev s_u59 : Stmt := inClass (top 28) 4
theorem sc_u59 : FnScope ["self", "thing"] ["self", "thing"] (defScope s_u59) := ⟨rfl, rfl, rfl, by decide +kernel, rfl, by decide +kernel, by decide +kernel⟩
noncomputable abbrev s_u9 : Stmt := inClass (top 17) 7
theorem sc_u9 : FnScope ["self", "counts", "thing", "size", "parts", "left_size", "ahead", "left_number", "right_number"] ["self", "counts", "thing"] (defScope s_u9) := ⟨rfl, rfl, rfl, by decide +kernel, rfl, by decide +kernel, by decide +kernel⟩
noncomputable abbrev s_u8 : Stmt := inClass (top 17) 5
theorem sc_u8 : FnScope ["self", "thing"] ["self", "thing"] (defScope s_u8) := ⟨rfl, rfl, rfl, by decide +kernel, rfl, by decide +kernel, by decide +kernel⟩
noncomputable abbrev s_u28 : Stmt := inClass (top 16) 8
theorem sc_u28 : FnScope ["self", "thing"] ["self", "thing"] (defScope s_u28) := ⟨rfl, rfl, rfl, by decide +kernel, rfl, by decide +kernel, by decide +kernel⟩
noncomputable abbrev s_u69 : Stmt := top 43
theorem sc_u69 : FnScope ["_law_kin_here", "_law_way", "_law_far", "_law_size", "_law_thing"] ["_law_kin_here", "_law_way", "_law_far"] (defScope s_u69) := ⟨rfl, rfl, rfl, by decide +kernel, rfl, by decide +kernel, by decide +kernel⟩
noncomputable abbrev s_u76 : Stmt := top 44
theorem sc_u76 : FnScope ["_law_way", "_law_thing"] ["_law_way", "_law_thing"] (defScope s_u76) := ⟨rfl, rfl, rfl, by decide +kernel, rfl, by decide +kernel, by decide +kernel⟩
noncomputable abbrev s_u24 : Stmt := inClass (top 16) 10
theorem sc_u24 : FnScope ["self", "thing", "number", "size"] ["self", "thing"] (defScope s_u24) := ⟨rfl, rfl, rfl, by decide +kernel, rfl, by decide +kernel, by decide +kernel⟩
noncomputable abbrev s_u29 : Stmt := inClass (top 16) 10
theorem sc_u29 : FnScope ["self", "thing", "number", "size"] ["self", "thing"] (defScope s_u29) := ⟨rfl, rfl, rfl, by decide +kernel, rfl, by decide +kernel, by decide +kernel⟩
noncomputable abbrev s_u32 : Stmt := inClass (top 16) 10
theorem sc_u32 : FnScope ["self", "thing", "number", "size"] ["self", "thing"] (defScope s_u32) := ⟨rfl, rfl, rfl, by decide +kernel, rfl, by decide +kernel, by decide +kernel⟩
noncomputable abbrev s_u74 : Stmt := top 45
theorem sc_u74 : FnScope ["_law_way", "_law_size", "_law_number", "_law_kin_here", "_law_many", "_law_thing", "_law_kept", "_law_later"] ["_law_way", "_law_size", "_law_number"] (defScope s_u74) := ⟨rfl, rfl, rfl, by decide +kernel, rfl, by decide +kernel, by decide +kernel⟩
noncomputable abbrev s_u63 : Stmt := top 39
theorem sc_u63 : FnScope ["_law_error", "_law_found"] ["_law_error"] (defScope s_u63) := ⟨rfl, rfl, rfl, by decide +kernel, rfl, by decide +kernel, by decide +kernel⟩
noncomputable abbrev s_u36 : Stmt := top 46
theorem sc_u36 : FnScope ["_law_way", "_law_size", "_law_number", "_law_kept", "e"] ["_law_way", "_law_size", "_law_number"] (defScope s_u36) := ⟨rfl, rfl, rfl, by decide +kernel, rfl, by decide +kernel, by decide +kernel⟩
noncomputable abbrev s_u42 : Stmt := top 47
theorem sc_u42 : FnScope ["_law_way", "_law_size", "_law_kept", "e"] ["_law_way", "_law_size"] (defScope s_u42) := ⟨rfl, rfl, rfl, by decide +kernel, rfl, by decide +kernel, by decide +kernel⟩
noncomputable abbrev s_u37 : Stmt := top 50
theorem sc_u37 : FnScope ["_law_way", "_law_size", "_law_number"] ["_law_way", "_law_size", "_law_number"] (defScope s_u37) := ⟨rfl, rfl, rfl, by decide +kernel, rfl, by decide +kernel, by decide +kernel⟩
noncomputable abbrev s_u79 : Stmt := top 32
theorem sc_u79 : FnScope ["_law_cell", "_law_turn", "_law_number"] ["_law_cell", "_law_turn"] (defScope s_u79) := ⟨rfl, rfl, rfl, by decide +kernel, rfl, by decide +kernel, by decide +kernel⟩
noncomputable abbrev s_u73 : Stmt := top 35
theorem sc_u73 : FnScope ["_law_script", "_law_turn", "_law_many", "_law_cells", "_law_found", "_law_lefts", "_law_k", "_law_at", "_law_number"] ["_law_script", "_law_turn", "_law_many"] (defScope s_u73) := ⟨rfl, rfl, rfl, by decide +kernel, rfl, by decide +kernel, by decide +kernel⟩
noncomputable abbrev s_u54 : Stmt := top 37
theorem sc_u54 : FnScope ["_law_script", "_law_size", "_law_turn", "_law_row", "_law_low", "_law_k", "_law_number"] ["_law_script", "_law_size", "_law_turn"] (defScope s_u54) := ⟨rfl, rfl, rfl, by decide +kernel, rfl, by decide +kernel, by decide +kernel⟩
noncomputable abbrev s_u43 : Stmt := top 51
theorem sc_u43 : FnScope ["_law_text", "_law_cell", "_law_number", "_law_at", "_law_other", "_law_kind", "_law_signs"] ["_law_text", "_law_cell"] (defScope s_u43) := ⟨rfl, rfl, rfl, by decide +kernel, rfl, by decide +kernel, by decide +kernel⟩
noncomputable abbrev s_u64 : Stmt := top 36
theorem sc_u64 : FnScope ["_law_script", "_law_size", "_law_turn", "_law_draws_here", "_law_lean", "_law_signs", "_law_ups", "_law_k", "_law_height", "_law_up"] ["_law_script", "_law_size", "_law_turn"] (defScope s_u64) := ⟨rfl, rfl, rfl, by decide +kernel, rfl, by decide +kernel, by decide +kernel⟩
noncomputable abbrev s_u34 : Stmt := top 48
theorem sc_u34 : FnScope ["_law_way", "_law_thing", "_law_kept", "e"] ["_law_way", "_law_thing"] (defScope s_u34) := ⟨rfl, rfl, rfl, by decide +kernel, rfl, by decide +kernel, by decide +kernel⟩
noncomputable abbrev s_u40 : Stmt := top 49
theorem sc_u40 : FnScope ["_law_way", "_law_thing", "_law_kept", "e"] ["_law_way", "_law_thing"] (defScope s_u40) := ⟨rfl, rfl, rfl, by decide +kernel, rfl, by decide +kernel, by decide +kernel⟩
noncomputable abbrev s_u58 : Stmt := top 52
theorem sc_u58 : FnScope ["_law_way", "_law_script", "_law_size", "_law_row", "_law_far", "_law_at", "_law_thing"] ["_law_way", "_law_script"] (defScope s_u58) := ⟨rfl, rfl, rfl, by decide +kernel, rfl, by decide +kernel, by decide +kernel⟩
noncomputable abbrev s_u83 : Stmt := top 53
theorem sc_u83 : FnScope ["_law_script", "_law_way", "_law_size", "_law_far", "_law_many", "_law_kind", "_law_number", "_law_cell"] ["_law_script"] (defScope s_u83) := ⟨rfl, rfl, rfl, by decide +kernel, rfl, by decide +kernel, by decide +kernel⟩
noncomputable def sp_u61 (K : PySem.W.Frag) (_ : ClA) : Sp := fun vs H Q _ => ∃ (a : Addr) (ns : List Int) (k : Int), vs = [.ref a, .int k] ∧ SqL K H a (ns.map V.int) ∧ 0 ≤ k ∧ Q (.int (ns.getD k.toNat 0)) H
noncomputable def sp_u71 (_ : PySem.W.Frag) (_ : ClA) : Sp := fun vs H Q _ => ∃ n : Int, vs = [.int n] ∧ 0 ≤ n ∧ n ≤ 400 ∧ Q (.int (cR n.toNat)) H
noncomputable def sp_u22 (_ : PySem.W.Frag) (ca : ClA) : Sp := fun vs H Q _ => ∃ (x dx : Addr) (w : Str) (l : Int), vs = [.ref x, .str w, .int l] ∧ H x = some (.ins ca.C_Brackets dx []) ∧ ∀ (fs : List (Str × V)) (H' : Hp), H' = upd H x (.ins ca.C_Brackets dx fs) → Flds fs w l → Q .non H'
noncomputable def sp_u15 (_ : PySem.W.Frag) (ca : ClA) : Sp := fun vs H Q _ => ∃ (x dx : Addr) (w : Str), vs = [.ref x, .str w] ∧ H x = some (.ins ca.C_Brackets dx []) ∧ ∀ (fs : List (Str × V)) (H' : Hp), H' = upd H x (.ins ca.C_Brackets dx fs) → Flds fs w 0 → Q .non H'
noncomputable def sp_u39 (_ : PySem.W.Frag) (ca : ClA) : Sp := fun vs H Q _ => ∃ x dx, vs = [.ref x] ∧ H x = some (.ins ca.C_Brackets dx []) ∧ ∀ (fs : List (Str × V)) (H' : Hp), H' = upd H x (.ins ca.C_Brackets dx fs) → Flds fs "brackets" 0 → Q .non H'
noncomputable def sp_u27 (_ : PySem.W.Frag) (ca : ClA) : Sp := fun vs H Q _ => ∃ (x dx : Addr) (w : Str) (l : Int), vs = [.ref x, .str w, .int l] ∧ H x = some (.ins ca.C_Stairs dx []) ∧ ∀ (fs : List (Str × V)) (H' : Hp), H' = upd H x (.ins ca.C_Stairs dx fs) → Flds fs w l → Q .non H'
noncomputable def sp_u17 (_ : PySem.W.Frag) (ca : ClA) : Sp := fun vs H Q _ => ∃ (x dx : Addr) (w : Str), vs = [.ref x, .str w] ∧ H x = some (.ins ca.C_Stairs dx []) ∧ ∀ (fs : List (Str × V)) (H' : Hp), H' = upd H x (.ins ca.C_Stairs dx fs) → Flds fs w 0 → Q .non H'
noncomputable def sp_u47 (_ : PySem.W.Frag) (ca : ClA) : Sp := fun vs H Q _ => ∃ x dx, vs = [.ref x] ∧ H x = some (.ins ca.C_Stairs dx []) ∧ ∀ (fs : List (Str × V)) (H' : Hp), H' = upd H x (.ins ca.C_Stairs dx fs) → Flds fs "stairs" 0 → Q .non H'
noncomputable def sp_u31 (_ : PySem.W.Frag) (ca : ClA) : Sp := fun vs H Q _ => ∃ (x dx : Addr) (w : Str) (l : Int), vs = [.ref x, .str w, .int l] ∧ H x = some (.ins ca.C_Twins dx []) ∧ ∀ (fs : List (Str × V)) (H' : Hp), H' = upd H x (.ins ca.C_Twins dx fs) → Flds fs w l → Q .non H'
noncomputable def sp_u18 (_ : PySem.W.Frag) (ca : ClA) : Sp := fun vs H Q _ => ∃ (x dx : Addr) (w : Str), vs = [.ref x, .str w] ∧ H x = some (.ins ca.C_Twins dx []) ∧ ∀ (fs : List (Str × V)) (H' : Hp), H' = upd H x (.ins ca.C_Twins dx fs) → Flds fs w 0 → Q .non H'
noncomputable def sp_u49 (_ : PySem.W.Frag) (ca : ClA) : Sp := fun vs H Q _ => ∃ x dx, vs = [.ref x] ∧ H x = some (.ins ca.C_Twins dx []) ∧ ∀ (fs : List (Str × V)) (H' : Hp), H' = upd H x (.ins ca.C_Twins dx fs) → Flds fs "twins" 0 → Q .non H'
noncomputable def sp_u78 (K : PySem.W.Frag) (ca : ClA) : Sp := fun vs H Q _ => ∃ (w : Nat), vs = [.int (w : Int)] ∧ w ≤ 2 ∧
 ∀ (x dx : Addr) (fs : List (Str × V)) (wd : Str) (H' : Hp), Same H H' → (w = 0 → H' x = some (.ins ca.C_Brackets dx fs)) → (w = 1 → H' x = some (.ins ca.C_Stairs dx fs)) → (w = 2 → H' x = some (.ins ca.C_Twins dx fs)) → Flds fs wd 0 → Q (.ref x) H'
noncomputable def sp_u80 (_ : PySem.W.Frag) (_ : ClA) : Sp := fun vs H Q _ => ∃ n : Int, vs = [.int n] ∧ 0 ≤ n ∧ n ≤ 400 ∧ Q (.int (cR n.toNat)) H
noncomputable def sp_u4 (K : PySem.W.Frag) (_ : ClA) : Sp := fun vs H Q _ => ∃ (x : Addr) (n : Int), vs = [.ref x, .int n] ∧ 0 ≤ n ∧ n ≤ 40 ∧ Q (.int (cR n.toNat)) H
noncomputable def sp_u33 (K : PySem.W.Frag) (ca : ClA) (er : Errs) : Sp := fun vs H Q E => ∃ (x dx : Addr) (fs : List (Str × V)) (wd : Str) (n : Int), vs = [.ref x, .int n] ∧ H x = some (.ins ca.C_Brackets dx fs) ∧ Flds fs wd 0 ∧ (((n < 0 ∨ 40 < n) ∧ E (.ref er.size) none H) ∨ (0 ≤ n ∧ n ≤ 40 ∧ Q (.int (cR n.toNat)) H))
noncomputable def sp_u56 (_ : PySem.W.Frag) (_ : ClA) : Sp := fun vs H Q _ => ∃ x, vs = [.ref x] ∧ ∀ (v : V) (H' : Hp), Same H H' → Nw H v → Th 0 H' v .leaf → Q v H'
noncomputable def sp_u46 (K : PySem.W.Frag) (ca : ClA) : Sp := fun vs H Q _ => ∃ (x : Addr) (vl vr : V) (bl br : Bt), vs = [.ref x, vl, vr] ∧ Th 0 H vl bl ∧ Th 0 H vr br ∧ bl.size + br.size ≤ 39 ∧ ∀ (v : V) (H' : Hp), Same H H' → Nw H v → Th 0 H' v (.node bl br) → Q v H'
noncomputable def sp_u5 (K : PySem.W.Frag) (ca : ClA) (n : Nat) : Sp := fun vs H Q _ => ∃ (x dx : Addr) (fs : List (Str × V)) (wd : Str) (pc : Addr) (k : Nat) (t : Bt), vs = [.ref x, .ref pc, .int (n : Int), .int (bnum t)] ∧ H x = some (.ins ca.C_Brackets dx fs) ∧ Flds fs wd 0 ∧ H pc = some (.lst ((shL k).map V.int)) ∧ t.size = n ∧ n ≤ k ∧ k ≤ 40 ∧ ∀ (v : V) (H' : Hp), Same H H' → Nw H v → Th 0 H' v t → Q v H'
noncomputable def spA_u5 (K : PySem.W.Frag) (ca : ClA) : Sp := below 41 (fun n => sp_u5 K ca n)
noncomputable def sp_u82 (_ : PySem.W.Frag) (_ : ClA) : Sp := fun vs H Q _ => ∃ n : Int, vs = [.int n] ∧ 0 ≤ n ∧ n ≤ 60 ∧ ∀ (p : Addr) (H' : Hp), Same H H' → H p = none → H' p = some (.lst ((shL n.toNat).map V.int)) → Q (.ref p) H'
noncomputable def sp_u1 (K : PySem.W.Frag) (ca : ClA) : Sp := fun vs H Q _ => ∃ (x dx : Addr) (fs : List (Str × V)) (wd : Str) (t : Bt), vs = [.ref x, .int (t.size : Int), .int (bnum t)] ∧ H x = some (.ins ca.C_Brackets dx fs) ∧ Flds fs wd 0 ∧ t.size ≤ 40 ∧ ∀ (v : V) (H' : Hp), Same H H' → Nw H v → Th 0 H' v t → Q v H'
noncomputable def sp_u23 (K : PySem.W.Frag) (ca : ClA) (er : Errs) : Sp := fun vs H Q E => ∃ (x dx : Addr) (fs : List (Str × V)) (wd : Str) (n m : Int), vs = [.ref x, .int n, .int m] ∧ H x = some (.ins ca.C_Brackets dx fs) ∧ Flds fs wd 0 ∧ (((n < 0 ∨ 40 < n) ∧ E (.ref er.size) none H) ∨
 (0 ≤ n ∧ n ≤ 40 ∧ (m < 0 ∨ cR n.toNat ≤ m) ∧ E (.ref er.number) none H) ∨
 (∃ t : Bt, n = (t.size : Int) ∧ m = bnum t ∧ t.size ≤ 40 ∧ ∀ (v : V) (H' : Hp), Same H H' → Nw H v → Th 0 H' v t → Q v H'))
noncomputable def sp_u11 (K : PySem.W.Frag) (_ : ClA) : Sp := fun vs H Q _ => ∃ (x : Addr) (n : Int), vs = [.ref x, .int n] ∧ 0 ≤ n ∧ n ≤ 40 ∧ Q (.int (cR n.toNat)) H
noncomputable def sp_u35 (K : PySem.W.Frag) (ca : ClA) (er : Errs) : Sp := fun vs H Q E => ∃ (x dx : Addr) (fs : List (Str × V)) (wd : Str) (n : Int), vs = [.ref x, .int n] ∧ H x = some (.ins ca.C_Stairs dx fs) ∧ Flds fs wd 0 ∧ (((n < 0 ∨ 40 < n) ∧ E (.ref er.size) none H) ∨ (0 ≤ n ∧ n ≤ 40 ∧ Q (.int (cR n.toNat)) H))
noncomputable def sp_u62 (_ : PySem.W.Frag) (_ : ClA) : Sp := fun vs H Q _ => ∃ x, vs = [.ref x] ∧ ∀ (v : V) (H' : Hp), Same H H' → Nw H v → Th 1 H' v .leaf → Q v H'
noncomputable def sp_u75 (K : PySem.W.Frag) (_ : ClA) : Sp := fun vs H Q _ => ∃ (l : Addr) (ns : List Int) (d : Int), vs = [.ref l, .int d] ∧ SqL K H l (ns.map V.int) ∧ ns.length ≤ 1000 ∧ ∀ (p : Addr) (H' : Hp), Same H H' → H p = none → H' p = some (.lst ((ns.map (· + d)).map V.int)) → Q (.ref p) H'
noncomputable def sp_u55 (K : PySem.W.Frag) (ca : ClA) : Sp := fun vs H Q _ => ∃ (x : Addr) (vl vr : V) (bl br : Bt), vs = [.ref x, vl, vr] ∧ Th 1 H vl bl ∧ Th 1 H vr br ∧ bl.size + br.size ≤ 39 ∧ ∀ (v : V) (H' : Hp), Same H H' → Nw H v → Th 1 H' v (.node bl br) → Q v H'
noncomputable def sp_u10 (K : PySem.W.Frag) (ca : ClA) (n : Nat) : Sp := fun vs H Q _ => ∃ (x dx : Addr) (fs : List (Str × V)) (wd : Str) (pc : Addr) (k : Nat) (t : Bt), vs = [.ref x, .ref pc, .int (n : Int), .int (bnum t)] ∧ H x = some (.ins ca.C_Stairs dx fs) ∧ Flds fs wd 0 ∧ H pc = some (.lst ((shL k).map V.int)) ∧ t.size = n ∧ n ≤ k ∧ k ≤ 40 ∧ ∀ (v : V) (H' : Hp), Same H H' → Nw H v → Th 1 H' v t → Q v H'
noncomputable def spA_u10 (K : PySem.W.Frag) (ca : ClA) : Sp := below 41 (fun n => sp_u10 K ca n)
noncomputable def sp_u7 (K : PySem.W.Frag) (ca : ClA) : Sp := fun vs H Q _ => ∃ (x dx : Addr) (fs : List (Str × V)) (wd : Str) (t : Bt), vs = [.ref x, .int (t.size : Int), .int (bnum t)] ∧ H x = some (.ins ca.C_Stairs dx fs) ∧ Flds fs wd 0 ∧ t.size ≤ 40 ∧ ∀ (v : V) (H' : Hp), Same H H' → Nw H v → Th 1 H' v t → Q v H'
noncomputable def sp_u26 (K : PySem.W.Frag) (ca : ClA) (er : Errs) : Sp := fun vs H Q E => ∃ (x dx : Addr) (fs : List (Str × V)) (wd : Str) (n m : Int), vs = [.ref x, .int n, .int m] ∧ H x = some (.ins ca.C_Stairs dx fs) ∧ Flds fs wd 0 ∧ (((n < 0 ∨ 40 < n) ∧ E (.ref er.size) none H) ∨
 (0 ≤ n ∧ n ≤ 40 ∧ (m < 0 ∨ cR n.toNat ≤ m) ∧ E (.ref er.number) none H) ∨
 (∃ t : Bt, n = (t.size : Int) ∧ m = bnum t ∧ t.size ≤ 40 ∧ ∀ (v : V) (H' : Hp), Same H H' → Nw H v → Th 1 H' v t → Q v H'))
noncomputable def sp_u13 (K : PySem.W.Frag) (_ : ClA) : Sp := fun vs H Q _ => ∃ (x : Addr) (n : Int), vs = [.ref x, .int n] ∧ 0 ≤ n ∧ n ≤ 40 ∧ Q (.int (cR n.toNat)) H
noncomputable def sp_u38 (K : PySem.W.Frag) (ca : ClA) (er : Errs) : Sp := fun vs H Q E => ∃ (x dx : Addr) (fs : List (Str × V)) (wd : Str) (n : Int), vs = [.ref x, .int n] ∧ H x = some (.ins ca.C_Twins dx fs) ∧ Flds fs wd 0 ∧ (((n < 0 ∨ 40 < n) ∧ E (.ref er.size) none H) ∨ (0 ≤ n ∧ n ≤ 40 ∧ Q (.int (cR n.toNat)) H))
noncomputable def sp_u65 (_ : PySem.W.Frag) (_ : ClA) : Sp := fun vs H Q _ => ∃ x, vs = [.ref x] ∧ ∀ (v : V) (H' : Hp), Same H H' → Nw H v → Th 2 H' v .leaf → Q v H'
noncomputable def sp_u60 (K : PySem.W.Frag) (ca : ClA) : Sp := fun vs H Q _ => ∃ (x : Addr) (vl vr : V) (bl br : Bt), vs = [.ref x, vl, vr] ∧ Th 2 H vl bl ∧ Th 2 H vr br ∧ bl.size + br.size ≤ 39 ∧ ∀ (v : V) (H' : Hp), Same H H' → Nw H v → Th 2 H' v (.node bl br) → Q v H'
noncomputable def sp_u14 (K : PySem.W.Frag) (ca : ClA) (n : Nat) : Sp := fun vs H Q _ => ∃ (x dx : Addr) (fs : List (Str × V)) (wd : Str) (pc : Addr) (k : Nat) (t : Bt), vs = [.ref x, .ref pc, .int (n : Int), .int (bnum t)] ∧ H x = some (.ins ca.C_Twins dx fs) ∧ Flds fs wd 0 ∧ H pc = some (.lst ((shL k).map V.int)) ∧ t.size = n ∧ n ≤ k ∧ k ≤ 40 ∧ ∀ (v : V) (H' : Hp), Same H H' → Nw H v → Th 2 H' v t → Q v H'
noncomputable def spA_u14 (K : PySem.W.Frag) (ca : ClA) : Sp := below 41 (fun n => sp_u14 K ca n)
noncomputable def sp_u12 (K : PySem.W.Frag) (ca : ClA) : Sp := fun vs H Q _ => ∃ (x dx : Addr) (fs : List (Str × V)) (wd : Str) (t : Bt), vs = [.ref x, .int (t.size : Int), .int (bnum t)] ∧ H x = some (.ins ca.C_Twins dx fs) ∧ Flds fs wd 0 ∧ t.size ≤ 40 ∧ ∀ (v : V) (H' : Hp), Same H H' → Nw H v → Th 2 H' v t → Q v H'
noncomputable def sp_u30 (K : PySem.W.Frag) (ca : ClA) (er : Errs) : Sp := fun vs H Q E => ∃ (x dx : Addr) (fs : List (Str × V)) (wd : Str) (n m : Int), vs = [.ref x, .int n, .int m] ∧ H x = some (.ins ca.C_Twins dx fs) ∧ Flds fs wd 0 ∧ (((n < 0 ∨ 40 < n) ∧ E (.ref er.size) none H) ∨
 (0 ≤ n ∧ n ≤ 40 ∧ (m < 0 ∨ cR n.toNat ≤ m) ∧ E (.ref er.number) none H) ∨
 (∃ t : Bt, n = (t.size : Int) ∧ m = bnum t ∧ t.size ≤ 40 ∧ ∀ (v : V) (H' : Hp), Same H H' → Nw H v → Th 2 H' v t → Q v H'))
noncomputable def sp_u66 (_ : PySem.W.Frag) (_ : ClA) : Sp := fun vs H Q _ => ∃ x : Str, vs = [.str x] ∧ Q (.bl (clo 0 x.cps.toList)) H
noncomputable def sp_u70 (K : PySem.W.Frag) (_ : ClA) (n : Nat) : Sp := fun vs H Q _ => ∃ (v : V) (d : Int) (t : Bt), vs = [v, .int d] ∧ Tw H v t ∧ t.size = n ∧ 0 ≤ d ∧ d + (t.size : Int) ≤ 41 ∧ Q (.int (t.size : Int)) H
noncomputable def spA_u70 (K : PySem.W.Frag) (ca : ClA) : Sp := below 41 (fun n => sp_u70 K ca n)
noncomputable def sp_u72 (_ : PySem.W.Frag) (_ : ClA) : Sp := fun vs H Q _ => ∃ n : Int, vs = [.int n] ∧ Q (.bl true) H
noncomputable def sp_u53 (K : PySem.W.Frag) (_ : ClA) : Sp := fun vs H Q _ => ∃ (l : Addr) (ns : List Int), vs = [.ref l] ∧ SqL K H l (ns.map V.int) ∧ ns.length ≤ 1000 ∧ Q (.bl (stF 0 0 ns)) H
noncomputable def sp_u77 (K : PySem.W.Frag) (_ : ClA) : Sp := fun vs H Q _ => ∃ (w : Nat) (v : V) (t : Bt), vs = [.int (w : Int), v, .int (t.size : Int)] ∧ w ≤ 2 ∧ Th w H v t ∧ t.size ≤ 40 ∧ ∀ H', Same H H' → Q (.bl true) H'
noncomputable def sp_u81 (_ : PySem.W.Frag) (_ : ClA) : Sp := fun vs H Q _ => ∃ x : Str, vs = [.str x] ∧ Q (.bl (clo 0 x.cps.toList)) H
noncomputable def sp_u44 (K : PySem.W.Frag) (_ : ClA) : Sp := fun vs H Q _ => ∃ (x : Addr) (v : V) (b : Bool), vs = [.ref x, v] ∧ (∃ y : Str, v = .str y ∧ b = clo 0 y.cps.toList) ∧ ∀ H', Same H H' → Q (.bl b) H'
noncomputable def sp_u16 (K : PySem.W.Frag) (ca : ClA) (er : Errs) : Sp := fun vs H Q E => ∃ (x dx : Addr) (fs : List (Str × V)) (wd : Str) (v : V), vs = [.ref x, v] ∧ H x = some (.ins ca.C_Brackets dx fs) ∧ Flds fs wd 0 ∧ ((∃ t, Th 0 H v t ∧ ∀ H', Same H H' → Q .non H') ∨ ((∃ y : Str, v = .str y ∧ clo 0 y.cps.toList = false) ∧ ∀ H', Same H H' → E (.ref er.thing) none H'))
noncomputable def sp_u41 (K : PySem.W.Frag) (_ : ClA) : Sp := fun vs H Q _ => ∃ (x : Addr) (v : V) (t : Bt), vs = [.ref x, v] ∧ Th 0 H v t ∧ t.size ≤ 40 ∧ ∀ H', Same H H' → Q (.int (t.size : Int)) H'
noncomputable def sp_u68 (_ : PySem.W.Frag) (_ : ClA) : Sp := fun vs H Q _ => ∃ (t : Str) (a b : List Nat), vs = [.str t] ∧ t.cps.toList = 40 :: (a ++ 41 :: b) ∧ clo 0 a = true ∧ t.length ≤ 1000 ∧ Q (.int ((a.length : Int) + 1)) H
noncomputable def sp_u45 (K : PySem.W.Frag) (ca : ClA) : Sp := fun vs H Q _ => ∃ (x : Addr) (v : V) (bl br : Bt), vs = [.ref x, v] ∧ Th 0 H v (.node bl br) ∧ bl.size + br.size ≤ 39 ∧ ∀ (p : Addr) (vl vr : V) (H' : Hp), Same H H' → H' p = some (.tup [vl, vr]) → Th 0 H' vl bl → Th 0 H' vr br → Q (.ref p) H'
noncomputable def sp_u2 (K : PySem.W.Frag) (ca : ClA) (n : Nat) : Sp := fun vs H Q _ => ∃ (x dx : Addr) (fs : List (Str × V)) (wd : Str) (pc : Addr) (k : Nat) (v : V) (t : Bt), vs = [.ref x, .ref pc, v] ∧ H x = some (.ins ca.C_Brackets dx fs) ∧ Flds fs wd 0 ∧ H pc = some (.lst ((shL k).map V.int)) ∧ Th 0 H v t ∧ t.size = n ∧ n ≤ k ∧ k ≤ 40 ∧ ∀ H', Same H H' → Q (.int (bnum t)) H'
noncomputable def spA_u2 (K : PySem.W.Frag) (ca : ClA) : Sp := below 41 (fun n => sp_u2 K ca n)
noncomputable def sp_u0 (K : PySem.W.Frag) (ca : ClA) : Sp := fun vs H Q _ => ∃ (x dx : Addr) (fs : List (Str × V)) (wd : Str) (v : V) (t : Bt), vs = [.ref x, v] ∧ H x = some (.ins ca.C_Brackets dx fs) ∧ Flds fs wd 0 ∧ Th 0 H v t ∧ t.size ≤ 40 ∧ ∀ H', Same H H' → Q (.int (bnum t)) H'
noncomputable def sp_u20 (K : PySem.W.Frag) (ca : ClA) (er : Errs) : Sp := fun vs H Q E => ∃ (x dx : Addr) (fs : List (Str × V)) (wd : Str) (v : V), vs = [.ref x, v] ∧ H x = some (.ins ca.C_Brackets dx fs) ∧ Flds fs wd 0 ∧ ((∃ t, Th 0 H v t ∧ t.size ≤ 40 ∧ ∀ H', Same H H' → Q (.int (bnum t)) H') ∨ ((∃ y : Str, v = .str y ∧ clo 0 y.cps.toList = false) ∧ ∀ H', Same H H' → E (.ref er.thing) none H'))
noncomputable def sp_u50 (K : PySem.W.Frag) (_ : ClA) : Sp := fun vs H Q _ => ∃ (x : Addr) (v : V) (b : Bool), vs = [.ref x, v] ∧ (∃ (p : Addr) (rs : List Int), v = .ref p ∧ H p = some (.lst (rs.map V.int)) ∧ b = stF 0 0 rs) ∧ ∀ H', Same H H' → Q (.bl b) H'
noncomputable def sp_u19 (K : PySem.W.Frag) (ca : ClA) (er : Errs) : Sp := fun vs H Q E => ∃ (x dx : Addr) (fs : List (Str × V)) (wd : Str) (v : V), vs = [.ref x, v] ∧ H x = some (.ins ca.C_Stairs dx fs) ∧ Flds fs wd 0 ∧ ((∃ t, Th 1 H v t ∧ ∀ H', Same H H' → Q .non H') ∨ ((∃ (p : Addr) (rs : List Int), v = .ref p ∧ H p = some (.lst (rs.map V.int)) ∧ stF 0 0 rs = false) ∧ ∀ H', Same H H' → E (.ref er.thing) none H'))
noncomputable def sp_u48 (K : PySem.W.Frag) (_ : ClA) : Sp := fun vs H Q _ => ∃ (x : Addr) (v : V) (t : Bt), vs = [.ref x, v] ∧ Th 1 H v t ∧ t.size ≤ 40 ∧ ∀ H', Same H H' → Q (.int (t.size : Int)) H'
noncomputable def sp_u67 (K : PySem.W.Frag) (_ : ClA) : Sp := fun vs H Q _ => ∃ (l : Addr) (ps qs : List Int) (a b : Int), vs = [.ref l] ∧ SqL K H l ((joinS ps qs).map V.int) ∧ St ps a ∧ St qs b ∧ ps.length + qs.length ≤ 1000 ∧ Q (.int ((ps.length + 1 : Nat) : Int)) H
noncomputable def sp_u52 (K : PySem.W.Frag) (ca : ClA) : Sp := fun vs H Q _ => ∃ (x : Addr) (v : V) (bl br : Bt), vs = [.ref x, v] ∧ Th 1 H v (.node bl br) ∧ bl.size + br.size ≤ 39 ∧ ∀ (p : Addr) (vl vr : V) (H' : Hp), Same H H' → H' p = some (.tup [vl, vr]) → Th 1 H' vl bl → Th 1 H' vr br → Q (.ref p) H'
noncomputable def sp_u6 (K : PySem.W.Frag) (ca : ClA) (n : Nat) : Sp := fun vs H Q _ => ∃ (x dx : Addr) (fs : List (Str × V)) (wd : Str) (pc : Addr) (k : Nat) (v : V) (t : Bt), vs = [.ref x, .ref pc, v] ∧ H x = some (.ins ca.C_Stairs dx fs) ∧ Flds fs wd 0 ∧ H pc = some (.lst ((shL k).map V.int)) ∧ Th 1 H v t ∧ t.size = n ∧ n ≤ k ∧ k ≤ 40 ∧ ∀ H', Same H H' → Q (.int (bnum t)) H'
noncomputable def spA_u6 (K : PySem.W.Frag) (ca : ClA) : Sp := below 41 (fun n => sp_u6 K ca n)
noncomputable def sp_u3 (K : PySem.W.Frag) (ca : ClA) : Sp := fun vs H Q _ => ∃ (x dx : Addr) (fs : List (Str × V)) (wd : Str) (v : V) (t : Bt), vs = [.ref x, v] ∧ H x = some (.ins ca.C_Stairs dx fs) ∧ Flds fs wd 0 ∧ Th 1 H v t ∧ t.size ≤ 40 ∧ ∀ H', Same H H' → Q (.int (bnum t)) H'
noncomputable def sp_u25 (K : PySem.W.Frag) (ca : ClA) (er : Errs) : Sp := fun vs H Q E => ∃ (x dx : Addr) (fs : List (Str × V)) (wd : Str) (v : V), vs = [.ref x, v] ∧ H x = some (.ins ca.C_Stairs dx fs) ∧ Flds fs wd 0 ∧ ((∃ t, Th 1 H v t ∧ t.size ≤ 40 ∧ ∀ H', Same H H' → Q (.int (bnum t)) H') ∨ ((∃ (p : Addr) (rs : List Int), v = .ref p ∧ H p = some (.lst (rs.map V.int)) ∧ stF 0 0 rs = false) ∧ ∀ H', Same H H' → E (.ref er.thing) none H'))
noncomputable def sp_u57 (K : PySem.W.Frag) (_ : ClA) : Sp := fun vs H Q _ => ∃ (x : Addr) (v : V) (b : Bool), vs = [.ref x, v] ∧ (b = true) ∧ ∀ H', Same H H' → Q (.bl b) H'
noncomputable def sp_u21 (K : PySem.W.Frag) (ca : ClA) (er : Errs) : Sp := fun vs H Q E => ∃ (x dx : Addr) (fs : List (Str × V)) (wd : Str) (v : V), vs = [.ref x, v] ∧ H x = some (.ins ca.C_Twins dx fs) ∧ Flds fs wd 0 ∧ ((∃ t, Th 2 H v t ∧ ∀ H', Same H H' → Q .non H') ∨ ((False) ∧ ∀ H', Same H H' → E (.ref er.thing) none H'))
noncomputable def sp_u51 (K : PySem.W.Frag) (_ : ClA) : Sp := fun vs H Q _ => ∃ (x : Addr) (v : V) (t : Bt), vs = [.ref x, v] ∧ Th 2 H v t ∧ t.size ≤ 40 ∧ ∀ H', Same H H' → Q (.int (t.size : Int)) H'
noncomputable def sp_u59 (K : PySem.W.Frag) (ca : ClA) : Sp := fun vs H Q _ => ∃ (x : Addr) (v : V) (bl br : Bt), vs = [.ref x, v] ∧ Th 2 H v (.node bl br) ∧ bl.size + br.size ≤ 39 ∧ ∀ (p : Addr) (vl vr : V) (H' : Hp), Same H H' → H' p = some (.tup [vl, vr]) → Th 2 H' vl bl → Th 2 H' vr br → Q (.ref p) H'
noncomputable def sp_u9 (K : PySem.W.Frag) (ca : ClA) (n : Nat) : Sp := fun vs H Q _ => ∃ (x dx : Addr) (fs : List (Str × V)) (wd : Str) (pc : Addr) (k : Nat) (v : V) (t : Bt), vs = [.ref x, .ref pc, v] ∧ H x = some (.ins ca.C_Twins dx fs) ∧ Flds fs wd 0 ∧ H pc = some (.lst ((shL k).map V.int)) ∧ Th 2 H v t ∧ t.size = n ∧ n ≤ k ∧ k ≤ 40 ∧ ∀ H', Same H H' → Q (.int (bnum t)) H'
noncomputable def spA_u9 (K : PySem.W.Frag) (ca : ClA) : Sp := below 41 (fun n => sp_u9 K ca n)
noncomputable def sp_u8 (K : PySem.W.Frag) (ca : ClA) : Sp := fun vs H Q _ => ∃ (x dx : Addr) (fs : List (Str × V)) (wd : Str) (v : V) (t : Bt), vs = [.ref x, v] ∧ H x = some (.ins ca.C_Twins dx fs) ∧ Flds fs wd 0 ∧ Th 2 H v t ∧ t.size ≤ 40 ∧ ∀ H', Same H H' → Q (.int (bnum t)) H'
noncomputable def sp_u28 (K : PySem.W.Frag) (ca : ClA) (er : Errs) : Sp := fun vs H Q E => ∃ (x dx : Addr) (fs : List (Str × V)) (wd : Str) (v : V), vs = [.ref x, v] ∧ H x = some (.ins ca.C_Twins dx fs) ∧ Flds fs wd 0 ∧ ((∃ t, Th 2 H v t ∧ t.size ≤ 40 ∧ ∀ H', Same H H' → Q (.int (bnum t)) H') ∨ ((False) ∧ ∀ H', Same H H' → E (.ref er.thing) none H'))
noncomputable def Kn (ca : ClA) (H : Hp) (x dx : Addr) (fs : List (Str × V)) (w : Nat) : Prop := (w = 0 → H x = some (.ins ca.C_Brackets dx fs)) ∧ (w = 1 → H x = some (.ins ca.C_Stairs dx fs)) ∧ (w = 2 → H x = some (.ins ca.C_Twins dx fs))
theorem Kn.same {ca : ClA} {H H' : Hp} {x dx : Addr} {fs : List (Str × V)} {w : Nat} (h : Kn ca H x dx fs w) (s : Same H H') : Kn ca H' x dx fs w := ⟨fun e => s _ _ (h.1 e), fun e => s _ _ (h.2.1 e), fun e => s _ _ (h.2.2 e)⟩
noncomputable def sp_u69 (K : PySem.W.Frag) (ca : ClA) : Sp := fun vs H Q _ => ∃ (x dx : Addr) (fs : List (Str × V)) (wd : Str) (w : Nat) (f : Int), vs = [.ref x, .int (w : Int), .int f] ∧ w ≤ 2 ∧ Kn ca H x dx fs w ∧ Flds fs wd 0 ∧ ∀ H', Same H H' → Q (.bl true) H'
noncomputable def sp_u76 (K : PySem.W.Frag) (_ : ClA) : Sp := fun vs H Q _ => ∃ (w : Nat) (v : V) (t : Bt), vs = [.int (w : Int), v] ∧ w ≤ 2 ∧ Th w H v t ∧ ∀ (u : V) (H' : Hp), Same H H' → (w = 1 → Nw H u) → (w ≠ 1 → u = v) → Th w H' u t → Q u H'
noncomputable def sp_u24 (K : PySem.W.Frag) (ca : ClA) (er : Errs) : Sp := fun vs H Q E => ∃ (x dx : Addr) (fs : List (Str × V)) (wd : Str) (v : V), vs = [.ref x, v] ∧ H x = some (.ins ca.C_Brackets dx fs) ∧ Flds fs wd 0 ∧ ((∃ t, Th 0 H v t ∧ t.size ≤ 40 ∧ (∀ H', Same H H' → bnum t + 1 = sh t.size → Q .non H') ∧ (∀ (t' : Bt) (g : V) (H' : Hp), Same H H' → Nw H g → t'.size = t.size → bnum t' = bnum t + 1 → Th 0 H' g t' → Q g H')) ∨ ((∃ y : Str, v = .str y ∧ clo 0 y.cps.toList = false) ∧ ∀ H', Same H H' → E (.ref er.thing) none H'))
noncomputable def sp_u29 (K : PySem.W.Frag) (ca : ClA) (er : Errs) : Sp := fun vs H Q E => ∃ (x dx : Addr) (fs : List (Str × V)) (wd : Str) (v : V), vs = [.ref x, v] ∧ H x = some (.ins ca.C_Stairs dx fs) ∧ Flds fs wd 0 ∧ ((∃ t, Th 1 H v t ∧ t.size ≤ 40 ∧ (∀ H', Same H H' → bnum t + 1 = sh t.size → Q .non H') ∧ (∀ (t' : Bt) (g : V) (H' : Hp), Same H H' → Nw H g → t'.size = t.size → bnum t' = bnum t + 1 → Th 1 H' g t' → Q g H')) ∨ ((∃ (p : Addr) (rs : List Int), v = .ref p ∧ H p = some (.lst (rs.map V.int)) ∧ stF 0 0 rs = false) ∧ ∀ H', Same H H' → E (.ref er.thing) none H'))
noncomputable def sp_u32 (K : PySem.W.Frag) (ca : ClA) (er : Errs) : Sp := fun vs H Q E => ∃ (x dx : Addr) (fs : List (Str × V)) (wd : Str) (v : V), vs = [.ref x, v] ∧ H x = some (.ins ca.C_Twins dx fs) ∧ Flds fs wd 0 ∧ ((∃ t, Th 2 H v t ∧ t.size ≤ 40 ∧ (∀ H', Same H H' → bnum t + 1 = sh t.size → Q .non H') ∧ (∀ (t' : Bt) (g : V) (H' : Hp), Same H H' → Nw H g → t'.size = t.size → bnum t' = bnum t + 1 → Th 2 H' g t' → Q g H')) ∨ ((False) ∧ ∀ H', Same H H' → E (.ref er.thing) none H'))
noncomputable def sp_u74 (K : PySem.W.Frag) (ca : ClA) : Sp := fun vs H Q _ => ∃ (w : Nat) (t : Bt), vs = [.int (w : Int), .int (t.size : Int), .int (bnum t)] ∧ w ≤ 2 ∧ t.size ≤ 40 ∧ ∀ H', Q (.bl true) H'
noncomputable def sp_u63 (_ : PySem.W.Frag) (_ : ClA) (er : Errs) : Sp := fun vs H Q _ => ∃ (e c : Addr) (t : Str), vs = [.ref e] ∧ H e = some (excO e (.ref c)) ∧ ((c = er.size ∧ t = Str.ofString "size") ∨ (c = er.number ∧ t = Str.ofString "number") ∨ (c = er.thing ∧ t = Str.ofString "thing")) ∧
 ∀ (p : Addr) (H' : Hp), Same H H' → H p = none → H' p = some (.lst [.str t]) → Q (.ref p) H'
noncomputable def sp_u36 (K : PySem.W.Frag) (ca : ClA) (er : Errs) : Sp := fun vs H Q _ => ∃ (w : Nat) (n m : Int) (t : Str), vs = [.int (w : Int), .int n, .int m] ∧ w ≤ 2 ∧ (((n < 0 ∨ 40 < n) ∧ t = Str.ofString "size") ∨ (0 ≤ n ∧ n ≤ 40 ∧ (m < 0 ∨ cR n.toNat ≤ m) ∧ t = Str.ofString "number")) ∧
 ∀ (p : Addr) (H' : Hp), Same H H' → H p = none → H' p = some (.lst [.str t]) → Q (.ref p) H'
noncomputable def sp_u42 (K : PySem.W.Frag) (ca : ClA) (er : Errs) : Sp := fun vs H Q _ => ∃ (w : Nat) (n : Int), vs = [.int (w : Int), .int n] ∧ w ≤ 2 ∧ (n < 0 ∨ 40 < n) ∧
 ∀ (p : Addr) (H' : Hp), Same H H' → H p = none → H' p = some (.lst [.str (Str.ofString "size")]) → Q (.ref p) H'
noncomputable def sp_u37 (K : PySem.W.Frag) (ca : ClA) (er : Errs) : Sp := fun vs H Q _ => ∃ (w : Nat) (n m : Int), vs = [.int (w : Int), .int n, .int m] ∧ w ≤ 2 ∧ (n < 0 ∨ 40 < n) ∧ ∀ H', Same H H' → Q (.bl true) H'
noncomputable def sp_u79 (_ : PySem.W.Frag) (_ : ClA) : Sp := fun vs H Q _ => ∃ c t : Int, vs = [.int c, .int t] ∧ 0 ≤ t ∧ t ≤ 100000 ∧ ∀ m : Int, 0 ≤ m → m < 2147483629 → Q (.int m) H
noncomputable def sp_u73 (K : PySem.W.Frag) (_ : ClA) : Sp := fun vs H Q _ => ∃ (a : Addr) (ns : List Int) (t m : Int), vs = [.ref a, .int t, .int m] ∧ SqL K H a (ns.map V.int) ∧ ns.length ≤ 63 ∧ 0 ≤ t ∧ t ≤ 1000 ∧ 0 ≤ m ∧ m ≤ 1000 ∧
 ∀ (p : Addr) (xs : List Int) (H' : Hp), Same H H' → H p = none → H' p = some (.lst (xs.map V.int)) → xs.length = m.toNat → (∀ x ∈ xs, 0 ≤ x ∧ x < 2147483587) → Q (.ref p) H'
noncomputable def sp_u54 (K : PySem.W.Frag) (_ : ClA) : Sp := fun vs H Q _ => ∃ (a : Addr) (ns : List Int) (n : Nat) (t : Int), vs = [.ref a, .int n, .int t] ∧ SqL K H a (ns.map V.int) ∧ ns.length ≤ 63 ∧ n ≤ 40 ∧ 0 ≤ t ∧ t ≤ 900 ∧
 ∀ (p : Addr) (rs : List Int) (b : Int) (H' : Hp), Same H H' → H p = none → H' p = some (.lst (rs.map V.int)) → rs.length = n → St rs b → Q (.ref p) H'
noncomputable def sp_u43 (_ : PySem.W.Frag) (_ : ClA) : Sp := fun vs H Q _ => ∃ (t : Str) (c : Int), vs = [.str t, .int c] ∧ 0 < t.length ∧ t.length ≤ 200 ∧ ∀ (y : Str) (H' : Hp), Same H H' → y.length ≤ t.length + 2 → Q (.str y) H'
noncomputable def sp_u64 (K : PySem.W.Frag) (_ : ClA) : Sp := fun vs H Q _ => ∃ (a : Addr) (ns : List Int) (n t : Int), vs = [.ref a, .int n, .int t] ∧ SqL K H a (ns.map V.int) ∧ ns.length ≤ 63 ∧ 0 ≤ n ∧ n ≤ 40 ∧ 0 ≤ t ∧ t ≤ 1000 ∧
 ∀ (x : Str) (H' : Hp), Same H H' → clo 0 x.cps.toList = true → x.length = 2 * n.toNat → Q (.str x) H'
noncomputable def sp_u34 (K : PySem.W.Frag) (ca : ClA) (er : Errs) : Sp := fun vs H Q _ => ∃ (w : Nat) (v : V), vs = [.int (w : Int), v] ∧ ((w = 0 ∧ ∃ y : Str, v = .str y ∧ clo 0 y.cps.toList = false) ∨ (w = 1 ∧ ∃ (p : Addr) (rs : List Int), v = .ref p ∧ H p = some (.lst (rs.map V.int)) ∧ stF 0 0 rs = false)) ∧
 ∀ (p : Addr) (H' : Hp), Same H H' → H p = none → H' p = some (.lst [.str (Str.ofString "thing")]) → Q (.ref p) H'
noncomputable def sp_u40 (K : PySem.W.Frag) (ca : ClA) (er : Errs) : Sp := fun vs H Q _ => ∃ (w : Nat) (v : V), vs = [.int (w : Int), v] ∧ ((w = 0 ∧ ∃ y : Str, v = .str y ∧ clo 0 y.cps.toList = false) ∨ (w = 1 ∧ ∃ (p : Addr) (rs : List Int), v = .ref p ∧ H p = some (.lst (rs.map V.int)) ∧ stF 0 0 rs = false)) ∧
 ∀ (p : Addr) (H' : Hp), Same H H' → H p = none → H' p = some (.lst [.str (Str.ofString "thing")]) → Q (.ref p) H'
noncomputable def sp_u58 (K : PySem.W.Frag) (ca : ClA) (er : Errs) : Sp := fun vs H Q _ => ∃ (w : Nat) (a : Addr) (ns : List Int), vs = [.int (w : Int), .ref a] ∧ w ≤ 1 ∧ SqL K H a (ns.map V.int) ∧ ns.length ≤ 63 ∧ ∀ H', Q (.bl true) H'
noncomputable def sp_u83 (K : PySem.W.Frag) (_ : ClA) (_ : Errs) : Sp := fun vs H Q _ => ∃ (a : Addr) (ns : List Int), vs = [.ref a] ∧ SqL K H a (ns.map V.int) ∧ ns.length ≤ 63 ∧ ∀ H', Q (.bl true) H'
section
variable {P : Program} {w : World} {K : PySem.W.Frag} {mg : Str → Option Value} {base : Heap}
theorem ok_u61 {er : Errs} (EO : ErrOk K mg er) {ca : ClA} (CA : ClOk K mg ca) {f : Addr} {fd : FuncData} (F : Fun K "_law_cell_at" "_law_cell_at" s_u61 f fd) (m_len : mg "len" = none) : FnOk P w K mg base CX0 1 f fd ["_law_script", "_law_k"] (sp_u61 K ca) := by
 refine F.ok sc_u61 (fun vs H Q E h => ?_) (fun cdv A outer s H vs Q E hr h => ?_)
 ·obtain ⟨a, ns, k, rfl, hS, h0, q⟩ := h
  rfl
 obtain ⟨a, ns, k, rfl, hS, h0, q⟩ := h
 refine ⟨_, pss_cons (ps_if (pt_cmpR op_lt (pv 1) (pe_callB call_len_seq rfl m_len bb_len (pa_cons (pv 0) pa_nil)) (nomark _)) (pss_one (ps_ret (pe_ix ix_list (pv 0) (pv 1) (fun _ _ => rfl)))) pss_nil)
  (pss_one (ps_ret pe_int)), ?_⟩
 have hl : (ns.map V.int).length = ns.length := List.length_map _
 refine ⟨_, rfl, _, rfl, a, _, rfl, .inl hS, _, _, rfl, rfl, _, rfl, ite2 (fun c => ?_) (fun c => ?_)⟩
 ·have c' : k < (((ns.map V.int).length : Nat) : Int) := of_decide_eq_true c
  rw [hl] at c'
  exact ⟨_, rfl, _, rfl, a, _, _, _, rfl, rfl, hS, atI_int h0 c', q⟩
 ·have c' : ¬ k < (((ns.map V.int).length : Nat) : Int) := of_decide_eq_false (Bool.eq_false_iff.mpr c)
  rw [hl] at c'
  have e : ns.getD k.toNat 0 = 0 := by rw [List.getD_eq_getElem?_getD, List.getElem?_eq_none (by omega)]; rfl
  rw [e] at q
  exact q
theorem ok_u71 {er : Errs} (EO : ErrOk K mg er) {ca : ClA} (CA : ClOk K mg ca) {f : Addr} {fd : FuncData} (F : Fun K "_law_share" "_law_share" s_u71 f fd) (m_range : mg "range" = none) : FnOk P w K mg base CX0 1 f fd ["_law_size"] (sp_u71 K ca) := by
 refine F.ok sc_u71 (fun vs H Q E h => ?_) (fun cdv A outer s H vs Q E hr h => ?_)
 ·obtain ⟨n, rfl, h0, h1, q⟩ := h
  rfl
 obtain ⟨n, rfl, h0, h1, q⟩ := h
 refine ⟨_, pss_cons (ps_set (i := 1) sc_u71.nd rfl (Or.inl rfl) pe_int)
  (pss_cons (ps_for PassesOwn.never rfl (pi_range1 rfl m_range (pa_cons (pv 0) pa_nil)) (pg_name (i := 2) sc_u71.nd rfl (Or.inl rfl)) (pss_one (ps_set (i := 1) sc_u71.nd rfl (Or.inl rfl) (pe_op op_fdivL (pe_op op_mul (pv 1) (pe_op op_add (pe_op op_mul pe_int (pv 2)) pe_int)) (pe_op op_add (pv 2) pe_int)))))
  (pss_one (ps_ret (pv 1)))), ?_⟩
 refine ⟨_, rfl, _, rfl, by omega, by omega, for_range (lo := 0) (n := n.toNat) (fun i σ H' => H' = H ∧ ∃ o, σ = [some (.int n), some (.int (cR i)), o]) ⟨rfl, _, rfl⟩ ?_ ?_⟩
 ·rintro i σ H' hi ⟨rfl, o, rfl⟩
  refine ⟨_, rfl, _, rfl, _, _, rfl, rfl, .inl ⟨by decide, by decide⟩, _, _, rfl, rfl, _, _, rfl, rfl, .inr ⟨by omega, by omega⟩, _, rfl, _, _, rfl, rfl, _, _, rfl, rfl, ⟨by omega, ?_⟩, rfl, some (.int ((0 : Int) + (i : Int))), ?_⟩
  ·exact log2_small (by omega) (by omega)
  ·have e : (0 : Int) + (i : Int) = i := Int.zero_add _
   show [some (V.int n), some (V.int (cR i * (4 * ((0 : Int) + (i : Int)) + 2) / (((0 : Int) + (i : Int)) + 2))), some (V.int ((0 : Int) + (i : Int)))] = _
   rw [e]
   try rfl
 ·rintro σ H' ⟨rfl, o, rfl⟩
  exact ⟨_, rfl, q⟩
theorem ok_u22 {er : Errs} (EO : ErrOk K mg er) {ca : ClA} (CA : ClOk K mg ca) {fd : FuncData} (F : Fun K "__init__" "Family.__init__" s_u22 ca.f_u22 fd) : FnOk P w K mg base CX0 1 ca.f_u22 fd ["self", "word", "least"] (sp_u22 K ca) := by
 refine F.ok sc_u22 (fun vs H Q E h => ?_) (fun cdv A outer s H vs Q E hr h => ?_)
 ·obtain ⟨x, dx, w, l, rfl, hx, q⟩ := h
  rfl
 obtain ⟨x, dx, w, l, rfl, hx, q⟩ := h
 refine ⟨_, pss_cons (ps_fld (pv 0) (pv 1) rfl)
  (pss_one (ps_fld (pv 0) (pv 2) rfl)), ?_⟩
 refine ⟨_, rfl, _, rfl, x, ca.C_Brackets, dx, _, rfl, hx, CA.c_Brackets, CA.na_Brackets_word, (by show 0 < 1000; decide), ?_⟩
 refine ⟨_, rfl, _, rfl, x, ca.C_Brackets, dx, _, rfl, upd_same, CA.c_Brackets, CA.na_Brackets_least, (by show 1 < 1000; decide), ?_⟩
 exact q _ _ upd_upd (flds_mk w l)
theorem ok_u15 {er : Errs} (EO : ErrOk K mg er) {ca : ClA} (CA : ClOk K mg ca) {fd : FuncData} (F : Fun K "__init__" "SplitFamily.__init__" s_u15 ca.f_u15 fd) {fd0 : FuncData} (d_u22 : MDef P w K mg base ["self", "word", "least"] 1 (sp_u22 K ca) ca.f_u22 fd0) : FnOk P w K mg base CX0 3 ca.f_u15 fd ["self", "word"] (sp_u15 K ca) := by
 refine F.ok sc_u15 (fun vs H Q E h => ?_) (fun cdv A outer s H vs Q E hr h => ?_)
 ·obtain ⟨x, dx, w, rfl, hx, q⟩ := h
  rfl
 obtain ⟨x, dx, w, rfl, hx, q⟩ := h
 refine ⟨_, pss_one (ps_expr (pcls CA.m_Family CA.cm_Family___init___Brackets d_u22 hr (pa_cons (pv 0) (pa_cons (pv 1) (pa_cons pe_int pa_nil))))), ?_⟩
 exact ⟨_, rfl, _, rfl, x, dx, w, 0, rfl, hx, fun fs H' e f => q fs H' e f⟩
theorem ok_u39 {er : Errs} (EO : ErrOk K mg er) {ca : ClA} (CA : ClOk K mg ca) {fd : FuncData} (F : Fun K "__init__" "Brackets.__init__" s_u39 ca.f_u39 fd) {fd0 : FuncData} (d_u15 : MDef P w K mg base ["self", "word"] 3 (sp_u15 K ca) ca.f_u15 fd0) : FnOk P w K mg base CX0 5 ca.f_u39 fd ["self"] (sp_u39 K ca) := by
 refine F.ok sc_u39 (fun vs H Q E h => ?_) (fun cdv A outer s H vs Q E hr h => ?_)
 ·obtain ⟨x, dx, rfl, hx, q⟩ := h
  rfl
 obtain ⟨x, dx, rfl, hx, q⟩ := h
 refine ⟨_, pss_one (ps_expr (pcls CA.m_SplitFamily CA.cm_SplitFamily___init___Brackets d_u15 hr (pa_cons (pv 0) (pa_cons pe_str pa_nil)))), ?_⟩
 exact ⟨_, rfl, x, dx, _, rfl, hx, fun fs H' e f => q fs H' e f⟩
theorem ok_u27 {er : Errs} (EO : ErrOk K mg er) {ca : ClA} (CA : ClOk K mg ca) {fd : FuncData} (F : Fun K "__init__" "Family.__init__" s_u27 ca.f_u27 fd) : FnOk P w K mg base CX0 1 ca.f_u27 fd ["self", "word", "least"] (sp_u27 K ca) := by
 refine F.ok sc_u27 (fun vs H Q E h => ?_) (fun cdv A outer s H vs Q E hr h => ?_)
 ·obtain ⟨x, dx, w, l, rfl, hx, q⟩ := h
  rfl
 obtain ⟨x, dx, w, l, rfl, hx, q⟩ := h
 refine ⟨_, pss_cons (ps_fld (pv 0) (pv 1) rfl)
  (pss_one (ps_fld (pv 0) (pv 2) rfl)), ?_⟩
 refine ⟨_, rfl, _, rfl, x, ca.C_Stairs, dx, _, rfl, hx, CA.c_Stairs, CA.na_Stairs_word, (by show 0 < 1000; decide), ?_⟩
 refine ⟨_, rfl, _, rfl, x, ca.C_Stairs, dx, _, rfl, upd_same, CA.c_Stairs, CA.na_Stairs_least, (by show 1 < 1000; decide), ?_⟩
 exact q _ _ upd_upd (flds_mk w l)
theorem ok_u17 {er : Errs} (EO : ErrOk K mg er) {ca : ClA} (CA : ClOk K mg ca) {fd : FuncData} (F : Fun K "__init__" "SplitFamily.__init__" s_u17 ca.f_u17 fd) {fd0 : FuncData} (d_u27 : MDef P w K mg base ["self", "word", "least"] 1 (sp_u27 K ca) ca.f_u27 fd0) : FnOk P w K mg base CX0 3 ca.f_u17 fd ["self", "word"] (sp_u17 K ca) := by
 refine F.ok sc_u17 (fun vs H Q E h => ?_) (fun cdv A outer s H vs Q E hr h => ?_)
 ·obtain ⟨x, dx, w, rfl, hx, q⟩ := h
  rfl
 obtain ⟨x, dx, w, rfl, hx, q⟩ := h
 refine ⟨_, pss_one (ps_expr (pcls CA.m_Family CA.cm_Family___init___Stairs d_u27 hr (pa_cons (pv 0) (pa_cons (pv 1) (pa_cons pe_int pa_nil))))), ?_⟩
 exact ⟨_, rfl, _, rfl, x, dx, w, 0, rfl, hx, fun fs H' e f => q fs H' e f⟩
theorem ok_u47 {er : Errs} (EO : ErrOk K mg er) {ca : ClA} (CA : ClOk K mg ca) {fd : FuncData} (F : Fun K "__init__" "Stairs.__init__" s_u47 ca.f_u47 fd) {fd0 : FuncData} (d_u17 : MDef P w K mg base ["self", "word"] 3 (sp_u17 K ca) ca.f_u17 fd0) : FnOk P w K mg base CX0 5 ca.f_u47 fd ["self"] (sp_u47 K ca) := by
 refine F.ok sc_u47 (fun vs H Q E h => ?_) (fun cdv A outer s H vs Q E hr h => ?_)
 ·obtain ⟨x, dx, rfl, hx, q⟩ := h
  rfl
 obtain ⟨x, dx, rfl, hx, q⟩ := h
 refine ⟨_, pss_one (ps_expr (pcls CA.m_SplitFamily CA.cm_SplitFamily___init___Stairs d_u17 hr (pa_cons (pv 0) (pa_cons pe_str pa_nil)))), ?_⟩
 exact ⟨_, rfl, x, dx, _, rfl, hx, fun fs H' e f => q fs H' e f⟩
theorem ok_u31 {er : Errs} (EO : ErrOk K mg er) {ca : ClA} (CA : ClOk K mg ca) {fd : FuncData} (F : Fun K "__init__" "Family.__init__" s_u31 ca.f_u31 fd) : FnOk P w K mg base CX0 1 ca.f_u31 fd ["self", "word", "least"] (sp_u31 K ca) := by
 refine F.ok sc_u31 (fun vs H Q E h => ?_) (fun cdv A outer s H vs Q E hr h => ?_)
 ·obtain ⟨x, dx, w, l, rfl, hx, q⟩ := h
  rfl
 obtain ⟨x, dx, w, l, rfl, hx, q⟩ := h
 refine ⟨_, pss_cons (ps_fld (pv 0) (pv 1) rfl)
  (pss_one (ps_fld (pv 0) (pv 2) rfl)), ?_⟩
 refine ⟨_, rfl, _, rfl, x, ca.C_Twins, dx, _, rfl, hx, CA.c_Twins, CA.na_Twins_word, (by show 0 < 1000; decide), ?_⟩
 refine ⟨_, rfl, _, rfl, x, ca.C_Twins, dx, _, rfl, upd_same, CA.c_Twins, CA.na_Twins_least, (by show 1 < 1000; decide), ?_⟩
 exact q _ _ upd_upd (flds_mk w l)
theorem ok_u18 {er : Errs} (EO : ErrOk K mg er) {ca : ClA} (CA : ClOk K mg ca) {fd : FuncData} (F : Fun K "__init__" "SplitFamily.__init__" s_u18 ca.f_u18 fd) {fd0 : FuncData} (d_u31 : MDef P w K mg base ["self", "word", "least"] 1 (sp_u31 K ca) ca.f_u31 fd0) : FnOk P w K mg base CX0 3 ca.f_u18 fd ["self", "word"] (sp_u18 K ca) := by
 refine F.ok sc_u18 (fun vs H Q E h => ?_) (fun cdv A outer s H vs Q E hr h => ?_)
 ·obtain ⟨x, dx, w, rfl, hx, q⟩ := h
  rfl
 obtain ⟨x, dx, w, rfl, hx, q⟩ := h
 refine ⟨_, pss_one (ps_expr (pcls CA.m_Family CA.cm_Family___init___Twins d_u31 hr (pa_cons (pv 0) (pa_cons (pv 1) (pa_cons pe_int pa_nil))))), ?_⟩
 exact ⟨_, rfl, _, rfl, x, dx, w, 0, rfl, hx, fun fs H' e f => q fs H' e f⟩
theorem ok_u49 {er : Errs} (EO : ErrOk K mg er) {ca : ClA} (CA : ClOk K mg ca) {fd : FuncData} (F : Fun K "__init__" "Twins.__init__" s_u49 ca.f_u49 fd) {fd0 : FuncData} (d_u18 : MDef P w K mg base ["self", "word"] 3 (sp_u18 K ca) ca.f_u18 fd0) : FnOk P w K mg base CX0 5 ca.f_u49 fd ["self"] (sp_u49 K ca) := by
 refine F.ok sc_u49 (fun vs H Q E h => ?_) (fun cdv A outer s H vs Q E hr h => ?_)
 ·obtain ⟨x, dx, rfl, hx, q⟩ := h
  rfl
 obtain ⟨x, dx, rfl, hx, q⟩ := h
 refine ⟨_, pss_one (ps_expr (pcls CA.m_SplitFamily CA.cm_SplitFamily___init___Twins d_u18 hr (pa_cons (pv 0) (pa_cons pe_str pa_nil)))), ?_⟩
 exact ⟨_, rfl, x, dx, _, rfl, hx, fun fs H' e f => q fs H' e f⟩
theorem ok_u78 {er : Errs} (EO : ErrOk K mg er) {ca : ClA} (CA : ClOk K mg ca) {f : Addr} {fd : FuncData} (F : Fun K "_law_kin" "_law_kin" s_u78 f fd) {fd0 : FuncData} (d_u39 : MDef P w K mg base ["self"] 5 (sp_u39 K ca) ca.f_u39 fd0) {fd1 : FuncData} (d_u47 : MDef P w K mg base ["self"] 5 (sp_u47 K ca) ca.f_u47 fd1) {fd2 : FuncData} (d_u49 : MDef P w K mg base ["self"] 5 (sp_u49 K ca) ca.f_u49 fd2) : FnOk P w K mg base CX0 7 f fd ["_law_way"] (sp_u78 K ca) := by
 refine F.ok sc_u78 (fun vs H Q E h => ?_) (fun cdv A outer s H vs Q E hr h => ?_)
 ·obtain ⟨w, rfl, hw, q⟩ := h
  rfl
 obtain ⟨w, rfl, hw, q⟩ := h
 refine ⟨_, pss_cons (ps_if (pt_cmpR op_eq (pv 0) pe_int (nomark _)) (pss_one (ps_ret (pmake0 CA.mk_Brackets CA.m_Brackets d_u39 hr))) pss_nil)
  (pss_cons (ps_if (pt_cmpR op_eq (pv 0) pe_int (nomark _)) (pss_one (ps_ret (pmake0 CA.mk_Stairs CA.m_Stairs d_u47 hr))) pss_nil)
  (pss_one (ps_ret (pmake0 CA.mk_Twins CA.m_Twins d_u49 hr)))), ?_⟩
 rcases (by omega : w = 0 ∨ w = 1 ∨ w = 2) with rfl | rfl | rfl
 ·refine ⟨_, rfl, rfl, _, rfl, iteP rfl ?_⟩
  intro x dx nx ndx nex
  refine ⟨x, dx, rfl, upd_same, fun fs H1 e1 fl => ⟨rfl, ?_⟩⟩
  have s1 : Same H H1 := by rw [e1]; exact ((Same.new (Same.refl H) ndx _).upd nx _).upd nx _
  have hx1 : H1 x = some (.ins ca.C_Brackets dx fs) := by rw [e1]; exact upd_same
  exact q x dx fs _ H1 s1 (fun _ => hx1) (fun z => absurd z (by decide)) (fun z => absurd z (by decide)) fl
 ·refine ⟨_, rfl, rfl, _, rfl, iteN (by decide) ⟨_, rfl, rfl, _, rfl, iteP rfl ?_⟩⟩
  intro x dx nx ndx nex
  refine ⟨x, dx, rfl, upd_same, fun fs H1 e1 fl => ⟨rfl, ?_⟩⟩
  have s1 : Same H H1 := by rw [e1]; exact ((Same.new (Same.refl H) ndx _).upd nx _).upd nx _
  have hx1 : H1 x = some (.ins ca.C_Stairs dx fs) := by rw [e1]; exact upd_same
  exact q x dx fs _ H1 s1 (fun z => absurd z (by decide)) (fun _ => hx1) (fun z => absurd z (by decide)) fl
 ·refine ⟨_, rfl, rfl, _, rfl, iteN (by decide) ⟨_, rfl, rfl, _, rfl, iteN (by decide) ?_⟩⟩
  intro x dx nx ndx nex
  refine ⟨x, dx, rfl, upd_same, fun fs H1 e1 fl => ⟨rfl, ?_⟩⟩
  have s1 : Same H H1 := by rw [e1]; exact ((Same.new (Same.refl H) ndx _).upd nx _).upd nx _
  have hx1 : H1 x = some (.ins ca.C_Twins dx fs) := by rw [e1]; exact upd_same
  exact q x dx fs _ H1 s1 (fun z => absurd z (by decide)) (fun z => absurd z (by decide)) (fun _ => hx1) fl
theorem ok_u80 {er : Errs} (EO : ErrOk K mg er) {ca : ClA} (CA : ClOk K mg ca) {f : Addr} {fd : FuncData} (F : Fun K "by_rule" "by_rule" s_u80 f fd) (m_range : mg "range" = none) : FnOk P w K mg base CX0 1 f fd ["size"] (sp_u80 K ca) := by
 refine F.ok sc_u80 (fun vs H Q E h => ?_) (fun cdv A outer s H vs Q E hr h => ?_)
 ·obtain ⟨n, rfl, h0, h1, q⟩ := h
  rfl
 obtain ⟨n, rfl, h0, h1, q⟩ := h
 refine ⟨_, pss_cons (ps_set (i := 1) sc_u80.nd rfl (Or.inl rfl) pe_int)
  (pss_cons (ps_for PassesOwn.never rfl (pi_range1 rfl m_range (pa_cons (pv 0) pa_nil)) (pg_name (i := 2) sc_u80.nd rfl (Or.inl rfl)) (pss_one (ps_set (i := 1) sc_u80.nd rfl (Or.inl rfl) (pe_op op_fdivL (pe_op op_mul (pv 1) (pe_op op_add (pe_op op_mul pe_int (pv 2)) pe_int)) (pe_op op_add (pv 2) pe_int)))))
  (pss_one (ps_ret (pv 1)))), ?_⟩
 refine ⟨_, rfl, _, rfl, by omega, by omega, for_range (lo := 0) (n := n.toNat) (fun i σ H' => H' = H ∧ ∃ o, σ = [some (.int n), some (.int (cR i)), o]) ⟨rfl, _, rfl⟩ ?_ ?_⟩
 ·rintro i σ H' hi ⟨rfl, o, rfl⟩
  refine ⟨_, rfl, _, rfl, _, _, rfl, rfl, .inl ⟨by decide, by decide⟩, _, _, rfl, rfl, _, _, rfl, rfl, .inr ⟨by omega, by omega⟩, _, rfl, _, _, rfl, rfl, _, _, rfl, rfl, ⟨by omega, ?_⟩, rfl, some (.int ((0 : Int) + (i : Int))), ?_⟩
  ·exact log2_small (by omega) (by omega)
  ·have e : (0 : Int) + (i : Int) = i := Int.zero_add _
   show [some (V.int n), some (V.int (cR i * (4 * ((0 : Int) + (i : Int)) + 2) / (((0 : Int) + (i : Int)) + 2))), some (V.int ((0 : Int) + (i : Int)))] = _
   rw [e]
   try rfl
 ·rintro σ H' ⟨rfl, o, rfl⟩
  exact ⟨_, rfl, q⟩
theorem ok_u4 {er : Errs} (EO : ErrOk K mg er) {ca : ClA} (CA : ClOk K mg ca) {fd : FuncData} (F : Fun K "unchecked_many" "SplitFamily.unchecked_many" s_u4 ca.f_u4 fd) {f0 : Addr} {fd0 : FuncData} (d_u80 : Def P w K mg base "by_rule" ["size"] 1 (sp_u80 K ca) f0 fd0) : FnOk P w K mg base CX0 2 ca.f_u4 fd ["self", "size"] (sp_u4 K ca) := by
 refine F.ok sc_u4 (fun vs H Q E h => ?_) (fun cdv A outer s H vs Q E hr h => ?_)
 ·obtain ⟨x, n, rfl, n0, n40, q⟩ := h
  rfl
 obtain ⟨x, n, rfl, n0, n40, q⟩ := h
 refine ⟨_, pss_one (ps_ret (pcall d_u80 hr (pa_cons (pv 1) pa_nil))), ?_⟩
 exact ⟨_, rfl, n, rfl, n0, by omega, q⟩
theorem ok_u33 {er : Errs} (EO : ErrOk K mg er) {ca : ClA} (CA : ClOk K mg ca) {fd : FuncData} (F : Fun K "many" "Family.many" s_u33 ca.f_u33 fd) {fd0 : FuncData} (d_u4 : MDef P w K mg base ["self", "size"] 2 (sp_u4 K ca) ca.f_u4 fd0) {u_GREATEST_SIZE : Value} (g_GREATEST_SIZE : mg "GREATEST_SIZE" = some u_GREATEST_SIZE ∧ RelV (.int 40) u_GREATEST_SIZE) : FnOk P w K mg base (CX1 P w) 3 ca.f_u33 fd ["self", "size"] (sp_u33 K ca er) := by
 refine F.okE sc_u33 (fun vs H Q E h => ?_) (fun cdv A outer s H vs Q E hr h => ?_)
 ·obtain ⟨x, dx, fs, wd, n, rfl, hx, fl, q⟩ := h
  rfl
 obtain ⟨x, dx, fs, wd, n, rfl, hx, fl, q⟩ := h
 refine ⟨_, pss_cons (ps_if (PW.pt (pw_or (pt_cmpR op_lt (pv 1) (pe_fld (pv 0) rfl) (nomark _)) (pw_or1 (pt_cmpR op_gt (pv 1) (pe_glob (v := .int 40) rfl g_GREATEST_SIZE.1 g_GREATEST_SIZE.2) (nomark _))))) (pss_one (ps_raise thr_def EO.x_size rfl EO.m_size (pa_cons pe_str pa_nil))) pss_nil)
  (pss_one (ps_ret (pmeth (pv 0) CA.c_Brackets CA.mt_Brackets_unchecked_many d_u4 hr (pa_cons (pv 1) pa_nil)))), ?_⟩
 refine ⟨_, rfl, _, rfl, x, _, dx, fs, _, rfl, hx, CA.c_Brackets, CA.na_Brackets_least, fl.least, _, _, rfl, rfl, _, rfl, ?_⟩
 rcases q with ⟨h, q⟩ | ⟨n1, n40, q⟩
 ·by_cases h1 : n < 0
  ·exact iteP h1 (iteT ⟨sz (n := 1) (by decide), q⟩)
  ·exact iteN h1 ⟨_, rfl, _, _, rfl, rfl, _, rfl, iteP (by omega) ⟨sz (n := 1) (by decide), q⟩⟩
 ·refine iteN (by omega) ⟨_, rfl, _, _, rfl, rfl, _, rfl, iteN (by omega) ?_⟩
  exact ⟨_, rfl, x, dx, fs, rfl, hx, fl.no "unchecked_many" (by decide) (by decide), _, rfl, x, n, rfl, n1, n40, q⟩
theorem ok_u56 {er : Errs} (EO : ErrOk K mg er) {ca : ClA} (CA : ClOk K mg ca) {fd : FuncData} (F : Fun K "bare" "Brackets.bare" s_u56 ca.f_u56 fd) : FnOk P w K mg base CX0 1 ca.f_u56 fd ["self"] (sp_u56 K ca) := by
 refine F.ok sc_u56 (fun vs H Q E h => ?_) (fun cdv A outer s H vs Q E hr h => ?_)
 ·obtain ⟨x, rfl, q⟩ := h
  rfl
 obtain ⟨x, rfl, q⟩ := h
 refine ⟨_, pss_one (ps_ret pe_str), ?_⟩
 exact q _ _ (Same.refl H) (fun p e => by cases e) ⟨Str.ofString "", rfl, by decide +kernel⟩
theorem ok_u46 {er : Errs} (EO : ErrOk K mg er) {ca : ClA} (CA : ClOk K mg ca) {fd : FuncData} (F : Fun K "joined" "Brackets.joined" s_u46 ca.f_u46 fd) : FnOk P w K mg base CX0 1 ca.f_u46 fd ["self", "left", "right"] (sp_u46 K ca) := by
 refine F.ok sc_u46 (fun vs H Q E h => ?_) (fun cdv A outer s H vs Q E hr h => ?_)
 ·obtain ⟨x, vl, vr, bl, br, rfl, thl, thr, h39, q⟩ := h
  rfl
 obtain ⟨x, vl, vr, bl, br, rfl, thl, thr, h39, q⟩ := h
 refine ⟨_, pss_one (ps_ret (pe_op op_add_str (pe_op op_add_str (pe_op op_add_str pe_str (pv 1)) pe_str) (pv 2))), ?_⟩
 obtain ⟨l, rfl, el⟩ := thl
 obtain ⟨r, rfl, er⟩ := thr
 have hl : l.length ≤ 1000 := by rw [← cps_len, el, brk_len]; omega
 have hr2 : r.length ≤ 1000 := by rw [← cps_len, er, brk_len]; omega
 have q : Q (.str (((Str.ofString "(" ++ l) ++ Str.ofString ")") ++ r)) H := q _ _ (Same.refl H) (fun p e => by cases e) ⟨_, rfl, by
  rw [app_codes, app_codes, app_codes, el, er]
  show _ = 40 :: (brk bl ++ 41 :: brk br)
  have c40 : (Str.ofString "(").cps.toList = [40] := by decide +kernel
  have c41 : (Str.ofString ")").cps.toList = [41] := by decide +kernel
  rw [c40, c41]
  simp⟩
 have l1 : (Str.ofString "(").length = 1 := by decide +kernel
 have l2 : (Str.ofString ")").length = 1 := by decide +kernel
 refine ⟨_, rfl, _, _, rfl, rfl, ?_, _, _, rfl, rfl, ?_, _, rfl, _, _, rfl, rfl, ?_, q⟩
 ·exact sz (by omega)
 ·rw [app_length]; exact sz (by omega)
 ·rw [app_length, app_length]; exact sz (by omega)
theorem ok_u5 {er : Errs} (EO : ErrOk K mg er) {ca : ClA} (CA : ClOk K mg ca) {fd : FuncData} (F : Fun K "thing_by_parts" "SplitFamily.thing_by_parts" s_u5 ca.f_u5 fd) {fd0 : FuncData} (d_u56 : MDef P w K mg base ["self"] 1 (sp_u56 K ca) ca.f_u56 fd0) {fd2 : FuncData} (d_u46 : MDef P w K mg base ["self", "left", "right"] 1 (sp_u46 K ca) ca.f_u46 fd2) (n : Nat) (d_self : MDef P w K mg base ["self", "counts", "size", "number"] (1 + n) (below n fun m => sp_u5 K ca m) ca.f_u5 fd) : FnOk P w K mg base (CX1 P w) (1 + n + 1) ca.f_u5 fd ["self", "counts", "size", "number"] (sp_u5 K ca n) := by
 refine FnOk.up ?_
 refine F.ok sc_u5 (fun vs H Q E h => ?_) (fun cdv A outer s H vs Q E hr h => ?_)
 ·obtain ⟨x, dx, fs, wd, pc, k, t, rfl, hx, fl, hc, hn, hk, k40, q⟩ := h
  rfl
 obtain ⟨x, dx, fs, wd, pc, k, t, rfl, hx, fl, hc, hn, hk, k40, q⟩ := h
 refine ⟨_, pss_cons (ps_if (pt_cmpR op_eq (pv 2) pe_int (nomark _)) (pss_one (ps_ret (pmeth0 (pv 0) CA.c_Brackets CA.mt_Brackets_bare d_u56 hr (hjk := by omega)))) pss_nil)
  (pss_cons (ps_set (i := 4) sc_u5.nd rfl (Or.inl rfl) pe_int)
  (pss_cons (ps_set (i := 5) sc_u5.nd rfl (Or.inl rfl) (pv 3))
  (pss_cons (ps_while PassesOwn.never (pt_cmpR op_ge (pv 5) (pe_op op_mul (pe_ix ix_list (pv 1) (pv 4) (fun _ _ => rfl)) (pe_ix ix_list (pv 1) (pe_op op_sub (pe_op op_sub (pv 2) pe_int) (pv 4)) (fun _ _ => rfl))) (nomark _)) (pss_cons (ps_aug (i := 5) sc_u5.nd rfl (Or.inl rfl) (pe_op op_mul (pe_ix ix_list (pv 1) (pv 4) (fun _ _ => rfl)) (pe_ix ix_list (pv 1) (pe_op op_sub (pe_op op_sub (pv 2) pe_int) (pv 4)) (fun _ _ => rfl))) ip_sub)
  (pss_one (ps_aug (i := 4) sc_u5.nd rfl (Or.inl rfl) pe_int ip_add))))
  (pss_cons (ps_set (i := 6) sc_u5.nd rfl (Or.inl rfl) (pe_op op_sub (pe_op op_sub (pv 2) pe_int) (pv 4)))
  (pss_cons (ps_set (i := 7) sc_u5.nd rfl (Or.inl rfl) (pmeth (pv 0) CA.c_Brackets CA.mt_Brackets_thing_by_parts d_self hr (pa_cons (pv 1) (pa_cons (pv 4) (pa_cons (pe_op op_fdivL (pv 5) (pe_ix ix_list (pv 1) (pv 6) (fun _ _ => rfl))) pa_nil))) (hjk := by omega)))
  (pss_cons (ps_set (i := 8) sc_u5.nd rfl (Or.inl rfl) (pmeth (pv 0) CA.c_Brackets CA.mt_Brackets_thing_by_parts d_self hr (pa_cons (pv 1) (pa_cons (pv 6) (pa_cons (pe_op op_mod (pv 5) (pe_ix ix_list (pv 1) (pv 6) (fun _ _ => rfl))) pa_nil))) (hjk := by omega)))
  (pss_one (ps_ret (pmeth (pv 0) CA.c_Brackets CA.mt_Brackets_joined d_u46 hr (pa_cons (pv 7) (pa_cons (pv 8) pa_nil)) (hjk := by omega)))))))))), ?_⟩
 refine ⟨_, rfl, rfl, _, rfl, ?_⟩
 cases t with
 | leaf =>
  have hn : 0 = n := hn
  exact iteP (congrArg V.int (by omega)) ⟨_, rfl, x, dx, fs, rfl, hx, fl.no "bare" (by decide) (by decide), x, rfl, fun v H' s nw th => q v H' s nw th⟩
 | node l r =>
  have hn : l.size + r.size + 1 = n := hn
  have lk : (shL k).length = k + 1 := shL_length k
  have at_ : ∀ (j : Nat) (z : Int), z = (j : Int) → j ≤ k → atI ((shL k).map V.int) z = some (.int (sh j)) := fun j z ez hj => by
   have := atI_int (ns := shL k) (i := z) (by omega) (by omega)
   rw [show z.toNat = j by omega, shL_get k j hj] at this
   exact this
  refine iteN (fun z => by injection z with z; omega) ⟨_, rfl, ?_⟩
  refine ⟨fun mm σ H5 => ∃ (o1 o2 o3 : Option V) (j : Nat), σ = [some (.ref x), some (.ref pc), some (.int (n : Int)), some (.int (bnum (.node l r))), some (.int (j : Int)), some (.int (bnum (.node l r) - pre n j)), o1, o2, o3] ∧ H = H5 ∧ j ≤ l.size ∧ mm = n - j, ⟨_, _, _, _, 0, by rw [show pre n 0 = 0 from rfl, Int.sub_zero]; rfl, rfl, by omega, rfl⟩, ?_⟩
  rintro mm σ H5 ⟨o1, o2, o3, j, rfl, rfl, hj, rfl⟩
  have p1 := sh_pos j
  have p2 := sh_pos (n - 1 - j)
  have a1 := at_ j (j : Int) rfl (by omega)
  have a2 := at_ (n - 1 - j) ((n : Int) - 1 - (j : Int)) (by omega) (by omega)
  have mc : CMul (sh j) (sh (n - 1 - j)) := mulC (a := j) (b := n - 1 - j) (by omega) (by omega) (Int.le_refl _) (by omega) (Int.le_refl _)
  refine ⟨_, rfl, _, rfl, _, rfl, pc, _, _, _, rfl, rfl, SqL.of hc, a1, _, rfl, _, rfl, _, _, rfl, rfl, _, rfl, _, _, rfl, rfl, pc, _, _, _, rfl, rfl, SqL.of hc, a2, _, _, rfl, rfl, mc, _, _, rfl, rfl, _, rfl, ?_⟩
  have ps := pre_succ n j
  by_cases h : j < l.size
  ·have go := left_go (r := r) h
   rw [hn, show l.size + r.size - j = n - 1 - j by omega] at go
   refine iteP (by omega) ⟨fun σ' H6 => σ' = [some (.ref x), some (.ref pc), some (.int (n : Int)), some (.int (bnum (.node l r))), some (.int ((j : Int) + 1)), some (.int (bnum (.node l r) - pre n j - sh j * sh (n - 1 - j))), o1, o2, o3] ∧ H = H6, ?_, ?_⟩
   ·rintro σ' H6 ⟨rfl, rfl⟩
    refine ⟨n - (j + 1), by omega, o1, o2, o3, j + 1, ?_, rfl, h, rfl⟩
    rw [show bnum (.node l r) - pre n (j + 1) = bnum (.node l r) - pre n j - sh j * sh (n - 1 - j) by omega]
    rfl
   ·exact ⟨_, rfl, _, rfl, _, rfl, pc, _, _, _, rfl, rfl, SqL.of hc, a1, _, rfl, _, rfl, _, _, rfl, rfl, _, rfl, _, _, rfl, rfl, pc, _, _, _, rfl, rfl, SqL.of hc, a2, _, _, rfl, rfl, mc, _, _, rfl, rfl, _, rfl, _, _, rfl, rfl, rfl, rfl⟩
  have ej : j = l.size := by omega
  subst ej
  have stp := left_stop l r
  rw [hn] at stp
  have er : n - 1 - l.size = r.size := by omega
  have b1 := bnum_low l
  have b2 := bnum_low r
  have b3 := bnum_lt r
  have lt := part_lt (bnum_lt l) b2 b3
  rw [er] at p2
  refine iteN (by rw [er, stp]; omega) ⟨_, rfl, _, _, rfl, rfl, _, rfl, _, _, rfl, rfl, ?_⟩
  try dsimp only
  have eb : (n : Int) - 1 - (l.size : Int) = (r.size : Int) := by omega
  rw [eb, stp]
  have pd := part_div (x := bnum l) b2 b3
  have a3 := at_ r.size (r.size : Int) rfl (by omega)
  refine ⟨_, rfl, x, dx, fs, rfl, hx, fl.no "thing_by_parts" (by decide) (by decide), _, rfl, _, rfl, _, rfl, _, rfl, _, rfl, pc, _, _, _, rfl, rfl, SqL.of hc, a3, _, _, rfl, rfl, divB (by omega) (sh_big (by omega)), l.size, by omega, x, dx, fs, wd, pc, k, l, congrArg (fun z => [V.ref x, V.ref pc, V.int (l.size : Int), V.int z]) pd.1, hx, fl, hc, rfl, by omega, k40, fun vl H1 s1 _ th1 => ?_⟩
  refine ⟨_, rfl, x, dx, fs, rfl, s1 _ _ hx, fl.no "thing_by_parts" (by decide) (by decide), _, rfl, _, rfl, _, rfl, _, rfl, _, rfl, pc, _, _, _, rfl, rfl, SqL.of (s1 _ _ hc), a3, _, _, rfl, rfl, by omega, r.size, by omega, x, dx, fs, wd, pc, k, r, congrArg (fun z => [V.ref x, V.ref pc, V.int (r.size : Int), V.int z]) pd.2, s1 _ _ hx, fl, s1 _ _ hc, rfl, by omega, k40, fun vr H2 s2 _ th2 => ?_⟩
  have s12 := s1.trans s2
  refine ⟨_, rfl, x, dx, fs, rfl, s12 _ _ hx, fl.no "joined" (by decide) (by decide), _, rfl, _, rfl, x, vl, vr, l, r, rfl, th1.same s2, th2, by omega, fun v H' s nw th => ?_⟩
  exact q v H' (s12.trans s) (nw.back s12) th
theorem ok_u82 {er : Errs} (EO : ErrOk K mg er) {ca : ClA} (CA : ClOk K mg ca) {f : Addr} {fd : FuncData} (F : Fun K "shares" "shares" s_u82 f fd) (m_range : mg "range" = none) (m_sum : mg "sum" = none) : FnOk P w K mg base CX0 1 f fd ["most"] (sp_u82 K ca) := by
 refine F.ok sc_u82 (fun vs H Q E h => ?_) (fun cdv A outer s H vs Q E hr h => ?_)
 ·obtain ⟨n, rfl, h0, h1, q⟩ := h
  rfl
 obtain ⟨n, rfl, h0, h1, q⟩ := h
 refine ⟨_, pss_cons (ps_set (i := 1) sc_u82.nd rfl (Or.inr rfl) (pe_lst (pa_cons pe_int pa_nil)))
  (pss_cons (ps_for PassesOwn.never rfl (pi_range1 rfl m_range (pa_cons (pv 0) pa_nil)) (pg_name (i := 2) sc_u82.nd rfl (Or.inr rfl)) (pss_one (ps_expr (pe_bm PySem.F.plainAttrs_list PySem.F.slot_list_append PySem.F.type_list_append mt_append (pv 1) (pa_cons (pe_callB (call_sum rfl) rfl m_sum bb_sum (pa_cons (pe_comp rfl (pi_range1 rfl m_range (pa_cons (pe_op op_add (pv 2) pe_int) pa_nil)) rfl rfl rfl rfl (N := ["j", "found", "k"]) (.own (.cap (j := 1) rfl rfl rfl (.cap (j := 2) rfl rfl rfl .nil))) (fun _ _ _ _ _ _ => (pg_name (i := 0) (by show List.Nodup (["j", "found", "k"] : List Str); decide +kernel) rfl (Or.inl rfl))) (fun _ _ _ _ _ _ => pts_nil) (fun _ _ _ _ _ _ => (pe_op op_mul (pe_ix (ix_listK (K := K) rfl) (pv 1) (pv 0) (fun _ _ => rfl)) (pe_ix (ix_listK (K := K) rfl) (pv 1) (pe_op op_sub (pv 2) (pv 0)) (fun _ _ => rfl))))) pa_nil)) pa_nil)))))
  (pss_one (ps_ret (pv 1)))), ?_⟩
 refine ⟨(by show 1 ≤ sizeLine; decide), fun p hp => ?_⟩
 refine ⟨_, rfl, n, rfl, by omega, by omega, for_range (lo := 0) (n := n.toNat) (fun i σ H' => ∃ o, σ = [some (.int n), some (.ref p), o] ∧ Same H H' ∧ H' p = some (.lst ((shL i).map V.int)))
  ⟨_, rfl, Same.new (Same.refl H) hp _, upd_same⟩ ?_ ?_⟩
 ·rintro i σ H1 hi ⟨o, rfl, sm, hp1⟩
  have en : ((0 : Int) + (i : Int) + 1).toNat = i + 1 := by omega
  refine ⟨_, rfl, .inl ⟨rfl, _, SqL.of hp1⟩, _, rfl, _, _, rfl, rfl, _, rfl, by omega, by omega, ?_⟩
  rw [en]
  intro D hD
  have hpD : p ≠ D := ne_of_none hp1 hD
  refine comp_range (lo := 0) (n := i + 1) (fun j => .int (sh j * sh (i - j))) (sz (by omega)) (fun j H2 R R0 hj hb hR => ?_) ?_
  ·have hp2 : H2 p = some (.lst ((shL i).map V.int)) := (hb p hpD).trans hp1
   have l1 : (shL i).length = i + 1 := shL_length i
   have e1 : (shL i).getD ((0 : Int) + (j : Int)).toNat 0 = sh j := by rw [show ((0 : Int) + (j : Int)).toNat = j by omega]; exact shL_get i j (by omega)
   have e2 : (shL i).getD ((0 : Int) + (i : Int) - ((0 : Int) + (j : Int))).toNat 0 = sh (i - j) := by
    rw [show ((0 : Int) + (i : Int) - ((0 : Int) + (j : Int))).toNat = i - j by omega]; exact shL_get i (i - j) (by omega)
   have a1 := atI_int (ns := shL i) (i := (0 : Int) + (j : Int)) (by omega) (by omega)
   have a2 := atI_int (ns := shL i) (i := (0 : Int) + (i : Int) - ((0 : Int) + (j : Int))) (by omega) (by omega)
   rw [e1] at a1
   rw [e2] at a2
   refine ⟨Ext.set rfl, ttN (iteT ?_)⟩
   refine ⟨_, rfl, _, rfl, p, _, _, _, rfl, rfl, SqL.of hp2, a1, _, rfl, _, rfl, _, rfl, _, _, rfl, rfl, p, _, _, _, rfl, rfl, SqL.of hp2, a2, _, _, rfl, rfl, ?_, hR⟩
   exact mul_ok (by omega)
  ·have hp3 : upd H1 D (.lst ((List.range (i + 1)).map fun j => V.int (sh j * sh (i - j)))) p = some (.lst ((shL i).map V.int)) := (upd_ne hpD).trans hp1
   refine ⟨D, (List.range (i + 1)).map (fun j => sh j * sh (i - j)), rfl, SqL.of (by rw [upd_same, List.map_map]; rfl), p, _, _, rfl, rfl, hp3, ?_, ?_⟩
   ·rw [List.length_map, shL_length]; exact sz' (by omega)
   ·refine ⟨_, rfl, ?_, ?_⟩
    ·exact (Same.new sm hD _).upd hp _
    ·rw [upd_same, shL_snoc, List.map_append, sh_succ]; rfl
 ·rintro σ H1 ⟨o, rfl, sm, hp1⟩
  exact ⟨_, rfl, q p H1 sm hp hp1⟩
theorem ok_u1 {er : Errs} (EO : ErrOk K mg er) {ca : ClA} (CA : ClOk K mg ca) {fd : FuncData} (F : Fun K "unchecked_thing" "SplitFamily.unchecked_thing" s_u1 ca.f_u1 fd) {fd0 : FuncData} (d_u5 : MDef P w K mg base ["self", "counts", "size", "number"] 43 (spA_u5 K ca) ca.f_u5 fd0) {f1 : Addr} {fd1 : FuncData} (d_u82 : Def P w K mg base "shares" ["most"] 1 (sp_u82 K ca) f1 fd1) : FnOk P w K mg base CX0 44 ca.f_u1 fd ["self", "size", "number"] (sp_u1 K ca) := by
 refine F.ok sc_u1 (fun vs H Q E h => ?_) (fun cdv A outer s H vs Q E hr h => ?_)
 ·obtain ⟨x, dx, fs, wd, t, rfl, hx, fl, h40, q⟩ := h
  rfl
 obtain ⟨x, dx, fs, wd, t, rfl, hx, fl, h40, q⟩ := h
 refine ⟨_, pss_one (ps_ret (pmeth (pv 0) CA.c_Brackets CA.mt_Brackets_thing_by_parts d_u5 hr (pa_cons (pcall d_u82 hr (pa_cons (pv 1) pa_nil)) (pa_cons (pv 1) (pa_cons (pv 2) pa_nil))))), ?_⟩
 refine ⟨_, rfl, x, dx, fs, rfl, hx, fl.no "thing_by_parts" (by decide) (by decide), _, rfl, (t.size : Int), rfl, by omega, by omega, fun pc H1 s1 fc hc => ?_⟩
 rw [Int.toNat_natCast] at hc
 exact ⟨_, rfl, _, rfl, t.size, by omega, x, dx, fs, wd, pc, t.size, t, rfl, s1 _ _ hx, fl, hc, rfl, Nat.le_refl _, h40, fun v H' s nw th => q v H' (s1.trans s) (nw.back s1) th⟩
theorem ok_u23 {er : Errs} (EO : ErrOk K mg er) {ca : ClA} (CA : ClOk K mg ca) {fd : FuncData} (F : Fun K "thing_of" "Family.thing_of" s_u23 ca.f_u23 fd) {fd0 : FuncData} (d_u33 : MDef P w K mg base ["self", "size"] 3 (sp_u33 K ca er) ca.f_u33 fd0) {fd1 : FuncData} (d_u1 : MDef P w K mg base ["self", "size", "number"] 44 (sp_u1 K ca) ca.f_u1 fd1) : FnOk P w K mg base (CX1 P w) 45 ca.f_u23 fd ["self", "size", "number"] (sp_u23 K ca er) := by
 refine F.okE sc_u23 (fun vs H Q E h => ?_) (fun cdv A outer s H vs Q E hr h => ?_)
 ·obtain ⟨x, dx, fs, wd, n, m, rfl, hx, fl, q⟩ := h
  rfl
 obtain ⟨x, dx, fs, wd, n, m, rfl, hx, fl, q⟩ := h
 refine ⟨_, pss_cons (ps_set (i := 3) sc_u23.nd rfl (Or.inl rfl) (pmethT thr_def (pv 0) CA.c_Brackets CA.mt_Brackets_many d_u33 hr (pa_cons (pv 1) pa_nil)))
  (pss_cons (ps_if (PW.pt (pw_or (pt_cmpR op_lt (pv 2) pe_int (nomark _)) (pw_or1 (pt_cmpR op_ge (pv 2) (pv 3) (nomark _))))) (pss_one (ps_raise thr_def EO.x_number rfl EO.m_number (pa_cons pe_str pa_nil))) pss_nil)
  (pss_one (ps_ret (pmeth (pv 0) CA.c_Brackets CA.mt_Brackets_unchecked_thing d_u1 hr (pa_cons (pv 1) (pa_cons (pv 2) pa_nil)))))), ?_⟩
 rcases q with ⟨h, q⟩ | ⟨n1, n40, h, q⟩ | ⟨t, rfl, rfl, h40, q⟩
 ·exact ⟨_, rfl, x, dx, fs, rfl, hx, fl.no "many" (by decide) (by decide), _, rfl, x, dx, fs, wd, n, rfl, hx, fl, .inl ⟨h, q⟩⟩
 ·refine ⟨_, rfl, x, dx, fs, rfl, hx, fl.no "many" (by decide) (by decide), _, rfl, x, dx, fs, wd, n, rfl, hx, fl, .inr ⟨n1, n40, _, rfl, _, _, rfl, rfl, _, rfl, ?_⟩⟩
  by_cases h1 : m < 0
  ·exact iteP h1 (iteT ⟨sz (n := 1) (by decide), q⟩)
  ·exact iteN h1 ⟨_, rfl, _, rfl, _, _, rfl, rfl, _, rfl, iteP (by omega) ⟨sz (n := 1) (by decide), q⟩⟩
 ·have b1 := bnum_low t
  have b2 := bnum_lt t
  rw [sh_cR (by omega)] at b2
  refine ⟨_, rfl, x, dx, fs, rfl, hx, fl.no "many" (by decide) (by decide), _, rfl, x, dx, fs, wd, (t.size : Int), rfl, hx, fl, .inr ⟨by omega, by omega, ?_⟩⟩
  rw [Int.toNat_natCast]
  refine ⟨_, rfl, _, _, rfl, rfl, _, rfl, iteN (by omega) ⟨_, rfl, _, rfl, _, _, rfl, rfl, _, rfl, iteN (by omega) ?_⟩⟩
  exact ⟨_, rfl, x, dx, fs, rfl, hx, fl.no "unchecked_thing" (by decide) (by decide), _, rfl, _, rfl, x, dx, fs, wd, t, rfl, hx, fl, h40, q⟩
theorem ok_u11 {er : Errs} (EO : ErrOk K mg er) {ca : ClA} (CA : ClOk K mg ca) {fd : FuncData} (F : Fun K "unchecked_many" "SplitFamily.unchecked_many" s_u11 ca.f_u11 fd) {f0 : Addr} {fd0 : FuncData} (d_u80 : Def P w K mg base "by_rule" ["size"] 1 (sp_u80 K ca) f0 fd0) : FnOk P w K mg base CX0 2 ca.f_u11 fd ["self", "size"] (sp_u11 K ca) := by
 refine F.ok sc_u11 (fun vs H Q E h => ?_) (fun cdv A outer s H vs Q E hr h => ?_)
 ·obtain ⟨x, n, rfl, n0, n40, q⟩ := h
  rfl
 obtain ⟨x, n, rfl, n0, n40, q⟩ := h
 refine ⟨_, pss_one (ps_ret (pcall d_u80 hr (pa_cons (pv 1) pa_nil))), ?_⟩
 exact ⟨_, rfl, n, rfl, n0, by omega, q⟩
theorem ok_u35 {er : Errs} (EO : ErrOk K mg er) {ca : ClA} (CA : ClOk K mg ca) {fd : FuncData} (F : Fun K "many" "Family.many" s_u35 ca.f_u35 fd) {fd0 : FuncData} (d_u11 : MDef P w K mg base ["self", "size"] 2 (sp_u11 K ca) ca.f_u11 fd0) {u_GREATEST_SIZE : Value} (g_GREATEST_SIZE : mg "GREATEST_SIZE" = some u_GREATEST_SIZE ∧ RelV (.int 40) u_GREATEST_SIZE) : FnOk P w K mg base (CX1 P w) 3 ca.f_u35 fd ["self", "size"] (sp_u35 K ca er) := by
 refine F.okE sc_u35 (fun vs H Q E h => ?_) (fun cdv A outer s H vs Q E hr h => ?_)
 ·obtain ⟨x, dx, fs, wd, n, rfl, hx, fl, q⟩ := h
  rfl
 obtain ⟨x, dx, fs, wd, n, rfl, hx, fl, q⟩ := h
 refine ⟨_, pss_cons (ps_if (PW.pt (pw_or (pt_cmpR op_lt (pv 1) (pe_fld (pv 0) rfl) (nomark _)) (pw_or1 (pt_cmpR op_gt (pv 1) (pe_glob (v := .int 40) rfl g_GREATEST_SIZE.1 g_GREATEST_SIZE.2) (nomark _))))) (pss_one (ps_raise thr_def EO.x_size rfl EO.m_size (pa_cons pe_str pa_nil))) pss_nil)
  (pss_one (ps_ret (pmeth (pv 0) CA.c_Stairs CA.mt_Stairs_unchecked_many d_u11 hr (pa_cons (pv 1) pa_nil)))), ?_⟩
 refine ⟨_, rfl, _, rfl, x, _, dx, fs, _, rfl, hx, CA.c_Stairs, CA.na_Stairs_least, fl.least, _, _, rfl, rfl, _, rfl, ?_⟩
 rcases q with ⟨h, q⟩ | ⟨n1, n40, q⟩
 ·by_cases h1 : n < 0
  ·exact iteP h1 (iteT ⟨sz (n := 1) (by decide), q⟩)
  ·exact iteN h1 ⟨_, rfl, _, _, rfl, rfl, _, rfl, iteP (by omega) ⟨sz (n := 1) (by decide), q⟩⟩
 ·refine iteN (by omega) ⟨_, rfl, _, _, rfl, rfl, _, rfl, iteN (by omega) ?_⟩
  exact ⟨_, rfl, x, dx, fs, rfl, hx, fl.no "unchecked_many" (by decide) (by decide), _, rfl, x, n, rfl, n1, n40, q⟩
theorem ok_u62 {er : Errs} (EO : ErrOk K mg er) {ca : ClA} (CA : ClOk K mg ca) {fd : FuncData} (F : Fun K "bare" "Stairs.bare" s_u62 ca.f_u62 fd) : FnOk P w K mg base CX0 1 ca.f_u62 fd ["self"] (sp_u62 K ca) := by
 refine F.ok sc_u62 (fun vs H Q E h => ?_) (fun cdv A outer s H vs Q E hr h => ?_)
 ·obtain ⟨x, rfl, q⟩ := h
  rfl
 obtain ⟨x, rfl, q⟩ := h
 refine ⟨_, pss_one (ps_ret (pe_lst pa_nil)), ?_⟩
 exact ⟨Nat.zero_le _, fun p hp => q _ _ (Same.new (Same.refl H) hp _) (fun _ e => by cases e; exact hp) ⟨p, rfl, upd_same⟩⟩
theorem ok_u75 {er : Errs} (EO : ErrOk K mg er) {ca : ClA} (CA : ClOk K mg ca) {f : Addr} {fd : FuncData} (F : Fun K "raised_by" "raised_by" s_u75 f fd) : FnOk P w K mg base CX0 1 f fd ["numbers", "step"] (sp_u75 K ca) := by
 refine F.ok sc_u75 (fun vs H Q E h => ?_) (fun cdv A outer s H vs Q E hr h => ?_)
 ·obtain ⟨l, ns, d, rfl, hl, hz, q⟩ := h
  rfl
 obtain ⟨l, ns, d, rfl, hl, hz, q⟩ := h
 refine ⟨_, pss_one (ps_ret (pe_comp rfl (pi_list (pv 0)) rfl rfl rfl rfl (N := ["number", "step"]) (.own (.cap (j := 1) rfl rfl rfl .nil)) (fun _ _ _ _ _ _ => (pg_name (i := 0) (by show List.Nodup (["number", "step"] : List Str); decide +kernel) rfl (Or.inl rfl))) (fun _ _ _ _ _ _ => pts_nil) (fun _ _ _ _ _ _ => (pe_op op_add (pv 0) (pv 1))))), ?_⟩
 have ml : (ns.map V.int).length = ns.length := List.length_map _
 refine ⟨_, rfl, l, rfl, ⟨_, hl⟩, fun D hD => comp_list (fun v => match v with | .int c => .int (c + d) | v => v) (by rw [ml]; exact sz (by omega)) hl hD (fun i x H' R R0 hx hb hR => ?_) ?_⟩
 ·obtain ⟨c, rfl⟩ := get_int hx
  exact ⟨Ext.set rfl, ttN (iteT ⟨_, rfl, _, rfl, _, _, rfl, rfl, hR⟩)⟩
 have e1 : (ns.map V.int).map (fun v => match v with | .int c => V.int (c + d) | v => v) = (ns.map (· + d)).map V.int := by rw [List.map_map, List.map_map]; rfl
 rw [e1]
 exact q D _ (Same.new (Same.refl H) hD _) hD upd_same
theorem ok_u55 {er : Errs} (EO : ErrOk K mg er) {ca : ClA} (CA : ClOk K mg ca) {fd : FuncData} (F : Fun K "joined" "Stairs.joined" s_u55 ca.f_u55 fd) {f0 : Addr} {fd0 : FuncData} (d_u75 : Def P w K mg base "raised_by" ["numbers", "step"] 1 (sp_u75 K ca) f0 fd0) (m_len : mg "len" = none) : FnOk P w K mg base CX0 2 ca.f_u55 fd ["self", "left", "right"] (sp_u55 K ca) := by
 refine F.ok sc_u55 (fun vs H Q E h => ?_) (fun cdv A outer s H vs Q E hr h => ?_)
 ·obtain ⟨x, vl, vr, bl, br, rfl, thl, thr, h39, q⟩ := h
  rfl
 obtain ⟨x, vl, vr, bl, br, rfl, thl, thr, h39, q⟩ := h
 refine ⟨_, pss_one (ps_ret (pe_op op_cat (pe_op op_cat (pe_lst (pa_cons pe_int pa_nil)) (pv 1)) (pcall d_u75 hr (pa_cons (pv 2) (pa_cons (pe_op op_add (pe_callB call_len_seq rfl m_len bb_len (pa_cons (pv 1) pa_nil)) pe_int) pa_nil))))), ?_⟩
 obtain ⟨l, rfl, hl⟩ := thl
 obtain ⟨r, rfl, hr2⟩ := thr
 have lps : (stT bl).length ≤ 100 := by rw [stT_len]; omega
 have lqs : (stT br).length ≤ 100 := by rw [stT_len]; omega
 have q : ∀ (p : Addr) (H' : Hp), Same H H' → H p = none → H' p = some (.lst ((joinS (stT bl) (stT br)).map V.int)) → Q (.ref p) H' := fun p H' s f h => q _ _ s (fun _ e => by cases e; exact f) ⟨p, rfl, h⟩
 generalize stT bl = ps at hl lps q
 generalize stT br = qs at hr2 lqs q
 have ml : (ps.map V.int).length = ps.length := List.length_map _
 refine ⟨(by show 1 ≤ sizeLine; decide), fun p0 hp0 => ?_⟩
 have s1 := Same.new (Same.refl H) hp0 (.lst [.int 0])
 refine ⟨_, rfl, p0, l, _, _, rfl, rfl, upd_same, s1 _ _ hl, ?_, fun p1 hp1 => ?_⟩
 ·rw [ml]; exact sz (by simp; omega)
 have s2 := Same.new s1 hp1 (.lst ([.int 0] ++ ps.map V.int))
 have h12 : upd (upd H p0 (.lst [.int 0])) p1 (.lst ([.int 0] ++ ps.map V.int)) p1 = some (.lst ([.int 0] ++ ps.map V.int)) := upd_same
 generalize upd (upd H p0 (.lst [.int 0])) p1 (.lst ([.int 0] ++ ps.map V.int)) = H2 at s2 h12 ⊢
 refine ⟨_, rfl, _, rfl, l, _, rfl, .inl (SqL.of (s2 _ _ hl)), _, _, rfl, rfl, ?_⟩
 try dsimp only
 rw [ml]
 refine ⟨r, qs, _, rfl, SqL.of (s2 _ _ hr2), by omega, fun D H3 s3 fD hD => ?_⟩
 have s23 := s2.trans s3
 refine ⟨p1, D, _, _, rfl, rfl, s3 _ _ h12, hD, ?_, fun p hp => ?_⟩
 ·simp only [List.length_append, List.length_map]; exact sz (by simp; omega)
 refine q p _ (Same.new s23 hp _) (s23.free hp) ?_
 rw [upd_same]
 unfold joinS
 rw [List.map_append, List.map_append]
 rfl
theorem ok_u10 {er : Errs} (EO : ErrOk K mg er) {ca : ClA} (CA : ClOk K mg ca) {fd : FuncData} (F : Fun K "thing_by_parts" "SplitFamily.thing_by_parts" s_u10 ca.f_u10 fd) {fd0 : FuncData} (d_u62 : MDef P w K mg base ["self"] 1 (sp_u62 K ca) ca.f_u62 fd0) {fd2 : FuncData} (d_u55 : MDef P w K mg base ["self", "left", "right"] 2 (sp_u55 K ca) ca.f_u55 fd2) (n : Nat) (d_self : MDef P w K mg base ["self", "counts", "size", "number"] (2 + n) (below n fun m => sp_u10 K ca m) ca.f_u10 fd) : FnOk P w K mg base (CX1 P w) (2 + n + 1) ca.f_u10 fd ["self", "counts", "size", "number"] (sp_u10 K ca n) := by
 refine FnOk.up ?_
 refine F.ok sc_u10 (fun vs H Q E h => ?_) (fun cdv A outer s H vs Q E hr h => ?_)
 ·obtain ⟨x, dx, fs, wd, pc, k, t, rfl, hx, fl, hc, hn, hk, k40, q⟩ := h
  rfl
 obtain ⟨x, dx, fs, wd, pc, k, t, rfl, hx, fl, hc, hn, hk, k40, q⟩ := h
 refine ⟨_, pss_cons (ps_if (pt_cmpR op_eq (pv 2) pe_int (nomark _)) (pss_one (ps_ret (pmeth0 (pv 0) CA.c_Stairs CA.mt_Stairs_bare d_u62 hr (hjk := by omega)))) pss_nil)
  (pss_cons (ps_set (i := 4) sc_u10.nd rfl (Or.inl rfl) pe_int)
  (pss_cons (ps_set (i := 5) sc_u10.nd rfl (Or.inl rfl) (pv 3))
  (pss_cons (ps_while PassesOwn.never (pt_cmpR op_ge (pv 5) (pe_op op_mul (pe_ix ix_list (pv 1) (pv 4) (fun _ _ => rfl)) (pe_ix ix_list (pv 1) (pe_op op_sub (pe_op op_sub (pv 2) pe_int) (pv 4)) (fun _ _ => rfl))) (nomark _)) (pss_cons (ps_aug (i := 5) sc_u10.nd rfl (Or.inl rfl) (pe_op op_mul (pe_ix ix_list (pv 1) (pv 4) (fun _ _ => rfl)) (pe_ix ix_list (pv 1) (pe_op op_sub (pe_op op_sub (pv 2) pe_int) (pv 4)) (fun _ _ => rfl))) ip_sub)
  (pss_one (ps_aug (i := 4) sc_u10.nd rfl (Or.inl rfl) pe_int ip_add))))
  (pss_cons (ps_set (i := 6) sc_u10.nd rfl (Or.inl rfl) (pe_op op_sub (pe_op op_sub (pv 2) pe_int) (pv 4)))
  (pss_cons (ps_set (i := 7) sc_u10.nd rfl (Or.inl rfl) (pmeth (pv 0) CA.c_Stairs CA.mt_Stairs_thing_by_parts d_self hr (pa_cons (pv 1) (pa_cons (pv 4) (pa_cons (pe_op op_fdivL (pv 5) (pe_ix ix_list (pv 1) (pv 6) (fun _ _ => rfl))) pa_nil))) (hjk := by omega)))
  (pss_cons (ps_set (i := 8) sc_u10.nd rfl (Or.inl rfl) (pmeth (pv 0) CA.c_Stairs CA.mt_Stairs_thing_by_parts d_self hr (pa_cons (pv 1) (pa_cons (pv 6) (pa_cons (pe_op op_mod (pv 5) (pe_ix ix_list (pv 1) (pv 6) (fun _ _ => rfl))) pa_nil))) (hjk := by omega)))
  (pss_one (ps_ret (pmeth (pv 0) CA.c_Stairs CA.mt_Stairs_joined d_u55 hr (pa_cons (pv 7) (pa_cons (pv 8) pa_nil)) (hjk := by omega)))))))))), ?_⟩
 refine ⟨_, rfl, rfl, _, rfl, ?_⟩
 cases t with
 | leaf =>
  have hn : 0 = n := hn
  exact iteP (congrArg V.int (by omega)) ⟨_, rfl, x, dx, fs, rfl, hx, fl.no "bare" (by decide) (by decide), x, rfl, fun v H' s nw th => q v H' s nw th⟩
 | node l r =>
  have hn : l.size + r.size + 1 = n := hn
  have lk : (shL k).length = k + 1 := shL_length k
  have at_ : ∀ (j : Nat) (z : Int), z = (j : Int) → j ≤ k → atI ((shL k).map V.int) z = some (.int (sh j)) := fun j z ez hj => by
   have := atI_int (ns := shL k) (i := z) (by omega) (by omega)
   rw [show z.toNat = j by omega, shL_get k j hj] at this
   exact this
  refine iteN (fun z => by injection z with z; omega) ⟨_, rfl, ?_⟩
  refine ⟨fun mm σ H5 => ∃ (o1 o2 o3 : Option V) (j : Nat), σ = [some (.ref x), some (.ref pc), some (.int (n : Int)), some (.int (bnum (.node l r))), some (.int (j : Int)), some (.int (bnum (.node l r) - pre n j)), o1, o2, o3] ∧ H = H5 ∧ j ≤ l.size ∧ mm = n - j, ⟨_, _, _, _, 0, by rw [show pre n 0 = 0 from rfl, Int.sub_zero]; rfl, rfl, by omega, rfl⟩, ?_⟩
  rintro mm σ H5 ⟨o1, o2, o3, j, rfl, rfl, hj, rfl⟩
  have p1 := sh_pos j
  have p2 := sh_pos (n - 1 - j)
  have a1 := at_ j (j : Int) rfl (by omega)
  have a2 := at_ (n - 1 - j) ((n : Int) - 1 - (j : Int)) (by omega) (by omega)
  have mc : CMul (sh j) (sh (n - 1 - j)) := mulC (a := j) (b := n - 1 - j) (by omega) (by omega) (Int.le_refl _) (by omega) (Int.le_refl _)
  refine ⟨_, rfl, _, rfl, _, rfl, pc, _, _, _, rfl, rfl, SqL.of hc, a1, _, rfl, _, rfl, _, _, rfl, rfl, _, rfl, _, _, rfl, rfl, pc, _, _, _, rfl, rfl, SqL.of hc, a2, _, _, rfl, rfl, mc, _, _, rfl, rfl, _, rfl, ?_⟩
  have ps := pre_succ n j
  by_cases h : j < l.size
  ·have go := left_go (r := r) h
   rw [hn, show l.size + r.size - j = n - 1 - j by omega] at go
   refine iteP (by omega) ⟨fun σ' H6 => σ' = [some (.ref x), some (.ref pc), some (.int (n : Int)), some (.int (bnum (.node l r))), some (.int ((j : Int) + 1)), some (.int (bnum (.node l r) - pre n j - sh j * sh (n - 1 - j))), o1, o2, o3] ∧ H = H6, ?_, ?_⟩
   ·rintro σ' H6 ⟨rfl, rfl⟩
    refine ⟨n - (j + 1), by omega, o1, o2, o3, j + 1, ?_, rfl, h, rfl⟩
    rw [show bnum (.node l r) - pre n (j + 1) = bnum (.node l r) - pre n j - sh j * sh (n - 1 - j) by omega]
    rfl
   ·exact ⟨_, rfl, _, rfl, _, rfl, pc, _, _, _, rfl, rfl, SqL.of hc, a1, _, rfl, _, rfl, _, _, rfl, rfl, _, rfl, _, _, rfl, rfl, pc, _, _, _, rfl, rfl, SqL.of hc, a2, _, _, rfl, rfl, mc, _, _, rfl, rfl, _, rfl, _, _, rfl, rfl, rfl, rfl⟩
  have ej : j = l.size := by omega
  subst ej
  have stp := left_stop l r
  rw [hn] at stp
  have er : n - 1 - l.size = r.size := by omega
  have b1 := bnum_low l
  have b2 := bnum_low r
  have b3 := bnum_lt r
  have lt := part_lt (bnum_lt l) b2 b3
  rw [er] at p2
  refine iteN (by rw [er, stp]; omega) ⟨_, rfl, _, _, rfl, rfl, _, rfl, _, _, rfl, rfl, ?_⟩
  try dsimp only
  have eb : (n : Int) - 1 - (l.size : Int) = (r.size : Int) := by omega
  rw [eb, stp]
  have pd := part_div (x := bnum l) b2 b3
  have a3 := at_ r.size (r.size : Int) rfl (by omega)
  refine ⟨_, rfl, x, dx, fs, rfl, hx, fl.no "thing_by_parts" (by decide) (by decide), _, rfl, _, rfl, _, rfl, _, rfl, _, rfl, pc, _, _, _, rfl, rfl, SqL.of hc, a3, _, _, rfl, rfl, divB (by omega) (sh_big (by omega)), l.size, by omega, x, dx, fs, wd, pc, k, l, congrArg (fun z => [V.ref x, V.ref pc, V.int (l.size : Int), V.int z]) pd.1, hx, fl, hc, rfl, by omega, k40, fun vl H1 s1 _ th1 => ?_⟩
  refine ⟨_, rfl, x, dx, fs, rfl, s1 _ _ hx, fl.no "thing_by_parts" (by decide) (by decide), _, rfl, _, rfl, _, rfl, _, rfl, _, rfl, pc, _, _, _, rfl, rfl, SqL.of (s1 _ _ hc), a3, _, _, rfl, rfl, by omega, r.size, by omega, x, dx, fs, wd, pc, k, r, congrArg (fun z => [V.ref x, V.ref pc, V.int (r.size : Int), V.int z]) pd.2, s1 _ _ hx, fl, s1 _ _ hc, rfl, by omega, k40, fun vr H2 s2 _ th2 => ?_⟩
  have s12 := s1.trans s2
  refine ⟨_, rfl, x, dx, fs, rfl, s12 _ _ hx, fl.no "joined" (by decide) (by decide), _, rfl, _, rfl, x, vl, vr, l, r, rfl, th1.same s2, th2, by omega, fun v H' s nw th => ?_⟩
  exact q v H' (s12.trans s) (nw.back s12) th
theorem ok_u7 {er : Errs} (EO : ErrOk K mg er) {ca : ClA} (CA : ClOk K mg ca) {fd : FuncData} (F : Fun K "unchecked_thing" "SplitFamily.unchecked_thing" s_u7 ca.f_u7 fd) {fd0 : FuncData} (d_u10 : MDef P w K mg base ["self", "counts", "size", "number"] 44 (spA_u10 K ca) ca.f_u10 fd0) {f1 : Addr} {fd1 : FuncData} (d_u82 : Def P w K mg base "shares" ["most"] 1 (sp_u82 K ca) f1 fd1) : FnOk P w K mg base CX0 45 ca.f_u7 fd ["self", "size", "number"] (sp_u7 K ca) := by
 refine F.ok sc_u7 (fun vs H Q E h => ?_) (fun cdv A outer s H vs Q E hr h => ?_)
 ·obtain ⟨x, dx, fs, wd, t, rfl, hx, fl, h40, q⟩ := h
  rfl
 obtain ⟨x, dx, fs, wd, t, rfl, hx, fl, h40, q⟩ := h
 refine ⟨_, pss_one (ps_ret (pmeth (pv 0) CA.c_Stairs CA.mt_Stairs_thing_by_parts d_u10 hr (pa_cons (pcall d_u82 hr (pa_cons (pv 1) pa_nil)) (pa_cons (pv 1) (pa_cons (pv 2) pa_nil))))), ?_⟩
 refine ⟨_, rfl, x, dx, fs, rfl, hx, fl.no "thing_by_parts" (by decide) (by decide), _, rfl, (t.size : Int), rfl, by omega, by omega, fun pc H1 s1 fc hc => ?_⟩
 rw [Int.toNat_natCast] at hc
 exact ⟨_, rfl, _, rfl, t.size, by omega, x, dx, fs, wd, pc, t.size, t, rfl, s1 _ _ hx, fl, hc, rfl, Nat.le_refl _, h40, fun v H' s nw th => q v H' (s1.trans s) (nw.back s1) th⟩
theorem ok_u26 {er : Errs} (EO : ErrOk K mg er) {ca : ClA} (CA : ClOk K mg ca) {fd : FuncData} (F : Fun K "thing_of" "Family.thing_of" s_u26 ca.f_u26 fd) {fd0 : FuncData} (d_u35 : MDef P w K mg base ["self", "size"] 3 (sp_u35 K ca er) ca.f_u35 fd0) {fd1 : FuncData} (d_u7 : MDef P w K mg base ["self", "size", "number"] 45 (sp_u7 K ca) ca.f_u7 fd1) : FnOk P w K mg base (CX1 P w) 46 ca.f_u26 fd ["self", "size", "number"] (sp_u26 K ca er) := by
 refine F.okE sc_u26 (fun vs H Q E h => ?_) (fun cdv A outer s H vs Q E hr h => ?_)
 ·obtain ⟨x, dx, fs, wd, n, m, rfl, hx, fl, q⟩ := h
  rfl
 obtain ⟨x, dx, fs, wd, n, m, rfl, hx, fl, q⟩ := h
 refine ⟨_, pss_cons (ps_set (i := 3) sc_u26.nd rfl (Or.inl rfl) (pmethT thr_def (pv 0) CA.c_Stairs CA.mt_Stairs_many d_u35 hr (pa_cons (pv 1) pa_nil)))
  (pss_cons (ps_if (PW.pt (pw_or (pt_cmpR op_lt (pv 2) pe_int (nomark _)) (pw_or1 (pt_cmpR op_ge (pv 2) (pv 3) (nomark _))))) (pss_one (ps_raise thr_def EO.x_number rfl EO.m_number (pa_cons pe_str pa_nil))) pss_nil)
  (pss_one (ps_ret (pmeth (pv 0) CA.c_Stairs CA.mt_Stairs_unchecked_thing d_u7 hr (pa_cons (pv 1) (pa_cons (pv 2) pa_nil)))))), ?_⟩
 rcases q with ⟨h, q⟩ | ⟨n1, n40, h, q⟩ | ⟨t, rfl, rfl, h40, q⟩
 ·exact ⟨_, rfl, x, dx, fs, rfl, hx, fl.no "many" (by decide) (by decide), _, rfl, x, dx, fs, wd, n, rfl, hx, fl, .inl ⟨h, q⟩⟩
 ·refine ⟨_, rfl, x, dx, fs, rfl, hx, fl.no "many" (by decide) (by decide), _, rfl, x, dx, fs, wd, n, rfl, hx, fl, .inr ⟨n1, n40, _, rfl, _, _, rfl, rfl, _, rfl, ?_⟩⟩
  by_cases h1 : m < 0
  ·exact iteP h1 (iteT ⟨sz (n := 1) (by decide), q⟩)
  ·exact iteN h1 ⟨_, rfl, _, rfl, _, _, rfl, rfl, _, rfl, iteP (by omega) ⟨sz (n := 1) (by decide), q⟩⟩
 ·have b1 := bnum_low t
  have b2 := bnum_lt t
  rw [sh_cR (by omega)] at b2
  refine ⟨_, rfl, x, dx, fs, rfl, hx, fl.no "many" (by decide) (by decide), _, rfl, x, dx, fs, wd, (t.size : Int), rfl, hx, fl, .inr ⟨by omega, by omega, ?_⟩⟩
  rw [Int.toNat_natCast]
  refine ⟨_, rfl, _, _, rfl, rfl, _, rfl, iteN (by omega) ⟨_, rfl, _, rfl, _, _, rfl, rfl, _, rfl, iteN (by omega) ?_⟩⟩
  exact ⟨_, rfl, x, dx, fs, rfl, hx, fl.no "unchecked_thing" (by decide) (by decide), _, rfl, _, rfl, x, dx, fs, wd, t, rfl, hx, fl, h40, q⟩
theorem ok_u13 {er : Errs} (EO : ErrOk K mg er) {ca : ClA} (CA : ClOk K mg ca) {fd : FuncData} (F : Fun K "unchecked_many" "SplitFamily.unchecked_many" s_u13 ca.f_u13 fd) {f0 : Addr} {fd0 : FuncData} (d_u80 : Def P w K mg base "by_rule" ["size"] 1 (sp_u80 K ca) f0 fd0) : FnOk P w K mg base CX0 2 ca.f_u13 fd ["self", "size"] (sp_u13 K ca) := by
 refine F.ok sc_u13 (fun vs H Q E h => ?_) (fun cdv A outer s H vs Q E hr h => ?_)
 ·obtain ⟨x, n, rfl, n0, n40, q⟩ := h
  rfl
 obtain ⟨x, n, rfl, n0, n40, q⟩ := h
 refine ⟨_, pss_one (ps_ret (pcall d_u80 hr (pa_cons (pv 1) pa_nil))), ?_⟩
 exact ⟨_, rfl, n, rfl, n0, by omega, q⟩
theorem ok_u38 {er : Errs} (EO : ErrOk K mg er) {ca : ClA} (CA : ClOk K mg ca) {fd : FuncData} (F : Fun K "many" "Family.many" s_u38 ca.f_u38 fd) {fd0 : FuncData} (d_u13 : MDef P w K mg base ["self", "size"] 2 (sp_u13 K ca) ca.f_u13 fd0) {u_GREATEST_SIZE : Value} (g_GREATEST_SIZE : mg "GREATEST_SIZE" = some u_GREATEST_SIZE ∧ RelV (.int 40) u_GREATEST_SIZE) : FnOk P w K mg base (CX1 P w) 3 ca.f_u38 fd ["self", "size"] (sp_u38 K ca er) := by
 refine F.okE sc_u38 (fun vs H Q E h => ?_) (fun cdv A outer s H vs Q E hr h => ?_)
 ·obtain ⟨x, dx, fs, wd, n, rfl, hx, fl, q⟩ := h
  rfl
 obtain ⟨x, dx, fs, wd, n, rfl, hx, fl, q⟩ := h
 refine ⟨_, pss_cons (ps_if (PW.pt (pw_or (pt_cmpR op_lt (pv 1) (pe_fld (pv 0) rfl) (nomark _)) (pw_or1 (pt_cmpR op_gt (pv 1) (pe_glob (v := .int 40) rfl g_GREATEST_SIZE.1 g_GREATEST_SIZE.2) (nomark _))))) (pss_one (ps_raise thr_def EO.x_size rfl EO.m_size (pa_cons pe_str pa_nil))) pss_nil)
  (pss_one (ps_ret (pmeth (pv 0) CA.c_Twins CA.mt_Twins_unchecked_many d_u13 hr (pa_cons (pv 1) pa_nil)))), ?_⟩
 refine ⟨_, rfl, _, rfl, x, _, dx, fs, _, rfl, hx, CA.c_Twins, CA.na_Twins_least, fl.least, _, _, rfl, rfl, _, rfl, ?_⟩
 rcases q with ⟨h, q⟩ | ⟨n1, n40, q⟩
 ·by_cases h1 : n < 0
  ·exact iteP h1 (iteT ⟨sz (n := 1) (by decide), q⟩)
  ·exact iteN h1 ⟨_, rfl, _, _, rfl, rfl, _, rfl, iteP (by omega) ⟨sz (n := 1) (by decide), q⟩⟩
 ·refine iteN (by omega) ⟨_, rfl, _, _, rfl, rfl, _, rfl, iteN (by omega) ?_⟩
  exact ⟨_, rfl, x, dx, fs, rfl, hx, fl.no "unchecked_many" (by decide) (by decide), _, rfl, x, n, rfl, n1, n40, q⟩
theorem ok_u65 {er : Errs} (EO : ErrOk K mg er) {ca : ClA} (CA : ClOk K mg ca) {fd : FuncData} (F : Fun K "bare" "Twins.bare" s_u65 ca.f_u65 fd) : FnOk P w K mg base CX0 1 ca.f_u65 fd ["self"] (sp_u65 K ca) := by
 refine F.ok sc_u65 (fun vs H Q E h => ?_) (fun cdv A outer s H vs Q E hr h => ?_)
 ·obtain ⟨x, rfl, q⟩ := h
  rfl
 obtain ⟨x, rfl, q⟩ := h
 refine ⟨_, pss_one (ps_ret (pe_tup pa_nil)), ?_⟩
 exact ⟨Nat.zero_le _, fun p hp => q _ _ (Same.new (Same.refl H) hp _) (fun _ e => by cases e; exact hp) ⟨p, rfl, upd_same⟩⟩
theorem ok_u60 {er : Errs} (EO : ErrOk K mg er) {ca : ClA} (CA : ClOk K mg ca) {fd : FuncData} (F : Fun K "joined" "Twins.joined" s_u60 ca.f_u60 fd) : FnOk P w K mg base CX0 1 ca.f_u60 fd ["self", "left", "right"] (sp_u60 K ca) := by
 refine F.ok sc_u60 (fun vs H Q E h => ?_) (fun cdv A outer s H vs Q E hr h => ?_)
 ·obtain ⟨x, vl, vr, bl, br, rfl, thl, thr, h39, q⟩ := h
  rfl
 obtain ⟨x, vl, vr, bl, br, rfl, thl, thr, h39, q⟩ := h
 refine ⟨_, pss_one (ps_ret (pe_tup (pa_cons (pv 1) (pa_cons (pv 2) pa_nil)))), ?_⟩
 refine ⟨_, rfl, _, rfl, (by show 2 ≤ sizeLine; decide), fun p hp => ?_⟩
 have s1 := Same.new (Same.refl H) hp (.tup [vl, vr])
 exact q _ _ s1 (fun _ e => by cases e; exact hp) ⟨p, vl, vr, rfl, upd_same, Tw.same s1 thl, Tw.same s1 thr⟩
theorem ok_u14 {er : Errs} (EO : ErrOk K mg er) {ca : ClA} (CA : ClOk K mg ca) {fd : FuncData} (F : Fun K "thing_by_parts" "SplitFamily.thing_by_parts" s_u14 ca.f_u14 fd) {fd0 : FuncData} (d_u65 : MDef P w K mg base ["self"] 1 (sp_u65 K ca) ca.f_u65 fd0) {fd2 : FuncData} (d_u60 : MDef P w K mg base ["self", "left", "right"] 1 (sp_u60 K ca) ca.f_u60 fd2) (n : Nat) (d_self : MDef P w K mg base ["self", "counts", "size", "number"] (1 + n) (below n fun m => sp_u14 K ca m) ca.f_u14 fd) : FnOk P w K mg base (CX1 P w) (1 + n + 1) ca.f_u14 fd ["self", "counts", "size", "number"] (sp_u14 K ca n) := by
 refine FnOk.up ?_
 refine F.ok sc_u14 (fun vs H Q E h => ?_) (fun cdv A outer s H vs Q E hr h => ?_)
 ·obtain ⟨x, dx, fs, wd, pc, k, t, rfl, hx, fl, hc, hn, hk, k40, q⟩ := h
  rfl
 obtain ⟨x, dx, fs, wd, pc, k, t, rfl, hx, fl, hc, hn, hk, k40, q⟩ := h
 refine ⟨_, pss_cons (ps_if (pt_cmpR op_eq (pv 2) pe_int (nomark _)) (pss_one (ps_ret (pmeth0 (pv 0) CA.c_Twins CA.mt_Twins_bare d_u65 hr (hjk := by omega)))) pss_nil)
  (pss_cons (ps_set (i := 4) sc_u14.nd rfl (Or.inl rfl) pe_int)
  (pss_cons (ps_set (i := 5) sc_u14.nd rfl (Or.inl rfl) (pv 3))
  (pss_cons (ps_while PassesOwn.never (pt_cmpR op_ge (pv 5) (pe_op op_mul (pe_ix ix_list (pv 1) (pv 4) (fun _ _ => rfl)) (pe_ix ix_list (pv 1) (pe_op op_sub (pe_op op_sub (pv 2) pe_int) (pv 4)) (fun _ _ => rfl))) (nomark _)) (pss_cons (ps_aug (i := 5) sc_u14.nd rfl (Or.inl rfl) (pe_op op_mul (pe_ix ix_list (pv 1) (pv 4) (fun _ _ => rfl)) (pe_ix ix_list (pv 1) (pe_op op_sub (pe_op op_sub (pv 2) pe_int) (pv 4)) (fun _ _ => rfl))) ip_sub)
  (pss_one (ps_aug (i := 4) sc_u14.nd rfl (Or.inl rfl) pe_int ip_add))))
  (pss_cons (ps_set (i := 6) sc_u14.nd rfl (Or.inl rfl) (pe_op op_sub (pe_op op_sub (pv 2) pe_int) (pv 4)))
  (pss_cons (ps_set (i := 7) sc_u14.nd rfl (Or.inl rfl) (pmeth (pv 0) CA.c_Twins CA.mt_Twins_thing_by_parts d_self hr (pa_cons (pv 1) (pa_cons (pv 4) (pa_cons (pe_op op_fdivL (pv 5) (pe_ix ix_list (pv 1) (pv 6) (fun _ _ => rfl))) pa_nil))) (hjk := by omega)))
  (pss_cons (ps_set (i := 8) sc_u14.nd rfl (Or.inl rfl) (pmeth (pv 0) CA.c_Twins CA.mt_Twins_thing_by_parts d_self hr (pa_cons (pv 1) (pa_cons (pv 6) (pa_cons (pe_op op_mod (pv 5) (pe_ix ix_list (pv 1) (pv 6) (fun _ _ => rfl))) pa_nil))) (hjk := by omega)))
  (pss_one (ps_ret (pmeth (pv 0) CA.c_Twins CA.mt_Twins_joined d_u60 hr (pa_cons (pv 7) (pa_cons (pv 8) pa_nil)) (hjk := by omega)))))))))), ?_⟩
 refine ⟨_, rfl, rfl, _, rfl, ?_⟩
 cases t with
 | leaf =>
  have hn : 0 = n := hn
  exact iteP (congrArg V.int (by omega)) ⟨_, rfl, x, dx, fs, rfl, hx, fl.no "bare" (by decide) (by decide), x, rfl, fun v H' s nw th => q v H' s nw th⟩
 | node l r =>
  have hn : l.size + r.size + 1 = n := hn
  have lk : (shL k).length = k + 1 := shL_length k
  have at_ : ∀ (j : Nat) (z : Int), z = (j : Int) → j ≤ k → atI ((shL k).map V.int) z = some (.int (sh j)) := fun j z ez hj => by
   have := atI_int (ns := shL k) (i := z) (by omega) (by omega)
   rw [show z.toNat = j by omega, shL_get k j hj] at this
   exact this
  refine iteN (fun z => by injection z with z; omega) ⟨_, rfl, ?_⟩
  refine ⟨fun mm σ H5 => ∃ (o1 o2 o3 : Option V) (j : Nat), σ = [some (.ref x), some (.ref pc), some (.int (n : Int)), some (.int (bnum (.node l r))), some (.int (j : Int)), some (.int (bnum (.node l r) - pre n j)), o1, o2, o3] ∧ H = H5 ∧ j ≤ l.size ∧ mm = n - j, ⟨_, _, _, _, 0, by rw [show pre n 0 = 0 from rfl, Int.sub_zero]; rfl, rfl, by omega, rfl⟩, ?_⟩
  rintro mm σ H5 ⟨o1, o2, o3, j, rfl, rfl, hj, rfl⟩
  have p1 := sh_pos j
  have p2 := sh_pos (n - 1 - j)
  have a1 := at_ j (j : Int) rfl (by omega)
  have a2 := at_ (n - 1 - j) ((n : Int) - 1 - (j : Int)) (by omega) (by omega)
  have mc : CMul (sh j) (sh (n - 1 - j)) := mulC (a := j) (b := n - 1 - j) (by omega) (by omega) (Int.le_refl _) (by omega) (Int.le_refl _)
  refine ⟨_, rfl, _, rfl, _, rfl, pc, _, _, _, rfl, rfl, SqL.of hc, a1, _, rfl, _, rfl, _, _, rfl, rfl, _, rfl, _, _, rfl, rfl, pc, _, _, _, rfl, rfl, SqL.of hc, a2, _, _, rfl, rfl, mc, _, _, rfl, rfl, _, rfl, ?_⟩
  have ps := pre_succ n j
  by_cases h : j < l.size
  ·have go := left_go (r := r) h
   rw [hn, show l.size + r.size - j = n - 1 - j by omega] at go
   refine iteP (by omega) ⟨fun σ' H6 => σ' = [some (.ref x), some (.ref pc), some (.int (n : Int)), some (.int (bnum (.node l r))), some (.int ((j : Int) + 1)), some (.int (bnum (.node l r) - pre n j - sh j * sh (n - 1 - j))), o1, o2, o3] ∧ H = H6, ?_, ?_⟩
   ·rintro σ' H6 ⟨rfl, rfl⟩
    refine ⟨n - (j + 1), by omega, o1, o2, o3, j + 1, ?_, rfl, h, rfl⟩
    rw [show bnum (.node l r) - pre n (j + 1) = bnum (.node l r) - pre n j - sh j * sh (n - 1 - j) by omega]
    rfl
   ·exact ⟨_, rfl, _, rfl, _, rfl, pc, _, _, _, rfl, rfl, SqL.of hc, a1, _, rfl, _, rfl, _, _, rfl, rfl, _, rfl, _, _, rfl, rfl, pc, _, _, _, rfl, rfl, SqL.of hc, a2, _, _, rfl, rfl, mc, _, _, rfl, rfl, _, rfl, _, _, rfl, rfl, rfl, rfl⟩
  have ej : j = l.size := by omega
  subst ej
  have stp := left_stop l r
  rw [hn] at stp
  have er : n - 1 - l.size = r.size := by omega
  have b1 := bnum_low l
  have b2 := bnum_low r
  have b3 := bnum_lt r
  have lt := part_lt (bnum_lt l) b2 b3
  rw [er] at p2
  refine iteN (by rw [er, stp]; omega) ⟨_, rfl, _, _, rfl, rfl, _, rfl, _, _, rfl, rfl, ?_⟩
  try dsimp only
  have eb : (n : Int) - 1 - (l.size : Int) = (r.size : Int) := by omega
  rw [eb, stp]
  have pd := part_div (x := bnum l) b2 b3
  have a3 := at_ r.size (r.size : Int) rfl (by omega)
  refine ⟨_, rfl, x, dx, fs, rfl, hx, fl.no "thing_by_parts" (by decide) (by decide), _, rfl, _, rfl, _, rfl, _, rfl, _, rfl, pc, _, _, _, rfl, rfl, SqL.of hc, a3, _, _, rfl, rfl, divB (by omega) (sh_big (by omega)), l.size, by omega, x, dx, fs, wd, pc, k, l, congrArg (fun z => [V.ref x, V.ref pc, V.int (l.size : Int), V.int z]) pd.1, hx, fl, hc, rfl, by omega, k40, fun vl H1 s1 _ th1 => ?_⟩
  refine ⟨_, rfl, x, dx, fs, rfl, s1 _ _ hx, fl.no "thing_by_parts" (by decide) (by decide), _, rfl, _, rfl, _, rfl, _, rfl, _, rfl, pc, _, _, _, rfl, rfl, SqL.of (s1 _ _ hc), a3, _, _, rfl, rfl, by omega, r.size, by omega, x, dx, fs, wd, pc, k, r, congrArg (fun z => [V.ref x, V.ref pc, V.int (r.size : Int), V.int z]) pd.2, s1 _ _ hx, fl, s1 _ _ hc, rfl, by omega, k40, fun vr H2 s2 _ th2 => ?_⟩
  have s12 := s1.trans s2
  refine ⟨_, rfl, x, dx, fs, rfl, s12 _ _ hx, fl.no "joined" (by decide) (by decide), _, rfl, _, rfl, x, vl, vr, l, r, rfl, th1.same s2, th2, by omega, fun v H' s nw th => ?_⟩
  exact q v H' (s12.trans s) (nw.back s12) th
theorem ok_u12 {er : Errs} (EO : ErrOk K mg er) {ca : ClA} (CA : ClOk K mg ca) {fd : FuncData} (F : Fun K "unchecked_thing" "SplitFamily.unchecked_thing" s_u12 ca.f_u12 fd) {fd0 : FuncData} (d_u14 : MDef P w K mg base ["self", "counts", "size", "number"] 43 (spA_u14 K ca) ca.f_u14 fd0) {f1 : Addr} {fd1 : FuncData} (d_u82 : Def P w K mg base "shares" ["most"] 1 (sp_u82 K ca) f1 fd1) : FnOk P w K mg base CX0 44 ca.f_u12 fd ["self", "size", "number"] (sp_u12 K ca) := by
 refine F.ok sc_u12 (fun vs H Q E h => ?_) (fun cdv A outer s H vs Q E hr h => ?_)
 ·obtain ⟨x, dx, fs, wd, t, rfl, hx, fl, h40, q⟩ := h
  rfl
 obtain ⟨x, dx, fs, wd, t, rfl, hx, fl, h40, q⟩ := h
 refine ⟨_, pss_one (ps_ret (pmeth (pv 0) CA.c_Twins CA.mt_Twins_thing_by_parts d_u14 hr (pa_cons (pcall d_u82 hr (pa_cons (pv 1) pa_nil)) (pa_cons (pv 1) (pa_cons (pv 2) pa_nil))))), ?_⟩
 refine ⟨_, rfl, x, dx, fs, rfl, hx, fl.no "thing_by_parts" (by decide) (by decide), _, rfl, (t.size : Int), rfl, by omega, by omega, fun pc H1 s1 fc hc => ?_⟩
 rw [Int.toNat_natCast] at hc
 exact ⟨_, rfl, _, rfl, t.size, by omega, x, dx, fs, wd, pc, t.size, t, rfl, s1 _ _ hx, fl, hc, rfl, Nat.le_refl _, h40, fun v H' s nw th => q v H' (s1.trans s) (nw.back s1) th⟩
theorem ok_u30 {er : Errs} (EO : ErrOk K mg er) {ca : ClA} (CA : ClOk K mg ca) {fd : FuncData} (F : Fun K "thing_of" "Family.thing_of" s_u30 ca.f_u30 fd) {fd0 : FuncData} (d_u38 : MDef P w K mg base ["self", "size"] 3 (sp_u38 K ca er) ca.f_u38 fd0) {fd1 : FuncData} (d_u12 : MDef P w K mg base ["self", "size", "number"] 44 (sp_u12 K ca) ca.f_u12 fd1) : FnOk P w K mg base (CX1 P w) 45 ca.f_u30 fd ["self", "size", "number"] (sp_u30 K ca er) := by
 refine F.okE sc_u30 (fun vs H Q E h => ?_) (fun cdv A outer s H vs Q E hr h => ?_)
 ·obtain ⟨x, dx, fs, wd, n, m, rfl, hx, fl, q⟩ := h
  rfl
 obtain ⟨x, dx, fs, wd, n, m, rfl, hx, fl, q⟩ := h
 refine ⟨_, pss_cons (ps_set (i := 3) sc_u30.nd rfl (Or.inl rfl) (pmethT thr_def (pv 0) CA.c_Twins CA.mt_Twins_many d_u38 hr (pa_cons (pv 1) pa_nil)))
  (pss_cons (ps_if (PW.pt (pw_or (pt_cmpR op_lt (pv 2) pe_int (nomark _)) (pw_or1 (pt_cmpR op_ge (pv 2) (pv 3) (nomark _))))) (pss_one (ps_raise thr_def EO.x_number rfl EO.m_number (pa_cons pe_str pa_nil))) pss_nil)
  (pss_one (ps_ret (pmeth (pv 0) CA.c_Twins CA.mt_Twins_unchecked_thing d_u12 hr (pa_cons (pv 1) (pa_cons (pv 2) pa_nil)))))), ?_⟩
 rcases q with ⟨h, q⟩ | ⟨n1, n40, h, q⟩ | ⟨t, rfl, rfl, h40, q⟩
 ·exact ⟨_, rfl, x, dx, fs, rfl, hx, fl.no "many" (by decide) (by decide), _, rfl, x, dx, fs, wd, n, rfl, hx, fl, .inl ⟨h, q⟩⟩
 ·refine ⟨_, rfl, x, dx, fs, rfl, hx, fl.no "many" (by decide) (by decide), _, rfl, x, dx, fs, wd, n, rfl, hx, fl, .inr ⟨n1, n40, _, rfl, _, _, rfl, rfl, _, rfl, ?_⟩⟩
  by_cases h1 : m < 0
  ·exact iteP h1 (iteT ⟨sz (n := 1) (by decide), q⟩)
  ·exact iteN h1 ⟨_, rfl, _, rfl, _, _, rfl, rfl, _, rfl, iteP (by omega) ⟨sz (n := 1) (by decide), q⟩⟩
 ·have b1 := bnum_low t
  have b2 := bnum_lt t
  rw [sh_cR (by omega)] at b2
  refine ⟨_, rfl, x, dx, fs, rfl, hx, fl.no "many" (by decide) (by decide), _, rfl, x, dx, fs, wd, (t.size : Int), rfl, hx, fl, .inr ⟨by omega, by omega, ?_⟩⟩
  rw [Int.toNat_natCast]
  refine ⟨_, rfl, _, _, rfl, rfl, _, rfl, iteN (by omega) ⟨_, rfl, _, rfl, _, _, rfl, rfl, _, rfl, iteN (by omega) ?_⟩⟩
  exact ⟨_, rfl, x, dx, fs, rfl, hx, fl.no "unchecked_thing" (by decide) (by decide), _, rfl, _, rfl, x, dx, fs, wd, t, rfl, hx, fl, h40, q⟩
theorem ok_u66 {er : Errs} (EO : ErrOk K mg er) {ca : ClA} (CA : ClOk K mg ca) {f : Addr} {fd : FuncData} (F : Fun K "_law_closes" "_law_closes" s_u66 f fd) : FnOk P w K mg base CX0 1 f fd ["_law_text"] (sp_u66 K ca) := by
 refine F.ok sc_u66 (fun vs H Q E h => ?_) (fun cdv A outer s H vs Q E hr h => ?_)
 ·obtain ⟨x, rfl, q⟩ := h
  rfl
 obtain ⟨x, rfl, q⟩ := h
 refine ⟨_, pss_cons (ps_set (i := 1) sc_u66.nd rfl (Or.inl rfl) pe_int)
  (pss_cons (ps_for PassesOwn.never rfl (pi_str (pv 0)) (pg_name (i := 2) sc_u66.nd rfl (Or.inl rfl)) (pss_cons (ps_if (pt_cmpR op_eq (pv 2) pe_str (nomark _)) (pss_one (ps_set (i := 1) sc_u66.nd rfl (Or.inl rfl) (pe_op op_add (pv 1) pe_int))) (pss_one (ps_if (pt_cmpR op_eq (pv 2) pe_str (nomark _)) (pss_one (ps_set (i := 1) sc_u66.nd rfl (Or.inl rfl) (pe_op op_sub (pv 1) pe_int))) (pss_one (ps_ret pe_bl)))))
  (pss_one (ps_if (pt_cmpR op_lt (pv 1) pe_int (nomark _)) (pss_one (ps_ret pe_bl)) pss_nil))))
  (pss_one (ps_ret (pe_cmpR op_eq (pv 1) pe_int (nomark _))))), ?_⟩
 have fin : ∀ b, clo 0 x.cps.toList = b → Q (.bl b) H := fun b h => by rw [← h]; exact q
 refine ⟨_, rfl, x, rfl, for_str (x := x) (fun i σ H' => H' = H ∧ ∃ (o : Option V) (d : Nat), σ = [some (.str x), some (.int d), o] ∧ clo 0 x.cps.toList = clo d (x.cps.toList.drop i)) ⟨rfl, none, 0, rfl, rfl⟩ ?_ ?_⟩
 ·rintro i c σ H' hc ⟨rfl, o, d, rfl, e⟩
  rw [drop_cps hc] at e
  refine ⟨_, rfl, rfl, _, rfl, iteB (dec40 c) ?_⟩
  by_cases h1 : c = 40
  ·refine iteP h1 ⟨_, rfl, _, _, rfl, rfl, _, rfl, _, _, rfl, rfl, _, rfl, iteN (by omega) ⟨rfl, _, d + 1, rfl, ?_⟩⟩
   rw [e, h1, clo_up]
  ·refine iteN h1 ⟨_, rfl, rfl, _, rfl, iteB (dec41 c) ?_⟩
   by_cases h2 : c = 41
   ·refine iteP h2 ⟨_, rfl, _, _, rfl, rfl, _, rfl, _, _, rfl, rfl, _, rfl, ?_⟩
    cases d with
    | zero => exact iteP (by omega) (fin false (by rw [e, h2, clo_under]))
    | succ d =>
     refine iteN (by omega) ⟨rfl, some (.str ⟨#[c]⟩), d, ?_, ?_⟩
     ·show [some (V.str x), some (V.int (((d + 1 : Nat) : Int) - 1)), some (V.str ⟨#[c]⟩)] = _
      rw [show ((d + 1 : Nat) : Int) - 1 = (d : Int) by omega]
     ·rw [e, h2, clo_down]
   ·exact iteN h2 (fin false (by rw [e, clo_other h1 h2]))
 ·rintro σ H' ⟨rfl, o, d, rfl, e⟩
  refine ⟨_, rfl, rfl, fin _ ?_⟩
  rw [e, drop_all, clo_nil]
  cases d with
  | zero => rfl
  | succ d => exact (decide_eq_false fun z => by injection z with z; omega).symm
theorem ok_u70 {er : Errs} (EO : ErrOk K mg er) {ca : ClA} (CA : ClOk K mg ca) {f : Addr} {fd : FuncData} (F : Fun K "_law_pairs" "_law_pairs" s_u70 f fd) (m_isinstance : mg "isinstance" = none) (m_tuple : mg "tuple" = none) (m_len : mg "len" = none) (n : Nat) (d_self : Def P w K mg base "_law_pairs" ["_law_thing", "_law_deep"] (0 + n) (below n fun m => sp_u70 K ca m) f fd) : FnOk P w K mg base (CX1 P w) (0 + n + 1) f fd ["_law_thing", "_law_deep"] (sp_u70 K ca n) := by
 refine FnOk.up ?_
 refine F.ok sc_u70 (fun vs H Q E h => ?_) (fun cdv A outer s H vs Q E hr h => ?_)
 ·obtain ⟨v, d, t, rfl, tv, hn, d0, d41, q⟩ := h
  rfl
 obtain ⟨v, d, t, rfl, tv, hn, d0, d41, q⟩ := h
 refine ⟨_, pss_cons (ps_if (PW.pt (pw_or (pt_not (pt_val (pe_callB call_isinst rfl m_isinstance bb_isinstance (pa_cons (pv 0) (pa_cons (pe_bltn (v := .ty "tuple") rfl m_tuple bb_tuple rfl) pa_nil))))) (pw_or (pt_cmpR op_eq (pe_callB call_len_seq rfl m_len bb_len (pa_cons (pv 0) pa_nil)) pe_int (nomark _)) (pw_or (pt_cmpR op_gt (pe_callB call_len_seq rfl m_len bb_len (pa_cons (pv 0) pa_nil)) pe_int (nomark _)) (pw_or1 (pt_cmpR op_gt (pv 1) pe_int (nomark _))))))) (pss_one (ps_ret (pe_un un_neg pe_int))) pss_nil)
  (pss_cons (ps_if (pt_cmpR op_eq (pe_callB call_len_seq rfl m_len bb_len (pa_cons (pv 0) pa_nil)) pe_int (nomark _)) (pss_one (ps_ret pe_int)) pss_nil)
  (pss_one (ps_ret (pe_op op_add (pe_op op_add pe_int (pcall d_self hr (pa_cons (pe_ix ix_tup (pv 0) pe_int (fun _ _ => rfl)) (pa_cons (pe_op op_add (pv 1) pe_int) pa_nil)) (hjk := by omega))) (pcall d_self hr (pa_cons (pe_ix ix_tup (pv 0) pe_int (fun _ _ => rfl)) (pa_cons (pe_op op_add (pv 1) pe_int) pa_nil)) (hjk := by omega)))))), ?_⟩
 cases t with
 | leaf =>
  obtain ⟨p, rfl, hp⟩ := tv
  have z : (Bt.leaf).size = 0 := rfl
  refine ⟨_, rfl, _, _, _, _, _, rfl, relTy, .tup hp, kit_tuple_tuple, _, rfl, iteF ⟨_, rfl, p, _, rfl, .inr (SqT.of hp), rfl, _, rfl, iteN (by decide) ⟨_, rfl, p, _, rfl, .inr (SqT.of hp), _, _, rfl, rfl, _, rfl, iteN (by decide) ⟨_, rfl, _, _, rfl, rfl, _, rfl, iteN (by omega) ?_⟩⟩⟩⟩
  exact ⟨_, rfl, p, _, rfl, .inr (SqT.of hp), rfl, _, rfl, iteP rfl q⟩
 | node l r =>
  obtain ⟨p, a, b, rfl, hp, tl, tr⟩ := tv
  have hn : l.size + r.size + 1 = n := hn
  have d41 : d + ((l.size + r.size + 1 : Nat) : Int) ≤ 41 := d41
  refine ⟨_, rfl, _, _, _, _, _, rfl, relTy, .tup hp, kit_tuple_tuple, _, rfl, iteF ⟨_, rfl, p, _, rfl, .inr (SqT.of hp), rfl, _, rfl, iteN (by simp) ⟨_, rfl, p, _, rfl, .inr (SqT.of hp), _, _, rfl, rfl, _, rfl, iteN (by simp) ⟨_, rfl, _, _, rfl, rfl, _, rfl, iteN (by omega) ?_⟩⟩⟩⟩
  refine ⟨_, rfl, p, _, rfl, .inr (SqT.of hp), rfl, _, rfl, iteN (by simp) ?_⟩
  refine ⟨_, rfl, p, _, _, _, rfl, rfl, SqT.of hp, rfl, _, rfl, _, _, rfl, rfl, l.size, by omega, a, d + 1, l, rfl, tl, rfl, by omega, by omega, _, _, rfl, rfl, ?_⟩
  refine ⟨_, rfl, p, _, _, _, rfl, rfl, SqT.of hp, rfl, _, rfl, _, _, rfl, rfl, r.size, by omega, b, d + 1, r, rfl, tr, rfl, by omega, by omega, _, _, rfl, rfl, ?_⟩
  try dsimp only
  have e : (1 : Int) + (l.size : Int) + (r.size : Int) = ((Bt.node l r).size : Int) := by show _ = ((l.size + r.size + 1 : Nat) : Int); omega
  rw [e]
  exact q
theorem ok_u72 {er : Errs} (EO : ErrOk K mg er) {ca : ClA} (CA : ClOk K mg ca) {f : Addr} {fd : FuncData} (F : Fun K "_law_whole" "_law_whole" s_u72 f fd) (m_isinstance : mg "isinstance" = none) (m_int : mg "int" = none) (m_bool : mg "bool" = none) : FnOk P w K mg base CX0 1 f fd ["_law_found"] (sp_u72 K ca) := by
 refine F.ok sc_u72 (fun vs H Q E h => ?_) (fun cdv A outer s H vs Q E hr h => ?_)
 ·obtain ⟨n, rfl, q⟩ := h
  rfl
 obtain ⟨n, rfl, q⟩ := h
 refine ⟨_, pss_one (ps_ret (pe_and (pe_callB call_isinst rfl m_isinstance bb_isinstance (pa_cons (pv 0) (pa_cons (pe_bltn (v := .ty "int") rfl m_int bb_int rfl) pa_nil))) (pe_one (pe_not (pe_callB call_isinst rfl m_isinstance bb_isinstance (pa_cons (pv 0) (pa_cons (pe_bltn (v := .ty "bool") rfl m_bool bb_bool rfl) pa_nil))))))), ?_⟩
 exact ⟨_, rfl, _, _, _, _, _, rfl, relTy, .int _, kit_int_int, _, rfl, iteT ⟨_, rfl, _, _, _, _, _, rfl, relTy, .int _, kit_int_bool, _, rfl, q⟩⟩
theorem ok_u53 {er : Errs} (EO : ErrOk K mg er) {ca : ClA} (CA : ClOk K mg ca) {f : Addr} {fd : FuncData} (F : Fun K "_law_is_stairs" "_law_is_stairs" s_u53 f fd) (m_range : mg "range" = none) (m_len : mg "len" = none) : FnOk P w K mg base CX0 1 f fd ["_law_row"] (sp_u53 K ca) := by
 refine F.ok sc_u53 (fun vs H Q E h => ?_) (fun cdv A outer s H vs Q E hr h => ?_)
 ·obtain ⟨l, ns, rfl, hl, hz, q⟩ := h
  rfl
 obtain ⟨l, ns, rfl, hl, hz, q⟩ := h
 refine ⟨_, pss_cons (ps_for PassesOwn.never rfl (pi_range1 rfl m_range (pa_cons (pe_callB call_len_seq rfl m_len bb_len (pa_cons (pv 0) pa_nil)) pa_nil)) (pg_name (i := 1) sc_u53.nd rfl (Or.inl rfl)) (pss_one (ps_if (PW.pt (pw_or (pt_cmpR op_lt (pe_ix ix_list (pv 0) (pv 1) (fun _ _ => rfl)) pe_int (nomark _)) (pw_or (pt_cmpR op_gt (pe_ix ix_list (pv 0) (pv 1) (fun _ _ => rfl)) (pv 1) (nomark _)) (pw_or1 (PW.pt (pw_and (pt_cmpR op_gt (pv 1) pe_int (nomark _)) (pw_and1 (pt_cmpR op_lt (pe_ix ix_list (pv 0) (pv 1) (fun _ _ => rfl)) (pe_ix ix_list (pv 0) (pe_op op_sub (pv 1) pe_int) (fun _ _ => rfl)) (nomark _))))))))) (pss_one (ps_ret pe_bl)) pss_nil)))
  (pss_one (ps_ret pe_bl)), ?_⟩
 have lm : (ns.map V.int).length = ns.length := List.length_map _
 refine ⟨_, rfl, l, _, rfl, .inl hl, _, rfl, by omega, by omega, for_range (lo := 0) (n := (((ns.map V.int).length : Nat) : Int).toNat) (fun i σ H' => ∃ (o : Option V), σ = [some (.ref l), o] ∧ H = H' ∧ ∃ a : Int, 0 ≤ a ∧ (0 < i → a = ns.getD (i - 1) 0) ∧ (i = 0 → a = 0) ∧ stF 0 0 ns = stF i a (ns.drop i)) ⟨_, rfl, rfl, 0, by decide, fun h => absurd h (by decide), fun _ => rfl, rfl⟩ ?_ ?_⟩
 ·rintro i σ H' hi ⟨o, rfl, rfl, a, a0, ap, az, e⟩
  have hi' : i < ns.length := by omega
  have at1 := atI_int (ns := ns) (i := (0 : Int) + (i : Int)) (by omega) (by omega)
  rw [show ((0 : Int) + (i : Int)).toNat = i by omega] at at1
  rw [get_drop hi'] at e
  generalize hc : ns.getD i 0 = c at at1 e
  have fin : (c < a ∨ (i : Int) < c) → Q (.bl false) H := fun h => by
   rw [stF_bad h] at e
   rw [e] at q
   exact q
  refine ⟨_, rfl, _, rfl, l, _, _, _, rfl, rfl, hl, at1, _, _, rfl, rfl, _, rfl, ?_⟩
  by_cases h1 : c < 0
  ·exact iteP h1 (iteT (fin (.inl (by omega))))
  refine iteN h1 ⟨_, rfl, _, rfl, l, _, _, _, rfl, rfl, hl, at1, _, rfl, _, _, rfl, rfl, _, rfl, ?_⟩
  by_cases h2 : (0 : Int) + (i : Int) < c
  ·exact iteP h2 (iteT (fin (.inr (by omega))))
  refine iteN h2 ⟨_, rfl, _, _, rfl, rfl, _, rfl, ?_⟩
  by_cases h3 : (0 : Int) < (0 : Int) + (i : Int)
  ·have at0 := atI_int (ns := ns) (i := (0 : Int) + (i : Int) - 1) (by omega) (by omega)
   rw [show ((0 : Int) + (i : Int) - 1).toNat = i - 1 by omega, ← ap (by omega)] at at0
   refine iteP h3 ⟨_, rfl, _, rfl, l, _, _, _, rfl, rfl, hl, at1, _, rfl, _, rfl, _, _, rfl, rfl, l, _, _, _, rfl, rfl, hl, at0, _, _, rfl, rfl, _, rfl, ?_⟩
   by_cases h4 : c < a
   ·exact iteP h4 (fin (.inl h4))
   ·refine iteN h4 ⟨_, rfl, rfl, c, by omega, fun _ => ?_, fun h => absurd h (by omega), ?_⟩
    ·rw [Nat.add_sub_cancel]; exact hc.symm
    ·rw [stF_go (by omega)] at e
     exact e
  ·have hi0 : i = 0 := by omega
   have := az hi0
   refine iteN h3 (iteF ⟨_, rfl, rfl, c, by omega, fun _ => ?_, fun h => absurd h (by omega), ?_⟩)
   ·rw [Nat.add_sub_cancel]; exact hc.symm
   ·rw [stF_go (by omega)] at e
    exact e
 ·rintro σ H' ⟨o, rfl, rfl, a, a0, ap, az, e⟩
  rw [show (((ns.map V.int).length : Nat) : Int).toNat = ns.length by omega, List.drop_length, stF_nil] at e
  rw [e] at q
  exact q
theorem ok_u77 {er : Errs} (EO : ErrOk K mg er) {ca : ClA} (CA : ClOk K mg ca) {f : Addr} {fd : FuncData} (F : Fun K "_law_one" "_law_one" s_u77 f fd) {f0 : Addr} {fd0 : FuncData} (d_u66 : Def P w K mg base "_law_closes" ["_law_text"] 1 (sp_u66 K ca) f0 fd0) {f1 : Addr} {fd1 : FuncData} (d_u70 : Def P w K mg base "_law_pairs" ["_law_thing", "_law_deep"] 42 (spA_u70 K ca) f1 fd1) {f2 : Addr} {fd2 : FuncData} (d_u72 : Def P w K mg base "_law_whole" ["_law_found"] 1 (sp_u72 K ca) f2 fd2) {f3 : Addr} {fd3 : FuncData} (d_u53 : Def P w K mg base "_law_is_stairs" ["_law_row"] 1 (sp_u53 K ca) f3 fd3) (m_isinstance : mg "isinstance" = none) (m_str : mg "str" = none) (m_len : mg "len" = none) (m_list : mg "list" = none) : FnOk P w K mg base CX0 43 f fd ["_law_way", "_law_thing", "_law_size"] (sp_u77 K ca) := by
 refine F.ok sc_u77 (fun vs H Q E h => ?_) (fun cdv A outer s H vs Q E hr h => ?_)
 ·obtain ⟨w, v, t, rfl, hw, tv, h40, q⟩ := h
  rfl
 obtain ⟨w, v, t, rfl, hw, tv, h40, q⟩ := h
 refine ⟨_, pss_cons (ps_if (pt_cmpR op_eq (pv 0) pe_int (nomark _)) (pss_one (ps_ret (pe_and (pe_callB call_isinst rfl m_isinstance bb_isinstance (pa_cons (pv 1) (pa_cons (pe_bltn (v := .ty "str") rfl m_str bb_str rfl) pa_nil))) (pe_and (pe_cmpR op_eq (pe_callB call_len_str rfl m_len bb_len (pa_cons (pv 1) pa_nil)) (pe_op op_mul pe_int (pv 2)) (nomark _)) (pe_one (pcall d_u66 hr (pa_cons (pv 1) pa_nil))))))) pss_nil)
  (pss_cons (ps_if (pt_cmpR op_eq (pv 0) pe_int (nomark _)) (pss_one (ps_ret (pe_cmpR op_eq (pcall d_u70 hr (pa_cons (pv 1) (pa_cons pe_int pa_nil))) (pv 2) (nomark _)))) pss_nil)
  (pss_cons (ps_if (PW.pt (pw_or (pt_not (pt_val (pe_callB call_isinst rfl m_isinstance bb_isinstance (pa_cons (pv 1) (pa_cons (pe_bltn (v := .ty "list") rfl m_list bb_list rfl) pa_nil))))) (pw_or (pt_cmpR op_ne (pe_callB call_len_seq rfl m_len bb_len (pa_cons (pv 1) pa_nil)) (pv 2) (nomark _)) (pw_or1 (pt_cmpR (op_ne_list (hu0 hr)) (pe_comp rfl (pi_list (pv 1)) rfl rfl rfl rfl (N := ["_law_one_here"]) (.own .nil) (fun _ _ _ _ _ _ => (pg_name (i := 0) (by show List.Nodup (["_law_one_here"] : List Str); decide +kernel) rfl (Or.inl rfl))) (fun _ _ _ _ _ _ => (pts_one (pt_not (pt_val (pcall d_u72 hr (pa_cons (pv 0) pa_nil)))))) (fun _ _ _ _ _ _ => (pv 0))) (pe_lst pa_nil) (nomark _)))))) (pss_one (ps_ret pe_bl)) pss_nil)
  (pss_one (ps_ret (pcall d_u53 hr (pa_cons (pv 1) pa_nil)))))), ?_⟩
 rcases (by omega : w = 0 ∨ w = 1 ∨ w = 2) with rfl | rfl | rfl
 ·obtain ⟨x, rfl, ex⟩ := tv
  have lx : x.length = 2 * t.size := by rw [← cps_len, ex, brk_len]
  have lz : x.length ≤ sizeLine := sz (by omega)
  refine ⟨_, rfl, rfl, _, rfl, iteP rfl ⟨_, rfl, _, _, _, _, _, rfl, relTy, .str _, kit_str_str, _, rfl, iteT ⟨_, rfl, x, rfl, lz, _, rfl, _, _, rfl, rfl, .inl ⟨by omega, by omega⟩, rfl, _, rfl, iteP (congrArg V.int (by omega)) ⟨_, rfl, x, rfl, ?_⟩⟩⟩⟩
  rw [ex, brk_clo]
  exact q _ (Same.refl H)
 ·obtain ⟨p, rfl, hp⟩ := tv
  obtain ⟨a0, st⟩ := stT_St t
  have ln := stT_len t
  have lm : ((stT t).map V.int).length = (stT t).length := List.length_map _
  refine ⟨_, rfl, rfl, _, rfl, iteN (by decide) ⟨_, rfl, rfl, _, rfl, iteN (by decide) ?_⟩⟩
  refine ⟨_, rfl, _, _, _, _, _, rfl, relTy, .lst hp, kit_list_list, _, rfl, iteF ⟨_, rfl, p, _, rfl, .inl (SqL.of hp), _, rfl, rfl, _, rfl, iteNS (congrArg (fun k : Nat => V.int (k : Int)) (lm.trans ln)) ?_⟩⟩
  refine ⟨_, rfl, p, rfl, ⟨_, SqL.of hp⟩, fun D hD => comp_walk (xs := (stT t).map V.int) (fun i ys H' => ys = [] ∧ H' = upd H D (.lst [])) (by rw [lm]; exact sz (by omega)) ⟨rfl, rfl⟩ (fun i ys H' _ h => ⟨by rw [h.2]; exact SqL.of ((upd_ne (ne_of_none hp hD)).trans hp), by rw [h.1]; exact Nat.zero_le _⟩) ?_ ?_⟩
  ·rintro i x ys H' R R0 hx ⟨rfl, rfl⟩ hR hR0
   obtain ⟨c, rfl⟩ := get_int hx
   exact ⟨Ext.set rfl, ⟨_, rfl, _, rfl, _, rfl, iteF (hR0 _ ⟨rfl, rfl⟩)⟩⟩
  rintro ys H' ⟨rfl, rfl⟩
  have s1 := Same.new (Same.refl H) hD (.lst [])
  refine ⟨Nat.zero_le _, fun pe hpe => ?_⟩
  have hD1 : upd H D (.lst []) D = some (.lst (([] : List Int).map V.int)) := upd_same
  have s2 := Same.new s1 hpe (.lst [])
  refine ⟨D, pe, _, _, rfl, rfl, SqL.of ((upd_ne (ne_of_none hD1 hpe)).trans hD1), SqL.of upd_same, flat_ints _, flat_ints (ns := []), _, rfl, ?_⟩
  refine iteF ?_
  exact ⟨_, rfl, p, stT t, rfl, SqL.of (s2 _ _ hp), by omega, by rw [st.ok]; exact q _ s2⟩
 ·have tv : Tw H v t := tv
  refine ⟨_, rfl, rfl, _, rfl, iteN (by decide) ⟨_, rfl, rfl, _, rfl, iteP rfl ⟨_, rfl, t.size, by omega, v, 0, t, rfl, tv, rfl, by decide, by omega, _, rfl, rfl, ?_⟩⟩⟩
  have e : decide (V.int (t.size : Int) = V.int (t.size : Int)) = true := decide_eq_true rfl
  rw [e]
  exact q _ (Same.refl H)
theorem ok_u81 {er : Errs} (EO : ErrOk K mg er) {ca : ClA} (CA : ClOk K mg ca) {f : Addr} {fd : FuncData} (F : Fun K "closes" "closes" s_u81 f fd) : FnOk P w K mg base CX0 1 f fd ["text"] (sp_u81 K ca) := by
 refine F.ok sc_u81 (fun vs H Q E h => ?_) (fun cdv A outer s H vs Q E hr h => ?_)
 ·obtain ⟨x, rfl, q⟩ := h
  rfl
 obtain ⟨x, rfl, q⟩ := h
 refine ⟨_, pss_cons (ps_set (i := 1) sc_u81.nd rfl (Or.inl rfl) pe_int)
  (pss_cons (ps_for PassesOwn.never rfl (pi_str (pv 0)) (pg_name (i := 2) sc_u81.nd rfl (Or.inl rfl)) (pss_one (ps_if (pt_cmpR op_eq (pv 2) pe_str (nomark _)) (pss_one (ps_aug (i := 1) sc_u81.nd rfl (Or.inl rfl) pe_int ip_add)) (pss_one (ps_if (PW.pt (pw_and (pt_cmpR op_eq (pv 2) pe_str (nomark _)) (pw_and1 (pt_cmpR op_gt (pv 1) pe_int (nomark _))))) (pss_one (ps_aug (i := 1) sc_u81.nd rfl (Or.inl rfl) pe_int ip_sub)) (pss_one (ps_ret pe_bl)))))))
  (pss_one (ps_ret (pe_cmpR op_eq (pv 1) pe_int (nomark _))))), ?_⟩
 have fin : ∀ b, clo 0 x.cps.toList = b → Q (.bl b) H := fun b h => by rw [← h]; exact q
 refine ⟨_, rfl, x, rfl, for_str (x := x) (fun i σ H' => H' = H ∧ ∃ (o : Option V) (d : Nat), σ = [some (.str x), some (.int d), o] ∧ clo 0 x.cps.toList = clo d (x.cps.toList.drop i)) ⟨rfl, none, 0, rfl, rfl⟩ ?_ ?_⟩
 ·rintro i c σ H' hc ⟨rfl, o, d, rfl, e⟩
  rw [drop_cps hc] at e
  refine ⟨_, rfl, rfl, _, rfl, iteB (dec40 c) ?_⟩
  by_cases h1 : c = 40
  ·refine iteP h1 ⟨_, rfl, _, _, rfl, rfl, rfl, _, d + 1, rfl, ?_⟩
   rw [e, h1, clo_up]
  ·refine iteN h1 ⟨_, rfl, rfl, _, rfl, iteB (dec41 c) ?_⟩
   by_cases h2 : c = 41
   ·refine iteP h2 ⟨_, rfl, _, _, rfl, rfl, _, rfl, ?_⟩
    cases d with
    | zero => exact iteF (fin false (by rw [e, h2, clo_under]))
    | succ d =>
     refine iteP (by omega) ⟨_, rfl, _, _, rfl, rfl, rfl, some (.str ⟨#[c]⟩), d, ?_, ?_⟩
     ·show [some (V.str x), some (V.int (((d + 1 : Nat) : Int) - 1)), some (V.str ⟨#[c]⟩)] = _
      rw [show ((d + 1 : Nat) : Int) - 1 = (d : Int) by omega]
     ·rw [e, h2, clo_down]
   ·exact iteN h2 (iteF (fin false (by rw [e, clo_other h1 h2])))
 ·rintro σ H' ⟨rfl, o, d, rfl, e⟩
  refine ⟨_, rfl, rfl, fin _ ?_⟩
  rw [e, drop_all, clo_nil]
  cases d with
  | zero => rfl
  | succ d => exact (decide_eq_false fun z => by injection z with z; omega).symm
theorem ok_u44 {er : Errs} (EO : ErrOk K mg er) {ca : ClA} (CA : ClOk K mg ca) {fd : FuncData} (F : Fun K "is_one" "Brackets.is_one" s_u44 ca.f_u44 fd) {f0 : Addr} {fd0 : FuncData} (d_u81 : Def P w K mg base "closes" ["text"] 1 (sp_u81 K ca) f0 fd0) : FnOk P w K mg base CX0 2 ca.f_u44 fd ["self", "thing"] (sp_u44 K ca) := by
 refine F.ok sc_u44 (fun vs H Q E h => ?_) (fun cdv A outer s H vs Q E hr h => ?_)
 ·obtain ⟨x, v, b, rfl, th, q⟩ := h
  rfl
 obtain ⟨x, v, b, rfl, th, q⟩ := h
 refine ⟨_, pss_one (ps_ret (pcall d_u81 hr (pa_cons (pv 1) pa_nil))), ?_⟩
 obtain ⟨t, rfl, rfl⟩ := th
 have q : Q (.bl (clo 0 t.cps.toList)) H := q _ (Same.refl H)
 exact ⟨_, rfl, t, rfl, q⟩
theorem ok_u16 {er : Errs} (EO : ErrOk K mg er) {ca : ClA} (CA : ClOk K mg ca) {fd : FuncData} (F : Fun K "refuse_other" "Family.refuse_other" s_u16 ca.f_u16 fd) {fd0 : FuncData} (d_u44 : MDef P w K mg base ["self", "thing"] 2 (sp_u44 K ca) ca.f_u44 fd0) : FnOk P w K mg base (CX1 P w) 3 ca.f_u16 fd ["self", "thing"] (sp_u16 K ca er) := by
 refine F.okE sc_u16 (fun vs H Q E h => ?_) (fun cdv A outer s H vs Q E hr h => ?_)
 ·obtain ⟨x, dx, fs, wd, v, rfl, hx, fl, q⟩ := h
  rfl
 obtain ⟨x, dx, fs, wd, v, rfl, hx, fl, q⟩ := h
 refine ⟨_, pss_one (ps_if (pt_not (pt_val (pmeth (pv 0) CA.c_Brackets CA.mt_Brackets_is_one d_u44 hr (pa_cons (pv 1) pa_nil)))) (pss_one (ps_raise thr_def EO.x_thing rfl EO.m_thing (pa_cons pe_str pa_nil))) pss_nil), ?_⟩
 rcases q with ⟨t, th, q⟩ | ⟨bad, q⟩
 ·exact ⟨_, rfl, x, dx, fs, rfl, hx, fl.no "is_one" (by decide) (by decide), _, rfl, x, v, true, rfl, (by obtain ⟨y, rfl, ey⟩ := th; exact ⟨y, rfl, by rw [ey, brk_clo]⟩), fun H1 s1 => ⟨_, rfl, iteF (q H1 s1)⟩⟩
 ·exact ⟨_, rfl, x, dx, fs, rfl, hx, fl.no "is_one" (by decide) (by decide), _, rfl, x, v, false, rfl, (by obtain ⟨y, rfl, ey⟩ := bad; exact ⟨y, rfl, ey.symm⟩), fun H1 s1 => ⟨_, rfl, iteT ⟨sz (n := 1) (by decide), q H1 s1⟩⟩⟩
theorem ok_u41 {er : Errs} (EO : ErrOk K mg er) {ca : ClA} (CA : ClOk K mg ca) {fd : FuncData} (F : Fun K "size_of" "Brackets.size_of" s_u41 ca.f_u41 fd) : FnOk P w K mg base CX0 1 ca.f_u41 fd ["self", "thing"] (sp_u41 K ca) := by
 refine F.ok sc_u41 (fun vs H Q E h => ?_) (fun cdv A outer s H vs Q E hr h => ?_)
 ·obtain ⟨x, v, b, rfl, th, h40, q⟩ := h
  rfl
 obtain ⟨x, v, b, rfl, th, h40, q⟩ := h
 refine ⟨_, pss_one (ps_ret (pe_bm PySem.F.plainAttrs_str PySem.F.slot_str_count PySem.F.type_str_count mt_count (pv 1) (pa_cons pe_str pa_nil))), ?_⟩
 obtain ⟨t, rfl, ht⟩ := th
 have q : Q (.int ((t.cps.toList.count 40 : Nat) : Int)) H := by rw [ht, brk_count]; exact q _ (Same.refl H)
 refine ⟨_, rfl, rfl, t, _, rfl, rfl, ?_⟩
 rw [p40, count_one]
 exact q
theorem ok_u68 {er : Errs} (EO : ErrOk K mg er) {ca : ClA} (CA : ClOk K mg ca) {f : Addr} {fd : FuncData} (F : Fun K "first_close" "first_close" s_u68 f fd) : FnOk P w K mg base CX0 1 f fd ["text"] (sp_u68 K ca) := by
 refine F.ok sc_u68 (fun vs H Q E h => ?_) (fun cdv A outer s H vs Q E hr h => ?_)
 ·obtain ⟨t, a, b, rfl, ht, ha, hz, q⟩ := h
  rfl
 obtain ⟨t, a, b, rfl, ht, ha, hz, q⟩ := h
 refine ⟨_, pss_cons (ps_set (i := 1) sc_u68.nd rfl (Or.inl rfl) pe_int)
  (pss_cons (ps_set (i := 2) sc_u68.nd rfl (Or.inl rfl) pe_int)
  (pss_cons (ps_while PassesOwn.never (pt_cmpR op_gt (pv 1) pe_int (nomark _)) (pss_cons (ps_aug (i := 2) sc_u68.nd rfl (Or.inl rfl) pe_int ip_add)
  (pss_one (ps_if (pt_cmpR op_eq (pe_ix ix_str (pv 0) (pv 2) (fun _ _ => rfl)) pe_str (nomark _)) (pss_one (ps_aug (i := 1) sc_u68.nd rfl (Or.inl rfl) pe_int ip_add)) (pss_one (ps_aug (i := 1) sc_u68.nd rfl (Or.inl rfl) pe_int ip_sub))))))
  (pss_one (ps_ret (pv 2))))), ?_⟩
 have lz : t.length ≤ sizeLine := sz (by omega)
 refine ⟨fun m σ H' => ∃ p d : Nat, σ = [some (.str t), some (.int d), some (.int p)] ∧ H = H' ∧ ((p ≤ a.length ∧ m = a.length + 1 - p ∧ ∃ e, d = e + 1 ∧ clo e (a.drop p) = true) ∨ (p = a.length + 1 ∧ d = 0)), ⟨a.length + 1, 0, 1, rfl, rfl, .inl ⟨Nat.zero_le _, rfl, 0, rfl, ha⟩⟩, ?_⟩
 rintro m σ H' ⟨p, d, rfl, rfl, h⟩
 refine ⟨_, rfl, _, _, rfl, rfl, _, rfl, ?_⟩
 rcases h with ⟨hp, hm, e, rfl, he⟩ | ⟨hp, hd⟩
 ·refine iteP (by omega) ⟨fun σ' H' => H = H' ∧ ∃ d' : Nat, σ' = [some (.str t), some (.int d'), some (.int ((p + 1 : Nat) : Int))] ∧ ((p + 1 ≤ a.length ∧ ∃ e, d' = e + 1 ∧ clo e (a.drop (p + 1)) = true) ∨ (p = a.length ∧ d' = 0)), ?_, ?_⟩
  ·rintro σ' H' ⟨rfl, d', rfl, h⟩
   rcases h with ⟨h1, h2⟩ | ⟨h1, h2⟩
   ·exact ⟨a.length + 1 - (p + 1), by omega, p + 1, d', rfl, rfl, .inl ⟨h1, rfl, h2⟩⟩
   ·exact ⟨0, by omega, p + 1, d', rfl, rfl, .inr ⟨by omega, h2⟩⟩
  ·refine ⟨_, rfl, _, _, rfl, rfl, ?_⟩
   try dsimp only
   by_cases hlt : p < a.length
   ·have hc : t.cps.toList[((p : Int) + 1).toNat]? = some a[p] := by
     rw [show ((p : Int) + 1).toNat = p + 1 by omega, ht, List.getElem?_cons_succ, List.getElem?_append_left hlt, List.getElem?_eq_getElem hlt]
    have hat := at_code (by omega) hc
    refine ⟨_, rfl, _, rfl, t, _, _, rfl, rfl, lz, hat, rfl, _, rfl, iteB (dec40 _) ?_⟩
    rcases clo_step hlt he with ⟨h1, h2⟩ | ⟨h1, e', rfl, h2⟩
    ·refine iteP h1 ⟨_, rfl, _, _, rfl, rfl, rfl, e + 1 + 1, rfl, .inl ⟨hlt, e + 1, rfl, h2⟩⟩
    ·refine iteN (by rw [h1]; decide) ⟨_, rfl, _, _, rfl, rfl, rfl, e' + 1, ?_, .inl ⟨hlt, e', rfl, h2⟩⟩
     show [some (V.str t), some (V.int (((e' + 1 + 1 : Nat) : Int) - 1)), some (V.int ((p : Int) + 1))] = _
     rw [show ((e' + 1 + 1 : Nat) : Int) - 1 = ((e' + 1 : Nat) : Int) by omega]
     rfl
   ·have ep : p = a.length := by omega
    subst ep
    have hc : t.cps.toList[((a.length : Int) + 1).toNat]? = some 41 := by
     rw [show ((a.length : Int) + 1).toNat = a.length + 1 by omega, ht, List.getElem?_cons_succ, List.getElem?_append_right (Nat.le_refl _), Nat.sub_self]
     rfl
    have hat := at_code (by omega) hc
    have e0 := clo_end (Nat.le_refl _) he
    subst e0
    refine ⟨_, rfl, _, rfl, t, _, _, rfl, rfl, lz, hat, rfl, _, rfl, iteB (dec40 _) (iteN (by decide) ⟨_, rfl, _, _, rfl, rfl, rfl, 0, rfl, .inr ⟨rfl, rfl⟩⟩)⟩
 ·subst hd hp
  refine iteN (by decide) ⟨_, rfl, ?_⟩
  rw [show ((a.length + 1 : Nat) : Int) = (a.length : Int) + 1 by omega]
  exact q
theorem ok_u45 {er : Errs} (EO : ErrOk K mg er) {ca : ClA} (CA : ClOk K mg ca) {fd : FuncData} (F : Fun K "parted" "Brackets.parted" s_u45 ca.f_u45 fd) {f0 : Addr} {fd0 : FuncData} (d_u68 : Def P w K mg base "first_close" ["text"] 1 (sp_u68 K ca) f0 fd0) : FnOk P w K mg base CX0 2 ca.f_u45 fd ["self", "thing"] (sp_u45 K ca) := by
 refine F.ok sc_u45 (fun vs H Q E h => ?_) (fun cdv A outer s H vs Q E hr h => ?_)
 ·obtain ⟨x, v, bl, br, rfl, th, h39, q⟩ := h
  rfl
 obtain ⟨x, v, bl, br, rfl, th, h39, q⟩ := h
 refine ⟨_, pss_cons (ps_set (i := 2) sc_u45.nd rfl (Or.inl rfl) (pcall d_u68 hr (pa_cons (pv 1) pa_nil)))
  (pss_one (ps_ret (pe_tup (pa_cons (pe_slice sl_str (pv 1) (po_some pe_int) (po_some (pv 2))) (pa_cons (pe_slice sl_str (pv 1) (po_some (pe_op op_add (pv 2) pe_int)) po_none) pa_nil))))), ?_⟩
 obtain ⟨t, rfl, ht⟩ := th
 have ht : t.cps.toList = 40 :: (brk bl ++ 41 :: brk br) := ht
 have ha := brk_clo bl
 have hz : t.length ≤ 1000 := by rw [part_len ht, brk_len, brk_len]; omega
 have q : ∀ (p : Addr) (H' : Hp), Same H H' → H p = none → H' p = some (.tup [.str (Txt.slice t (some 1) (some (((brk bl).length : Int) + 1))), .str (Txt.slice t (some (((brk bl).length : Int) + 1 + 1)) none)]) → Q (.ref p) H' := fun p H' s f h => q p _ _ H' s h ⟨_, rfl, part_left ht⟩ ⟨_, rfl, part_right ht⟩
 generalize brk bl = a at ht ha q
 generalize brk br = b at ht
 have lz : t.length ≤ sizeLine := sz (by omega)
 refine ⟨_, rfl, t, a, b, rfl, ht, ha, hz, ?_⟩
 exact ⟨_, rfl, _, rfl, _, rfl, _, rfl, t, rfl, lz, _, rfl, _, rfl, _, _, rfl, rfl, _, rfl, t, rfl, lz, (by show 2 ≤ sizeLine; decide), fun p hp => q p _ (Same.new (Same.refl H) hp _) hp upd_same⟩
theorem ok_u2 {er : Errs} (EO : ErrOk K mg er) {ca : ClA} (CA : ClOk K mg ca) {fd : FuncData} (F : Fun K "number_by_parts" "SplitFamily.number_by_parts" s_u2 ca.f_u2 fd) {fd0 : FuncData} (d_u41 : MDef P w K mg base ["self", "thing"] 1 (sp_u41 K ca) ca.f_u41 fd0) {fd1 : FuncData} (d_u45 : MDef P w K mg base ["self", "thing"] 2 (sp_u45 K ca) ca.f_u45 fd1) (m_sum : mg "sum" = none) (m_range : mg "range" = none) (n : Nat) (d_self : MDef P w K mg base ["self", "counts", "thing"] (2 + n) (below n fun m => sp_u2 K ca m) ca.f_u2 fd) : FnOk P w K mg base (CX1 P w) (2 + n + 1) ca.f_u2 fd ["self", "counts", "thing"] (sp_u2 K ca n) := by
 refine FnOk.up ?_
 refine F.ok sc_u2 (fun vs H Q E h => ?_) (fun cdv A outer s H vs Q E hr h => ?_)
 ·obtain ⟨x, dx, fs, wd, pc, k, v, t, rfl, hx, fl, hc, th, hn, hk, k40, q⟩ := h
  rfl
 obtain ⟨x, dx, fs, wd, pc, k, v, t, rfl, hx, fl, hc, th, hn, hk, k40, q⟩ := h
 refine ⟨_, pss_cons (ps_set (i := 3) sc_u2.nd rfl (Or.inr rfl) (pmeth (pv 0) CA.c_Brackets CA.mt_Brackets_size_of d_u41 hr (pa_cons (pv 2) pa_nil) (hjk := by omega)))
  (pss_cons (ps_if (pt_cmpR op_eq (pv 3) pe_int (nomark _)) (pss_one (ps_ret pe_int)) pss_nil)
  (pss_cons (ps_set (i := 4) sc_u2.nd rfl (Or.inl rfl) (pmeth (pv 0) CA.c_Brackets CA.mt_Brackets_parted d_u45 hr (pa_cons (pv 2) pa_nil) (hjk := by omega)))
  (pss_cons (ps_set (i := 5) sc_u2.nd rfl (Or.inl rfl) (pmeth (pv 0) CA.c_Brackets CA.mt_Brackets_size_of d_u41 hr (pa_cons (pe_ix ix_tup (pv 4) pe_int (fun _ _ => rfl)) pa_nil) (hjk := by omega)))
  (pss_cons (ps_set (i := 6) sc_u2.nd rfl (Or.inl rfl) (pe_callB (call_sum rfl) rfl m_sum bb_sum (pa_cons (pe_comp rfl (pi_range1 rfl m_range (pa_cons (pv 5) pa_nil)) rfl rfl rfl rfl (N := ["j", "counts", "size"]) (.own (.cap (j := 1) rfl rfl rfl (.cap (j := 3) rfl rfl rfl .nil))) (fun _ _ _ _ _ _ => (pg_name (i := 0) (by show List.Nodup (["j", "counts", "size"] : List Str); decide +kernel) rfl (Or.inl rfl))) (fun _ _ _ _ _ _ => pts_nil) (fun _ _ _ _ _ _ => (pe_op op_mul (pe_ix (ix_listK (K := K) rfl) (pv 1) (pv 0) (fun _ _ => rfl)) (pe_ix (ix_listK (K := K) rfl) (pv 1) (pe_op op_sub (pe_op op_sub (pv 2) pe_int) (pv 0)) (fun _ _ => rfl))))) pa_nil)))
  (pss_cons (ps_set (i := 7) sc_u2.nd rfl (Or.inl rfl) (pmeth (pv 0) CA.c_Brackets CA.mt_Brackets_number_by_parts d_self hr (pa_cons (pv 1) (pa_cons (pe_ix ix_tup (pv 4) pe_int (fun _ _ => rfl)) pa_nil)) (hjk := by omega)))
  (pss_cons (ps_set (i := 8) sc_u2.nd rfl (Or.inl rfl) (pmeth (pv 0) CA.c_Brackets CA.mt_Brackets_number_by_parts d_self hr (pa_cons (pv 1) (pa_cons (pe_ix ix_tup (pv 4) pe_int (fun _ _ => rfl)) pa_nil)) (hjk := by omega)))
  (pss_one (ps_ret (pe_op op_add (pe_op op_add (pv 6) (pe_op op_mul (pv 7) (pe_ix ix_list (pv 1) (pe_op op_sub (pe_op op_sub (pv 3) pe_int) (pv 5)) (fun _ _ => rfl)))) (pv 8)))))))))), ?_⟩
 refine ⟨_, rfl, x, dx, fs, rfl, hx, fl.no "size_of" (by decide) (by decide), _, rfl, x, v, t, rfl, th, by omega, fun H1 s1 => ⟨_, rfl, rfl, _, rfl, ?_⟩⟩
 cases t with
 | leaf => exact iteP rfl (q _ s1)
 | node l r =>
  have hn : l.size + r.size + 1 = n := hn
  have sn : (((Bt.node l r).size : Nat) : Int) = (n : Int) := by rw [← hn]; rfl
  have lk : (shL k).length = k + 1 := shL_length k
  have at_ : ∀ (j : Nat) (z : Int), z = (j : Int) → j ≤ k → atI ((shL k).map V.int) z = some (.int (sh j)) := fun j z ez hj => by
   have := atI_int (ns := shL k) (i := z) (by omega) (by omega)
   rw [show z.toNat = j by omega, shL_get k j hj] at this
   exact this
  rw [sn]
  refine iteN (fun z => by injection z with z; omega) ?_
  refine ⟨_, rfl, x, dx, fs, rfl, s1 _ _ hx, fl.no "parted" (by decide) (by decide), _, rfl, x, v, l, r, rfl, th.same s1, by omega, fun p vl vr H2 s2 hp tl tr => ?_⟩
  have s12 := s1.trans s2
  refine ⟨_, rfl, x, dx, fs, rfl, s12 _ _ hx, fl.no "size_of" (by decide) (by decide), _, rfl, p, _, _, _, rfl, rfl, SqT.of hp, rfl, x, vl, l, rfl, tl, by omega, fun H3 s3 => ?_⟩
  have s13 := s12.trans s3
  have hc3 := s13 _ _ hc
  refine ⟨_, rfl, _, rfl, by omega, by omega, fun D hD => comp_range (lo := 0) (n := ((l.size : Nat) : Int).toNat) (fun j => .int (sh j * sh (n - 1 - j))) (sz (by omega)) (fun j H4 R R0 hj hb hR => ?_) ?_⟩
  ·have hj : j < l.size := by omega
   have hc4 : H4 pc = some (.lst ((shL k).map V.int)) := (hb pc (ne_of_none hc3 hD)).trans hc3
   have a1 := at_ j ((0 : Int) + (j : Int)) (by omega) (by omega)
   have a2 := at_ (n - 1 - j) ((n : Int) - 1 - ((0 : Int) + (j : Int))) (by omega) (by omega)
   have p1 := sh_pos j
   have p2 := sh_pos (n - 1 - j)
   have mc : CMul (sh j) (sh (n - 1 - j)) := mulC (a := j) (b := n - 1 - j) (by omega) (by omega) (Int.le_refl _) (by omega) (Int.le_refl _)
   exact ⟨Ext.set rfl, ttN (iteT ⟨_, rfl, _, rfl, pc, _, _, _, rfl, rfl, SqL.of hc4, a1, _, rfl, _, rfl, _, _, rfl, rfl, _, rfl, _, _, rfl, rfl, pc, _, _, _, rfl, rfl, SqL.of hc4, a2, _, _, rfl, rfl, mc, hR⟩)⟩
  have s4 := Same.new s13 hD (.lst ((List.range ((l.size : Nat) : Int).toNat).map fun j => V.int (sh j * sh (n - 1 - j))))
  have k4 := Same.new (Same.refl H3) hD (.lst ((List.range ((l.size : Nat) : Int).toNat).map fun j => V.int (sh j * sh (n - 1 - j))))
  refine ⟨D, (List.range ((l.size : Nat) : Int).toNat).map (fun j => sh j * sh (n - 1 - j)), rfl, SqL.of (by rw [upd_same, List.map_map]; rfl), ?_⟩
  have ep : ((List.range ((l.size : Nat) : Int).toNat).map (fun j => sh j * sh (n - 1 - j))).sum = pre n l.size := by rw [Int.toNat_natCast]; rfl
  rw [ep]
  generalize upd H3 D (.lst ((List.range ((l.size : Nat) : Int).toNat).map fun j => V.int (sh j * sh (n - 1 - j)))) = H4 at s4 k4 ⊢
  have t24 := s3.trans k4
  refine ⟨_, rfl, x, dx, fs, rfl, s4 _ _ hx, fl.no "number_by_parts" (by decide) (by decide), _, rfl, _, rfl, p, _, _, _, rfl, rfl, SqT.of (t24 _ _ hp), rfl, l.size, by omega, x, dx, fs, wd, pc, k, vl, l, rfl, s4 _ _ hx, fl, s4 _ _ hc, tl.same t24, rfl, by omega, k40, fun H5 s5 => ?_⟩
  have t25 := t24.trans s5
  have s15 := s4.trans s5
  refine ⟨_, rfl, x, dx, fs, rfl, s15 _ _ hx, fl.no "number_by_parts" (by decide) (by decide), _, rfl, _, rfl, p, _, _, _, rfl, rfl, SqT.of (t25 _ _ hp), rfl, r.size, by omega, x, dx, fs, wd, pc, k, vr, r, rfl, s15 _ _ hx, fl, s15 _ _ hc, tr.same t25, rfl, by omega, k40, fun H6 s6 => ?_⟩
  have s16 := s15.trans s6
  have a3 := at_ r.size ((n : Int) - 1 - (l.size : Int)) (by omega) (by omega)
  have p3 := sh_pos r.size
  have mc : CMul (bnum l) (sh r.size) := mulC (a := l.size) (b := r.size) (by omega) (bnum_low l) (by have := bnum_lt l; omega) (by omega) (Int.le_refl _)
  refine ⟨_, rfl, _, rfl, _, rfl, _, rfl, _, _, rfl, rfl, _, rfl, _, _, rfl, rfl, pc, _, _, _, rfl, rfl, SqL.of (s16 _ _ hc), a3, _, _, rfl, rfl, mc, _, _, rfl, rfl, _, rfl, _, _, rfl, rfl, ?_⟩
  have e : bnum (.node l r) = pre n l.size + bnum l * sh r.size + bnum r := by rw [← hn]; rfl
  rw [e] at q
  exact q _ s16
theorem ok_u0 {er : Errs} (EO : ErrOk K mg er) {ca : ClA} (CA : ClOk K mg ca) {fd : FuncData} (F : Fun K "unchecked_number" "SplitFamily.unchecked_number" s_u0 ca.f_u0 fd) {fd0 : FuncData} (d_u2 : MDef P w K mg base ["self", "counts", "thing"] 44 (spA_u2 K ca) ca.f_u2 fd0) {f1 : Addr} {fd1 : FuncData} (d_u82 : Def P w K mg base "shares" ["most"] 1 (sp_u82 K ca) f1 fd1) {fd2 : FuncData} (d_u41 : MDef P w K mg base ["self", "thing"] 1 (sp_u41 K ca) ca.f_u41 fd2) : FnOk P w K mg base CX0 45 ca.f_u0 fd ["self", "thing"] (sp_u0 K ca) := by
 refine F.ok sc_u0 (fun vs H Q E h => ?_) (fun cdv A outer s H vs Q E hr h => ?_)
 ·obtain ⟨x, dx, fs, wd, v, t, rfl, hx, fl, th, h40, q⟩ := h
  rfl
 obtain ⟨x, dx, fs, wd, v, t, rfl, hx, fl, th, h40, q⟩ := h
 refine ⟨_, pss_one (ps_ret (pmeth (pv 0) CA.c_Brackets CA.mt_Brackets_number_by_parts d_u2 hr (pa_cons (pcall d_u82 hr (pa_cons (pmeth (pv 0) CA.c_Brackets CA.mt_Brackets_size_of d_u41 hr (pa_cons (pv 1) pa_nil)) pa_nil)) (pa_cons (pv 1) pa_nil)))), ?_⟩
 refine ⟨_, rfl, x, dx, fs, rfl, hx, fl.no "number_by_parts" (by decide) (by decide), _, rfl, x, dx, fs, rfl, hx, fl.no "size_of" (by decide) (by decide), _, rfl, x, v, t, rfl, th, h40, fun H1 s1 => ⟨(t.size : Int), rfl, by omega, by omega, fun pc H2 s2 fc hc => ?_⟩⟩
 rw [Int.toNat_natCast] at hc
 have s12 := s1.trans s2
 exact ⟨_, rfl, t.size, by omega, x, dx, fs, wd, pc, t.size, v, t, rfl, s12 _ _ hx, fl, hc, th.same s12, rfl, Nat.le_refl _, h40, fun H' s => q _ (s12.trans s)⟩
theorem ok_u20 {er : Errs} (EO : ErrOk K mg er) {ca : ClA} (CA : ClOk K mg ca) {fd : FuncData} (F : Fun K "number_of" "Family.number_of" s_u20 ca.f_u20 fd) {fd0 : FuncData} (d_u16 : MDef P w K mg base ["self", "thing"] 3 (sp_u16 K ca er) ca.f_u16 fd0) {fd1 : FuncData} (d_u0 : MDef P w K mg base ["self", "thing"] 45 (sp_u0 K ca) ca.f_u0 fd1) : FnOk P w K mg base (CX1 P w) 46 ca.f_u20 fd ["self", "thing"] (sp_u20 K ca er) := by
 refine F.okE sc_u20 (fun vs H Q E h => ?_) (fun cdv A outer s H vs Q E hr h => ?_)
 ·obtain ⟨x, dx, fs, wd, v, rfl, hx, fl, q⟩ := h
  rfl
 obtain ⟨x, dx, fs, wd, v, rfl, hx, fl, q⟩ := h
 refine ⟨_, pss_cons (ps_expr (pmethT thr_def (pv 0) CA.c_Brackets CA.mt_Brackets_refuse_other d_u16 hr (pa_cons (pv 1) pa_nil)))
  (pss_one (ps_ret (pmeth (pv 0) CA.c_Brackets CA.mt_Brackets_unchecked_number d_u0 hr (pa_cons (pv 1) pa_nil)))), ?_⟩
 rcases q with ⟨t, th, h40, q⟩ | ⟨bad, q⟩
 ·refine ⟨_, rfl, x, dx, fs, rfl, hx, fl.no "refuse_other" (by decide) (by decide), _, rfl, x, dx, fs, wd, v, rfl, hx, fl, .inl ⟨t, th, fun H1 s1 => ?_⟩⟩
  exact ⟨_, rfl, x, dx, fs, rfl, s1 _ _ hx, fl.no "unchecked_number" (by decide) (by decide), _, rfl, x, dx, fs, wd, v, t, rfl, s1 _ _ hx, fl, th.same s1, h40, fun H2 s2 => q _ (s1.trans s2)⟩
 ·exact ⟨_, rfl, x, dx, fs, rfl, hx, fl.no "refuse_other" (by decide) (by decide), _, rfl, x, dx, fs, wd, v, rfl, hx, fl, .inr ⟨bad, q⟩⟩
theorem ok_u50 {er : Errs} (EO : ErrOk K mg er) {ca : ClA} (CA : ClOk K mg ca) {fd : FuncData} (F : Fun K "is_one" "Stairs.is_one" s_u50 ca.f_u50 fd) (m_enumerate : mg "enumerate" = none) : FnOk P w K mg base CX0 1 ca.f_u50 fd ["self", "thing"] (sp_u50 K ca) := by
 refine F.ok sc_u50 (fun vs H Q E h => ?_) (fun cdv A outer s H vs Q E hr h => ?_)
 ·obtain ⟨x, v, b, rfl, th, q⟩ := h
  rfl
 obtain ⟨x, v, b, rfl, th, q⟩ := h
 refine ⟨_, pss_cons (ps_set (i := 2) sc_u50.nd rfl (Or.inl rfl) pe_int)
  (pss_cons (ps_for PassesOwn.never rfl (pi_enum rfl m_enumerate (pa_cons (pv 1) pa_nil)) (pg_tup rfl (pgs_cons (pg_name (i := 3) sc_u50.nd rfl (Or.inl rfl)) (pgs_cons (pg_name (i := 4) sc_u50.nd rfl (Or.inl rfl)) pgs_nil))) (pss_cons (ps_if (PW.pt (pw_or (pt_cmpR op_lt (pv 4) (pv 2) (nomark _)) (pw_or1 (pt_cmpR op_gt (pv 4) (pv 3) (nomark _))))) (pss_one (ps_ret pe_bl)) pss_nil)
  (pss_one (ps_set (i := 2) sc_u50.nd rfl (Or.inl rfl) (pv 4)))))
  (pss_one (ps_ret pe_bl))), ?_⟩
 obtain ⟨l, ns, rfl, hl, rfl⟩ := th
 have hl := SqL.of (K := K) hl
 have lm : (ns.map V.int).length = ns.length := List.length_map _
 refine ⟨_, rfl, l, rfl, ⟨_, hl⟩, for_enum (xs := ns.map V.int) (fun i σ H' => ∃ (o1 o2 : Option V) (a : Int), σ = [some (.ref x), some (.ref l), some (.int a), o1, o2] ∧ Same H H' ∧ stF 0 0 ns = stF i a (ns.drop i)) ⟨_, _, 0, rfl, Same.refl H, rfl⟩ (fun i σ H' _ h => h.choose_spec.choose_spec.choose_spec.2.1.seq hl) ?_ ?_⟩
 ·rintro i v σ H' T hv ⟨o1, o2, a, rfl, sm, e⟩ hT
  obtain ⟨c, rfl⟩ := get_int hv
  have hc : ns[i]? = some c := by
   rw [List.getElem?_map] at hv
   cases h : ns[i]? with
   | none => rw [h] at hv; cases hv
   | some d => rw [h] at hv; injection hv with hv; injection hv with hv; rw [hv]
  have hi : i < ns.length := (List.getElem?_eq_some_iff.mp hc).1
  have ed : ns.drop i = c :: ns.drop (i + 1) := by
   rw [get_drop hi, List.getD_eq_getElem?_getD, hc]; rfl
  rw [ed] at e
  have sm' := Same.new sm hT (.tup [.int (i : Int), .int c])
  refine ⟨T, _, rfl, SqT.of upd_same, rfl, _, _, rfl, _, _, rfl, rfl, ?_⟩
  refine ⟨_, rfl, _, rfl, _, _, rfl, rfl, _, rfl, ?_⟩
  by_cases h1 : c < a
  ·refine iteP h1 (iteT ?_)
   rw [stF_bad (.inl h1)] at e
   rw [e] at q
   exact q _ sm'
  refine iteN h1 ⟨_, rfl, _, rfl, _, _, rfl, rfl, _, rfl, ?_⟩
  by_cases h2 : (i : Int) < c
  ·refine iteP h2 ?_
   rw [stF_bad (.inr h2)] at e
   rw [e] at q
   exact q _ sm'
  ·refine iteN h2 ⟨_, rfl, ?_⟩
   rw [stF_go (by omega)] at e
   exact ⟨_, _, c, rfl, sm', e⟩
 ·rintro σ H' ⟨o1, o2, a, rfl, sm, e⟩
  rw [lm, List.drop_length, stF_nil] at e
  rw [e] at q
  exact q _ sm
theorem ok_u19 {er : Errs} (EO : ErrOk K mg er) {ca : ClA} (CA : ClOk K mg ca) {fd : FuncData} (F : Fun K "refuse_other" "Family.refuse_other" s_u19 ca.f_u19 fd) {fd0 : FuncData} (d_u50 : MDef P w K mg base ["self", "thing"] 1 (sp_u50 K ca) ca.f_u50 fd0) : FnOk P w K mg base (CX1 P w) 2 ca.f_u19 fd ["self", "thing"] (sp_u19 K ca er) := by
 refine F.okE sc_u19 (fun vs H Q E h => ?_) (fun cdv A outer s H vs Q E hr h => ?_)
 ·obtain ⟨x, dx, fs, wd, v, rfl, hx, fl, q⟩ := h
  rfl
 obtain ⟨x, dx, fs, wd, v, rfl, hx, fl, q⟩ := h
 refine ⟨_, pss_one (ps_if (pt_not (pt_val (pmeth (pv 0) CA.c_Stairs CA.mt_Stairs_is_one d_u50 hr (pa_cons (pv 1) pa_nil)))) (pss_one (ps_raise thr_def EO.x_thing rfl EO.m_thing (pa_cons pe_str pa_nil))) pss_nil), ?_⟩
 rcases q with ⟨t, th, q⟩ | ⟨bad, q⟩
 ·exact ⟨_, rfl, x, dx, fs, rfl, hx, fl.no "is_one" (by decide) (by decide), _, rfl, x, v, true, rfl, (by obtain ⟨p, rfl, hp⟩ := th; obtain ⟨a0, st⟩ := stT_St t; exact ⟨p, stT t, rfl, hp, st.ok.symm⟩), fun H1 s1 => ⟨_, rfl, iteF (q H1 s1)⟩⟩
 ·exact ⟨_, rfl, x, dx, fs, rfl, hx, fl.no "is_one" (by decide) (by decide), _, rfl, x, v, false, rfl, (by obtain ⟨p, rs, rfl, hp, e⟩ := bad; exact ⟨p, rs, rfl, hp, e.symm⟩), fun H1 s1 => ⟨_, rfl, iteT ⟨sz (n := 1) (by decide), q H1 s1⟩⟩⟩
theorem ok_u48 {er : Errs} (EO : ErrOk K mg er) {ca : ClA} (CA : ClOk K mg ca) {fd : FuncData} (F : Fun K "size_of" "Stairs.size_of" s_u48 ca.f_u48 fd) (m_len : mg "len" = none) : FnOk P w K mg base CX0 1 ca.f_u48 fd ["self", "thing"] (sp_u48 K ca) := by
 refine F.ok sc_u48 (fun vs H Q E h => ?_) (fun cdv A outer s H vs Q E hr h => ?_)
 ·obtain ⟨x, v, b, rfl, th, h40, q⟩ := h
  rfl
 obtain ⟨x, v, b, rfl, th, h40, q⟩ := h
 refine ⟨_, pss_one (ps_ret (pe_callB call_len_seq rfl m_len bb_len (pa_cons (pv 1) pa_nil))), ?_⟩
 obtain ⟨p, rfl, hp⟩ := th
 refine ⟨_, rfl, p, _, rfl, .inl (SqL.of hp), ?_⟩
 rw [List.length_map, stT_len]
 exact q _ (Same.refl H)
theorem ok_u67 {er : Errs} (EO : ErrOk K mg er) {ca : ClA} (CA : ClOk K mg ca) {f : Addr} {fd : FuncData} (F : Fun K "right_begin" "right_begin" s_u67 f fd) (m_range : mg "range" = none) (m_len : mg "len" = none) : FnOk P w K mg base CX0 1 f fd ["stairs"] (sp_u67 K ca) := by
 refine F.ok sc_u67 (fun vs H Q E h => ?_) (fun cdv A outer s H vs Q E hr h => ?_)
 ·obtain ⟨l, ps, qs, a, b, rfl, hl, sp1, sq1, hz, q⟩ := h
  rfl
 obtain ⟨l, ps, qs, a, b, rfl, hl, sp1, sq1, hz, q⟩ := h
 refine ⟨_, pss_cons (ps_for PassesOwn.never rfl (pi_range2 rfl m_range (pa_cons pe_int (pa_cons (pe_callB call_len_seq rfl m_len bb_len (pa_cons (pv 0) pa_nil)) pa_nil))) (pg_name (i := 1) sc_u67.nd rfl (Or.inl rfl)) (pss_one (ps_if (pt_cmpR op_eq (pe_ix ix_list (pv 0) (pv 1) (fun _ _ => rfl)) (pv 1) (nomark _)) (pss_one (ps_ret (pv 1))) pss_nil)))
  (pss_one (ps_ret (pe_callB call_len_seq rfl m_len bb_len (pa_cons (pv 0) pa_nil)))), ?_⟩
 have lm : ((joinS ps qs).map V.int).length = (joinS ps qs).length := List.length_map _
 have lj := joinS_len ps qs
 refine ⟨_, rfl, l, _, rfl, .inl hl, _, _, rfl, ⟨by decide, by decide, by omega, by omega⟩, for_range (lo := 1) (n := ((((joinS ps qs).map V.int).length : Int) - 1).toNat) (fun i σ H' => ∃ (o : Option V), σ = [some (.ref l), o] ∧ H = H' ∧ i ≤ ps.length) ⟨_, rfl, rfl, Nat.zero_le _⟩ ?_ ?_⟩
 ·rintro i σ H' hi ⟨o, rfl, rfl, hle⟩
  have at1 := atI_int (ns := joinS ps qs) (i := (1 : Int) + (i : Int)) (by omega) (by omega)
  have et : ((1 : Int) + (i : Int)).toNat = i + 1 := by omega
  rw [et] at at1
  refine ⟨_, rfl, _, rfl, l, _, _, _, rfl, rfl, hl, at1, _, rfl, rfl, _, rfl, ?_⟩
  by_cases hlt : i < ps.length
  ·refine iteN (fun z => ?_) ⟨_, rfl, rfl, by omega⟩
   injection z with z
   exact joinS_left sp1 (show 1 ≤ i + 1 by omega) (by omega) (z.trans (by omega))
  ·have ei : i = ps.length := by omega
   subst ei
   refine iteP (congrArg V.int ((joinS_right sq1 (by omega)).trans (by omega))) ?_
   refine ⟨_, rfl, ?_⟩
   rw [show (1 : Int) + (ps.length : Int) = ((ps.length + 1 : Nat) : Int) by omega]
   exact q
 ·rintro σ H' ⟨o, rfl, rfl, hle⟩
  refine ⟨_, rfl, l, _, rfl, .inl hl, ?_⟩
  rw [show (((joinS ps qs).map V.int).length : Int) = ((ps.length + 1 : Nat) : Int) by omega]
  exact q
theorem ok_u52 {er : Errs} (EO : ErrOk K mg er) {ca : ClA} (CA : ClOk K mg ca) {fd : FuncData} (F : Fun K "parted" "Stairs.parted" s_u52 ca.f_u52 fd) {f0 : Addr} {fd0 : FuncData} (d_u67 : Def P w K mg base "right_begin" ["stairs"] 1 (sp_u67 K ca) f0 fd0) {f1 : Addr} {fd1 : FuncData} (d_u75 : Def P w K mg base "raised_by" ["numbers", "step"] 1 (sp_u75 K ca) f1 fd1) : FnOk P w K mg base CX0 2 ca.f_u52 fd ["self", "thing"] (sp_u52 K ca) := by
 refine F.ok sc_u52 (fun vs H Q E h => ?_) (fun cdv A outer s H vs Q E hr h => ?_)
 ·obtain ⟨x, v, bl, br, rfl, th, h39, q⟩ := h
  rfl
 obtain ⟨x, v, bl, br, rfl, th, h39, q⟩ := h
 refine ⟨_, pss_cons (ps_set (i := 2) sc_u52.nd rfl (Or.inl rfl) (pcall d_u67 hr (pa_cons (pv 1) pa_nil)))
  (pss_one (ps_ret (pe_tup (pa_cons (pe_slice sl_list (pv 1) (po_some pe_int) (po_some (pv 2))) (pa_cons (pcall d_u75 hr (pa_cons (pe_slice sl_list (pv 1) (po_some (pv 2)) po_none) (pa_cons (pe_un un_neg (pv 2)) pa_nil))) pa_nil))))), ?_⟩
 obtain ⟨d, rfl, hd⟩ := th
 have hd : H d = some (.lst ((joinS (stT bl) (stT br)).map V.int)) := hd
 obtain ⟨a, sp1⟩ := stT_St bl
 obtain ⟨b, sq1⟩ := stT_St br
 have lps : (stT bl).length ≤ 40 := by rw [stT_len]; omega
 have lqs : (stT br).length ≤ 40 := by rw [stT_len]; omega
 have q : ∀ (t l r : Addr) (H' : Hp), Same H H' → H l = none → H r = none → l ≠ r → H' t = some (.tup [.ref l, .ref r]) → H' l = some (.lst ((stT bl).map V.int)) → H' r = some (.lst ((stT br).map V.int)) → Q (.ref t) H' := fun t l r H' s _ _ _ h hl hr => q t _ _ H' s h ⟨l, rfl, hl⟩ ⟨r, rfl, hr⟩
 generalize stT bl = ps at hd sp1 lps q
 generalize stT br = qs at hd sq1 lqs q
 have c1 : cutV ((joinS ps qs).map V.int) (some 1) (some ((ps.length + 1 : Nat) : Int)) = ps.map V.int := by
  have := cutV_both ((joinS ps qs).map V.int) 1 (ps.length + 1) (by omega)
  rw [show ((1 : Nat) : Int) = 1 from rfl] at this
  rw [this, Nat.add_sub_cancel, ← List.map_drop, ← List.map_take]
  unfold joinS
  rw [List.append_assoc, List.drop_left' (by simp), List.take_left' rfl]
 have c2 : cutV ((joinS ps qs).map V.int) (some ((ps.length + 1 : Nat) : Int)) none = (qs.map (· + ((ps.length : Int) + 1))).map V.int := by
  rw [cutV_from, ← List.map_drop]
  unfold joinS
  rw [List.drop_left' (by simp)]
 refine ⟨_, rfl, d, ps, qs, a, b, rfl, SqL.of hd, sp1, sq1, by omega, ?_⟩
 refine ⟨_, rfl, _, rfl, _, rfl, _, rfl, d, _, rfl, SqL.of hd, fun l hl => ?_⟩
 rw [c1]
 have s1 := Same.new (Same.refl H) hl (.lst (ps.map V.int))
 have hl1 : upd H l (.lst (ps.map V.int)) l = some (.lst (ps.map V.int)) := upd_same
 generalize upd H l (.lst (ps.map V.int)) = H1 at s1 hl1 ⊢
 refine ⟨_, rfl, _, rfl, _, rfl, d, _, rfl, SqL.of (s1 _ _ hd), fun c hc => ?_⟩
 rw [c2]
 have s2 := Same.new s1 hc (.lst ((qs.map (· + ((ps.length : Int) + 1))).map V.int))
 have k2 := Same.new (Same.refl H1) hc (.lst ((qs.map (· + ((ps.length : Int) + 1))).map V.int))
 refine ⟨_, rfl, _, rfl, c, qs.map (· + ((ps.length : Int) + 1)), _, rfl, SqL.of upd_same, by simp; omega, fun r H3 s3 fr hr2 => ?_⟩
 have e2 : (qs.map (· + ((ps.length : Int) + 1))).map (· + -((ps.length + 1 : Nat) : Int)) = qs := by
  rw [show ((ps.length + 1 : Nat) : Int) = (ps.length : Int) + 1 by omega, map_up_down]
 rw [e2] at hr2
 have fr' : H r = none := s2.free fr
 have nlr : l ≠ r := ne_of_none (k2 _ _ hl1) fr
 refine ⟨(by show 2 ≤ sizeLine; decide), fun t ht => ?_⟩
 have s5 := Same.new (Same.refl _) ht (.tup [.ref l, .ref r])
 exact q t l r _ ((s2.trans s3).trans s5) hl fr' nlr upd_same (s5 _ _ (s3 _ _ (k2 _ _ hl1))) (s5 _ _ hr2)
theorem ok_u6 {er : Errs} (EO : ErrOk K mg er) {ca : ClA} (CA : ClOk K mg ca) {fd : FuncData} (F : Fun K "number_by_parts" "SplitFamily.number_by_parts" s_u6 ca.f_u6 fd) {fd0 : FuncData} (d_u48 : MDef P w K mg base ["self", "thing"] 1 (sp_u48 K ca) ca.f_u48 fd0) {fd1 : FuncData} (d_u52 : MDef P w K mg base ["self", "thing"] 2 (sp_u52 K ca) ca.f_u52 fd1) (m_sum : mg "sum" = none) (m_range : mg "range" = none) (n : Nat) (d_self : MDef P w K mg base ["self", "counts", "thing"] (2 + n) (below n fun m => sp_u6 K ca m) ca.f_u6 fd) : FnOk P w K mg base (CX1 P w) (2 + n + 1) ca.f_u6 fd ["self", "counts", "thing"] (sp_u6 K ca n) := by
 refine FnOk.up ?_
 refine F.ok sc_u6 (fun vs H Q E h => ?_) (fun cdv A outer s H vs Q E hr h => ?_)
 ·obtain ⟨x, dx, fs, wd, pc, k, v, t, rfl, hx, fl, hc, th, hn, hk, k40, q⟩ := h
  rfl
 obtain ⟨x, dx, fs, wd, pc, k, v, t, rfl, hx, fl, hc, th, hn, hk, k40, q⟩ := h
 refine ⟨_, pss_cons (ps_set (i := 3) sc_u6.nd rfl (Or.inr rfl) (pmeth (pv 0) CA.c_Stairs CA.mt_Stairs_size_of d_u48 hr (pa_cons (pv 2) pa_nil) (hjk := by omega)))
  (pss_cons (ps_if (pt_cmpR op_eq (pv 3) pe_int (nomark _)) (pss_one (ps_ret pe_int)) pss_nil)
  (pss_cons (ps_set (i := 4) sc_u6.nd rfl (Or.inl rfl) (pmeth (pv 0) CA.c_Stairs CA.mt_Stairs_parted d_u52 hr (pa_cons (pv 2) pa_nil) (hjk := by omega)))
  (pss_cons (ps_set (i := 5) sc_u6.nd rfl (Or.inl rfl) (pmeth (pv 0) CA.c_Stairs CA.mt_Stairs_size_of d_u48 hr (pa_cons (pe_ix ix_tup (pv 4) pe_int (fun _ _ => rfl)) pa_nil) (hjk := by omega)))
  (pss_cons (ps_set (i := 6) sc_u6.nd rfl (Or.inl rfl) (pe_callB (call_sum rfl) rfl m_sum bb_sum (pa_cons (pe_comp rfl (pi_range1 rfl m_range (pa_cons (pv 5) pa_nil)) rfl rfl rfl rfl (N := ["j", "counts", "size"]) (.own (.cap (j := 1) rfl rfl rfl (.cap (j := 3) rfl rfl rfl .nil))) (fun _ _ _ _ _ _ => (pg_name (i := 0) (by show List.Nodup (["j", "counts", "size"] : List Str); decide +kernel) rfl (Or.inl rfl))) (fun _ _ _ _ _ _ => pts_nil) (fun _ _ _ _ _ _ => (pe_op op_mul (pe_ix (ix_listK (K := K) rfl) (pv 1) (pv 0) (fun _ _ => rfl)) (pe_ix (ix_listK (K := K) rfl) (pv 1) (pe_op op_sub (pe_op op_sub (pv 2) pe_int) (pv 0)) (fun _ _ => rfl))))) pa_nil)))
  (pss_cons (ps_set (i := 7) sc_u6.nd rfl (Or.inl rfl) (pmeth (pv 0) CA.c_Stairs CA.mt_Stairs_number_by_parts d_self hr (pa_cons (pv 1) (pa_cons (pe_ix ix_tup (pv 4) pe_int (fun _ _ => rfl)) pa_nil)) (hjk := by omega)))
  (pss_cons (ps_set (i := 8) sc_u6.nd rfl (Or.inl rfl) (pmeth (pv 0) CA.c_Stairs CA.mt_Stairs_number_by_parts d_self hr (pa_cons (pv 1) (pa_cons (pe_ix ix_tup (pv 4) pe_int (fun _ _ => rfl)) pa_nil)) (hjk := by omega)))
  (pss_one (ps_ret (pe_op op_add (pe_op op_add (pv 6) (pe_op op_mul (pv 7) (pe_ix ix_list (pv 1) (pe_op op_sub (pe_op op_sub (pv 3) pe_int) (pv 5)) (fun _ _ => rfl)))) (pv 8)))))))))), ?_⟩
 refine ⟨_, rfl, x, dx, fs, rfl, hx, fl.no "size_of" (by decide) (by decide), _, rfl, x, v, t, rfl, th, by omega, fun H1 s1 => ⟨_, rfl, rfl, _, rfl, ?_⟩⟩
 cases t with
 | leaf => exact iteP rfl (q _ s1)
 | node l r =>
  have hn : l.size + r.size + 1 = n := hn
  have sn : (((Bt.node l r).size : Nat) : Int) = (n : Int) := by rw [← hn]; rfl
  have lk : (shL k).length = k + 1 := shL_length k
  have at_ : ∀ (j : Nat) (z : Int), z = (j : Int) → j ≤ k → atI ((shL k).map V.int) z = some (.int (sh j)) := fun j z ez hj => by
   have := atI_int (ns := shL k) (i := z) (by omega) (by omega)
   rw [show z.toNat = j by omega, shL_get k j hj] at this
   exact this
  rw [sn]
  refine iteN (fun z => by injection z with z; omega) ?_
  refine ⟨_, rfl, x, dx, fs, rfl, s1 _ _ hx, fl.no "parted" (by decide) (by decide), _, rfl, x, v, l, r, rfl, th.same s1, by omega, fun p vl vr H2 s2 hp tl tr => ?_⟩
  have s12 := s1.trans s2
  refine ⟨_, rfl, x, dx, fs, rfl, s12 _ _ hx, fl.no "size_of" (by decide) (by decide), _, rfl, p, _, _, _, rfl, rfl, SqT.of hp, rfl, x, vl, l, rfl, tl, by omega, fun H3 s3 => ?_⟩
  have s13 := s12.trans s3
  have hc3 := s13 _ _ hc
  refine ⟨_, rfl, _, rfl, by omega, by omega, fun D hD => comp_range (lo := 0) (n := ((l.size : Nat) : Int).toNat) (fun j => .int (sh j * sh (n - 1 - j))) (sz (by omega)) (fun j H4 R R0 hj hb hR => ?_) ?_⟩
  ·have hj : j < l.size := by omega
   have hc4 : H4 pc = some (.lst ((shL k).map V.int)) := (hb pc (ne_of_none hc3 hD)).trans hc3
   have a1 := at_ j ((0 : Int) + (j : Int)) (by omega) (by omega)
   have a2 := at_ (n - 1 - j) ((n : Int) - 1 - ((0 : Int) + (j : Int))) (by omega) (by omega)
   have p1 := sh_pos j
   have p2 := sh_pos (n - 1 - j)
   have mc : CMul (sh j) (sh (n - 1 - j)) := mulC (a := j) (b := n - 1 - j) (by omega) (by omega) (Int.le_refl _) (by omega) (Int.le_refl _)
   exact ⟨Ext.set rfl, ttN (iteT ⟨_, rfl, _, rfl, pc, _, _, _, rfl, rfl, SqL.of hc4, a1, _, rfl, _, rfl, _, _, rfl, rfl, _, rfl, _, _, rfl, rfl, pc, _, _, _, rfl, rfl, SqL.of hc4, a2, _, _, rfl, rfl, mc, hR⟩)⟩
  have s4 := Same.new s13 hD (.lst ((List.range ((l.size : Nat) : Int).toNat).map fun j => V.int (sh j * sh (n - 1 - j))))
  have k4 := Same.new (Same.refl H3) hD (.lst ((List.range ((l.size : Nat) : Int).toNat).map fun j => V.int (sh j * sh (n - 1 - j))))
  refine ⟨D, (List.range ((l.size : Nat) : Int).toNat).map (fun j => sh j * sh (n - 1 - j)), rfl, SqL.of (by rw [upd_same, List.map_map]; rfl), ?_⟩
  have ep : ((List.range ((l.size : Nat) : Int).toNat).map (fun j => sh j * sh (n - 1 - j))).sum = pre n l.size := by rw [Int.toNat_natCast]; rfl
  rw [ep]
  generalize upd H3 D (.lst ((List.range ((l.size : Nat) : Int).toNat).map fun j => V.int (sh j * sh (n - 1 - j)))) = H4 at s4 k4 ⊢
  have t24 := s3.trans k4
  refine ⟨_, rfl, x, dx, fs, rfl, s4 _ _ hx, fl.no "number_by_parts" (by decide) (by decide), _, rfl, _, rfl, p, _, _, _, rfl, rfl, SqT.of (t24 _ _ hp), rfl, l.size, by omega, x, dx, fs, wd, pc, k, vl, l, rfl, s4 _ _ hx, fl, s4 _ _ hc, tl.same t24, rfl, by omega, k40, fun H5 s5 => ?_⟩
  have t25 := t24.trans s5
  have s15 := s4.trans s5
  refine ⟨_, rfl, x, dx, fs, rfl, s15 _ _ hx, fl.no "number_by_parts" (by decide) (by decide), _, rfl, _, rfl, p, _, _, _, rfl, rfl, SqT.of (t25 _ _ hp), rfl, r.size, by omega, x, dx, fs, wd, pc, k, vr, r, rfl, s15 _ _ hx, fl, s15 _ _ hc, tr.same t25, rfl, by omega, k40, fun H6 s6 => ?_⟩
  have s16 := s15.trans s6
  have a3 := at_ r.size ((n : Int) - 1 - (l.size : Int)) (by omega) (by omega)
  have p3 := sh_pos r.size
  have mc : CMul (bnum l) (sh r.size) := mulC (a := l.size) (b := r.size) (by omega) (bnum_low l) (by have := bnum_lt l; omega) (by omega) (Int.le_refl _)
  refine ⟨_, rfl, _, rfl, _, rfl, _, rfl, _, _, rfl, rfl, _, rfl, _, _, rfl, rfl, pc, _, _, _, rfl, rfl, SqL.of (s16 _ _ hc), a3, _, _, rfl, rfl, mc, _, _, rfl, rfl, _, rfl, _, _, rfl, rfl, ?_⟩
  have e : bnum (.node l r) = pre n l.size + bnum l * sh r.size + bnum r := by rw [← hn]; rfl
  rw [e] at q
  exact q _ s16
theorem ok_u3 {er : Errs} (EO : ErrOk K mg er) {ca : ClA} (CA : ClOk K mg ca) {fd : FuncData} (F : Fun K "unchecked_number" "SplitFamily.unchecked_number" s_u3 ca.f_u3 fd) {fd0 : FuncData} (d_u6 : MDef P w K mg base ["self", "counts", "thing"] 44 (spA_u6 K ca) ca.f_u6 fd0) {f1 : Addr} {fd1 : FuncData} (d_u82 : Def P w K mg base "shares" ["most"] 1 (sp_u82 K ca) f1 fd1) {fd2 : FuncData} (d_u48 : MDef P w K mg base ["self", "thing"] 1 (sp_u48 K ca) ca.f_u48 fd2) : FnOk P w K mg base CX0 45 ca.f_u3 fd ["self", "thing"] (sp_u3 K ca) := by
 refine F.ok sc_u3 (fun vs H Q E h => ?_) (fun cdv A outer s H vs Q E hr h => ?_)
 ·obtain ⟨x, dx, fs, wd, v, t, rfl, hx, fl, th, h40, q⟩ := h
  rfl
 obtain ⟨x, dx, fs, wd, v, t, rfl, hx, fl, th, h40, q⟩ := h
 refine ⟨_, pss_one (ps_ret (pmeth (pv 0) CA.c_Stairs CA.mt_Stairs_number_by_parts d_u6 hr (pa_cons (pcall d_u82 hr (pa_cons (pmeth (pv 0) CA.c_Stairs CA.mt_Stairs_size_of d_u48 hr (pa_cons (pv 1) pa_nil)) pa_nil)) (pa_cons (pv 1) pa_nil)))), ?_⟩
 refine ⟨_, rfl, x, dx, fs, rfl, hx, fl.no "number_by_parts" (by decide) (by decide), _, rfl, x, dx, fs, rfl, hx, fl.no "size_of" (by decide) (by decide), _, rfl, x, v, t, rfl, th, h40, fun H1 s1 => ⟨(t.size : Int), rfl, by omega, by omega, fun pc H2 s2 fc hc => ?_⟩⟩
 rw [Int.toNat_natCast] at hc
 have s12 := s1.trans s2
 exact ⟨_, rfl, t.size, by omega, x, dx, fs, wd, pc, t.size, v, t, rfl, s12 _ _ hx, fl, hc, th.same s12, rfl, Nat.le_refl _, h40, fun H' s => q _ (s12.trans s)⟩
theorem ok_u25 {er : Errs} (EO : ErrOk K mg er) {ca : ClA} (CA : ClOk K mg ca) {fd : FuncData} (F : Fun K "number_of" "Family.number_of" s_u25 ca.f_u25 fd) {fd0 : FuncData} (d_u19 : MDef P w K mg base ["self", "thing"] 2 (sp_u19 K ca er) ca.f_u19 fd0) {fd1 : FuncData} (d_u3 : MDef P w K mg base ["self", "thing"] 45 (sp_u3 K ca) ca.f_u3 fd1) : FnOk P w K mg base (CX1 P w) 46 ca.f_u25 fd ["self", "thing"] (sp_u25 K ca er) := by
 refine F.okE sc_u25 (fun vs H Q E h => ?_) (fun cdv A outer s H vs Q E hr h => ?_)
 ·obtain ⟨x, dx, fs, wd, v, rfl, hx, fl, q⟩ := h
  rfl
 obtain ⟨x, dx, fs, wd, v, rfl, hx, fl, q⟩ := h
 refine ⟨_, pss_cons (ps_expr (pmethT thr_def (pv 0) CA.c_Stairs CA.mt_Stairs_refuse_other d_u19 hr (pa_cons (pv 1) pa_nil)))
  (pss_one (ps_ret (pmeth (pv 0) CA.c_Stairs CA.mt_Stairs_unchecked_number d_u3 hr (pa_cons (pv 1) pa_nil)))), ?_⟩
 rcases q with ⟨t, th, h40, q⟩ | ⟨bad, q⟩
 ·refine ⟨_, rfl, x, dx, fs, rfl, hx, fl.no "refuse_other" (by decide) (by decide), _, rfl, x, dx, fs, wd, v, rfl, hx, fl, .inl ⟨t, th, fun H1 s1 => ?_⟩⟩
  exact ⟨_, rfl, x, dx, fs, rfl, s1 _ _ hx, fl.no "unchecked_number" (by decide) (by decide), _, rfl, x, dx, fs, wd, v, t, rfl, s1 _ _ hx, fl, th.same s1, h40, fun H2 s2 => q _ (s1.trans s2)⟩
 ·exact ⟨_, rfl, x, dx, fs, rfl, hx, fl.no "refuse_other" (by decide) (by decide), _, rfl, x, dx, fs, wd, v, rfl, hx, fl, .inr ⟨bad, q⟩⟩
theorem ok_u57 {er : Errs} (EO : ErrOk K mg er) {ca : ClA} (CA : ClOk K mg ca) {fd : FuncData} (F : Fun K "is_one" "Twins.is_one" s_u57 ca.f_u57 fd) : FnOk P w K mg base CX0 1 ca.f_u57 fd ["self", "thing"] (sp_u57 K ca) := by
 refine F.ok sc_u57 (fun vs H Q E h => ?_) (fun cdv A outer s H vs Q E hr h => ?_)
 ·obtain ⟨x, v, b, rfl, rfl, q⟩ := h
  rfl
 obtain ⟨x, v, b, rfl, rfl, q⟩ := h
 refine ⟨_, pss_one (ps_ret pe_bl), ?_⟩
 exact q _ (Same.refl H)
theorem ok_u21 {er : Errs} (EO : ErrOk K mg er) {ca : ClA} (CA : ClOk K mg ca) {fd : FuncData} (F : Fun K "refuse_other" "Family.refuse_other" s_u21 ca.f_u21 fd) {fd0 : FuncData} (d_u57 : MDef P w K mg base ["self", "thing"] 1 (sp_u57 K ca) ca.f_u57 fd0) : FnOk P w K mg base (CX1 P w) 2 ca.f_u21 fd ["self", "thing"] (sp_u21 K ca er) := by
 refine F.okE sc_u21 (fun vs H Q E h => ?_) (fun cdv A outer s H vs Q E hr h => ?_)
 ·obtain ⟨x, dx, fs, wd, v, rfl, hx, fl, q⟩ := h
  rfl
 obtain ⟨x, dx, fs, wd, v, rfl, hx, fl, q⟩ := h
 refine ⟨_, pss_one (ps_if (pt_not (pt_val (pmeth (pv 0) CA.c_Twins CA.mt_Twins_is_one d_u57 hr (pa_cons (pv 1) pa_nil)))) (pss_one (ps_raise thr_def EO.x_thing rfl EO.m_thing (pa_cons pe_str pa_nil))) pss_nil), ?_⟩
 rcases q with ⟨t, th, q⟩ | ⟨bad, q⟩
 ·exact ⟨_, rfl, x, dx, fs, rfl, hx, fl.no "is_one" (by decide) (by decide), _, rfl, x, v, true, rfl, rfl, fun H1 s1 => ⟨_, rfl, iteF (q H1 s1)⟩⟩
 ·exact bad.elim
theorem ok_u51 {er : Errs} (EO : ErrOk K mg er) {ca : ClA} (CA : ClOk K mg ca) {fd : FuncData} (F : Fun K "size_of" "Twins.size_of" s_u51 ca.f_u51 fd) : FnOk P w K mg base CX0 1 ca.f_u51 fd ["self", "thing"] (sp_u51 K ca) := by
 refine F.ok sc_u51 (fun vs H Q E h => ?_) (fun cdv A outer s H vs Q E hr h => ?_)
 ·obtain ⟨x, v, t, rfl, th, h40, q⟩ := h
  rfl
 obtain ⟨x, v, t, rfl, th, h40, q⟩ := h
 refine ⟨_, pss_cons (ps_set (i := 2) sc_u51.nd rfl (Or.inl rfl) pe_int)
  (pss_cons (ps_set (i := 3) sc_u51.nd rfl (Or.inl rfl) (pe_lst (pa_cons (pv 1) pa_nil)))
  (pss_cons (ps_while PassesOwn.never (pt_cmpR (op_neD (hu100 hr)) (pv 3) (pe_lst pa_nil) (nomark _)) (pss_cons (ps_set (i := 4) sc_u51.nd rfl (Or.inl rfl) (pe_bm0 PySem.F.plainAttrs_list PySem.F.slot_list_pop PySem.F.type_list_pop mt_pop (pv 3)))
  (pss_one (ps_if (pt_cmpR (op_neD (hu100 hr)) (pv 4) (pe_tup pa_nil) (nomark _)) (pss_cons (ps_aug (i := 2) sc_u51.nd rfl (Or.inl rfl) pe_int ip_add)
  (pss_one (ps_expr (pe_bm PySem.F.plainAttrs_list PySem.F.slot_list_extend PySem.F.type_list_extend mt_extT (pv 3) (pa_cons (pv 4) pa_nil))))) pss_nil))))
  (pss_one (ps_ret (pv 2))))), ?_⟩
 have th : Tw H v t := th
 refine ⟨_, rfl, (by show 1 ≤ sizeLine; decide), fun pr hpr => ?_⟩
 have s1 := Same.new (Same.refl H) hpr (.lst [v])
 refine ⟨fun mm σ H5 => ∃ (o : Option V) (k : Nat) (ts : List Bt) (xs : List V), σ = [some (.ref x), some v, some (.int (k : Int)), some (.ref pr), o] ∧ Same H H5 ∧ H5 pr = some (.lst xs) ∧ Tws H xs ts ∧ k + sizes ts = t.size ∧ xs.length ≤ 1 + k ∧ mm = 2 * sizes ts + xs.length, ⟨_, _, 0, [t], [v], rfl, s1, upd_same, .cons th .nil, by unfold sizes; simp, by simp, rfl⟩, ?_⟩
 rintro mm σ H5 ⟨o, k, ts, xs, rfl, s5, hr5, tws, hk, hl, rfl⟩
 refine ⟨_, rfl, Nat.zero_le _, fun pe hpe => ?_⟩
 have nre : pr ≠ pe := ne_of_none hr5 hpe
 have s6 := Same.new s5 hpe (.lst [])
 have hr6 := (upd_ne (o := .lst []) nre).trans hr5
 refine ⟨1, _, by decide, EqD.void nre (SqL.of hr6) (SqL.of upd_same), ⟨pr, pe, rfl, rfl, nre⟩, _, rfl, ?_⟩
 generalize upd H5 pe (.lst []) = H6 at s6 hr6 ⊢
 by_cases hx : xs = []
 ·refine ngF (decide_eq_true hx) ?_
  subst hx
  cases tws
  have e : (k : Int) = (t.size : Int) := by unfold sizes at hk; simp at hk; omega
  exact ⟨_, rfl, by rw [e]; exact q _ s6⟩
 obtain ⟨ys, y, us, u, rfl, rfl, tus, tu⟩ := tws.unsnoc hx
 rw [sizes_app] at hk
 have su : sizes [u] = u.size := by unfold sizes; simp
 rw [su] at hk
 have ly : (ys ++ [y]).length = ys.length + 1 := by simp
 refine ngT (decide_eq_false hx) ⟨fun σ' H' => ∃ (o : Option V) (k' : Nat) (ts' : List Bt) (xs' : List V), σ' = [some (.ref x), some v, some (.int (k' : Int)), some (.ref pr), o] ∧ Same H H' ∧ H' pr = some (.lst xs') ∧ Tws H xs' ts' ∧ k' + sizes ts' = t.size ∧ xs'.length ≤ 1 + k' ∧ 2 * sizes ts' + xs'.length < 2 * (sizes us + u.size) + (ys.length + 1), ?_, ?_⟩
 ·rintro σ' H' ⟨o, k', ts', xs', rfl, a1, a2, a3, a4, a5, a6⟩
  exact ⟨_, by rw [sizes_app, su, ly]; exact a6, o, k', ts', xs', rfl, a1, a2, a3, a4, a5, rfl⟩
 have hlast : (ys ++ [y])[(ys ++ [y]).length - 1]? = some y := by rw [ly, Nat.add_sub_cancel]; simp
 refine ⟨_, rfl, .inl ⟨rfl, _, SqL.of hr6⟩, pr, _, _, rfl, rfl, hr6, hlast, ?_⟩
 rw [List.dropLast_concat]
 have fpr : H pr = none := hpr
 have s7 := s6.upd fpr (.lst ys)
 have hr7 : upd H6 pr (.lst ys) pr = some (.lst ys) := upd_same
 generalize upd H6 pr (.lst ys) = H7 at s7 hr7 ⊢
 obtain ⟨p, zs, rfl, hp, hz⟩ := tu.ref
 refine ⟨_, rfl, Nat.zero_le _, fun pt hpt => ?_⟩
 have hp7 := s7 _ _ hp
 have npt : p ≠ pt := ne_of_none hp7 hpt
 have s8 := Same.new s7 hpt (.tup [])
 have hp8 := s8 _ _ hp
 have hr8 := (upd_ne (o := .tup []) (ne_of_none hr7 hpt)).trans hr7
 refine ⟨1, _, by decide, EqD.unit npt (SqT.of hp8) (SqT.of upd_same), ⟨p, pt, rfl, rfl, npt⟩, _, rfl, ?_⟩
 generalize upd H7 pt (.tup []) = H8 at s8 hp8 hr8 ⊢
 cases u with
 | leaf =>
  have ez := hz.mpr rfl
  refine ngF (decide_eq_true ez) ⟨_, k, us, ys, rfl, s8, hr8, tus, ?_, by omega, ?_⟩
  ·have : (Bt.leaf).size = 0 := rfl
   omega
  ·have : (Bt.leaf).size = 0 := rfl
   omega
 | node l r =>
  have ez : zs ≠ [] := fun z => by cases hz.mp z
  obtain ⟨p', a, b, e1, hp', tl, tr⟩ := tu
  cases e1
  rw [hp] at hp'
  cases hp'
  have sn : (Bt.node l r).size = l.size + r.size + 1 := rfl
  have slr : sizes [l, r] = l.size + r.size := by unfold sizes; simp
  refine ngT (decide_eq_false ez) ⟨_, rfl, _, _, rfl, rfl, _, rfl, .inl ⟨rfl, _, SqL.of hr8⟩, _, rfl, pr, p, _, _, rfl, rfl, hr8, SqT.of hp8, sz (by simp; omega), ?_⟩
  refine ⟨_, k + 1, us ++ [l, r], ys ++ [a, b], rfl, s8.upd fpr _, upd_same, tus.app (.cons tl (.cons tr .nil)), by rw [sizes_app, slr]; omega, by simp; omega, ?_⟩
  rw [sizes_app, slr, List.length_append, sn]
  simp
  omega
theorem ok_u59 {er : Errs} (EO : ErrOk K mg er) {ca : ClA} (CA : ClOk K mg ca) {fd : FuncData} (F : Fun K "parted" "Twins.parted" s_u59 ca.f_u59 fd) : FnOk P w K mg base CX0 1 ca.f_u59 fd ["self", "thing"] (sp_u59 K ca) := by
 refine F.ok sc_u59 (fun vs H Q E h => ?_) (fun cdv A outer s H vs Q E hr h => ?_)
 ·obtain ⟨x, v, bl, br, rfl, th, h39, q⟩ := h
  rfl
 obtain ⟨x, v, bl, br, rfl, th, h39, q⟩ := h
 refine ⟨_, pss_one (ps_ret (pe_tup (pa_cons (pe_ix ix_tup (pv 1) pe_int (fun _ _ => rfl)) (pa_cons (pe_ix ix_tup (pv 1) pe_int (fun _ _ => rfl)) pa_nil)))), ?_⟩
 obtain ⟨p, a, b, rfl, hp, tl, tr⟩ := th
 refine ⟨_, rfl, p, _, _, _, rfl, rfl, SqT.of hp, rfl, _, rfl, p, _, _, _, rfl, rfl, SqT.of hp, rfl, (by show 2 ≤ sizeLine; decide), fun t ht => ?_⟩
 have s1 := Same.new (Same.refl H) ht (.tup [a, b])
 exact q t a b _ s1 upd_same (Tw.same s1 tl) (Tw.same s1 tr)
theorem ok_u9 {er : Errs} (EO : ErrOk K mg er) {ca : ClA} (CA : ClOk K mg ca) {fd : FuncData} (F : Fun K "number_by_parts" "SplitFamily.number_by_parts" s_u9 ca.f_u9 fd) {fd0 : FuncData} (d_u51 : MDef P w K mg base ["self", "thing"] 1 (sp_u51 K ca) ca.f_u51 fd0) {fd1 : FuncData} (d_u59 : MDef P w K mg base ["self", "thing"] 1 (sp_u59 K ca) ca.f_u59 fd1) (m_sum : mg "sum" = none) (m_range : mg "range" = none) (n : Nat) (d_self : MDef P w K mg base ["self", "counts", "thing"] (1 + n) (below n fun m => sp_u9 K ca m) ca.f_u9 fd) : FnOk P w K mg base (CX1 P w) (1 + n + 1) ca.f_u9 fd ["self", "counts", "thing"] (sp_u9 K ca n) := by
 refine FnOk.up ?_
 refine F.ok sc_u9 (fun vs H Q E h => ?_) (fun cdv A outer s H vs Q E hr h => ?_)
 ·obtain ⟨x, dx, fs, wd, pc, k, v, t, rfl, hx, fl, hc, th, hn, hk, k40, q⟩ := h
  rfl
 obtain ⟨x, dx, fs, wd, pc, k, v, t, rfl, hx, fl, hc, th, hn, hk, k40, q⟩ := h
 refine ⟨_, pss_cons (ps_set (i := 3) sc_u9.nd rfl (Or.inr rfl) (pmeth (pv 0) CA.c_Twins CA.mt_Twins_size_of d_u51 hr (pa_cons (pv 2) pa_nil) (hjk := by omega)))
  (pss_cons (ps_if (pt_cmpR op_eq (pv 3) pe_int (nomark _)) (pss_one (ps_ret pe_int)) pss_nil)
  (pss_cons (ps_set (i := 4) sc_u9.nd rfl (Or.inl rfl) (pmeth (pv 0) CA.c_Twins CA.mt_Twins_parted d_u59 hr (pa_cons (pv 2) pa_nil) (hjk := by omega)))
  (pss_cons (ps_set (i := 5) sc_u9.nd rfl (Or.inl rfl) (pmeth (pv 0) CA.c_Twins CA.mt_Twins_size_of d_u51 hr (pa_cons (pe_ix ix_tup (pv 4) pe_int (fun _ _ => rfl)) pa_nil) (hjk := by omega)))
  (pss_cons (ps_set (i := 6) sc_u9.nd rfl (Or.inl rfl) (pe_callB (call_sum rfl) rfl m_sum bb_sum (pa_cons (pe_comp rfl (pi_range1 rfl m_range (pa_cons (pv 5) pa_nil)) rfl rfl rfl rfl (N := ["j", "counts", "size"]) (.own (.cap (j := 1) rfl rfl rfl (.cap (j := 3) rfl rfl rfl .nil))) (fun _ _ _ _ _ _ => (pg_name (i := 0) (by show List.Nodup (["j", "counts", "size"] : List Str); decide +kernel) rfl (Or.inl rfl))) (fun _ _ _ _ _ _ => pts_nil) (fun _ _ _ _ _ _ => (pe_op op_mul (pe_ix (ix_listK (K := K) rfl) (pv 1) (pv 0) (fun _ _ => rfl)) (pe_ix (ix_listK (K := K) rfl) (pv 1) (pe_op op_sub (pe_op op_sub (pv 2) pe_int) (pv 0)) (fun _ _ => rfl))))) pa_nil)))
  (pss_cons (ps_set (i := 7) sc_u9.nd rfl (Or.inl rfl) (pmeth (pv 0) CA.c_Twins CA.mt_Twins_number_by_parts d_self hr (pa_cons (pv 1) (pa_cons (pe_ix ix_tup (pv 4) pe_int (fun _ _ => rfl)) pa_nil)) (hjk := by omega)))
  (pss_cons (ps_set (i := 8) sc_u9.nd rfl (Or.inl rfl) (pmeth (pv 0) CA.c_Twins CA.mt_Twins_number_by_parts d_self hr (pa_cons (pv 1) (pa_cons (pe_ix ix_tup (pv 4) pe_int (fun _ _ => rfl)) pa_nil)) (hjk := by omega)))
  (pss_one (ps_ret (pe_op op_add (pe_op op_add (pv 6) (pe_op op_mul (pv 7) (pe_ix ix_list (pv 1) (pe_op op_sub (pe_op op_sub (pv 3) pe_int) (pv 5)) (fun _ _ => rfl)))) (pv 8)))))))))), ?_⟩
 refine ⟨_, rfl, x, dx, fs, rfl, hx, fl.no "size_of" (by decide) (by decide), _, rfl, x, v, t, rfl, th, by omega, fun H1 s1 => ⟨_, rfl, rfl, _, rfl, ?_⟩⟩
 cases t with
 | leaf => exact iteP rfl (q _ s1)
 | node l r =>
  have hn : l.size + r.size + 1 = n := hn
  have sn : (((Bt.node l r).size : Nat) : Int) = (n : Int) := by rw [← hn]; rfl
  have lk : (shL k).length = k + 1 := shL_length k
  have at_ : ∀ (j : Nat) (z : Int), z = (j : Int) → j ≤ k → atI ((shL k).map V.int) z = some (.int (sh j)) := fun j z ez hj => by
   have := atI_int (ns := shL k) (i := z) (by omega) (by omega)
   rw [show z.toNat = j by omega, shL_get k j hj] at this
   exact this
  rw [sn]
  refine iteN (fun z => by injection z with z; omega) ?_
  refine ⟨_, rfl, x, dx, fs, rfl, s1 _ _ hx, fl.no "parted" (by decide) (by decide), _, rfl, x, v, l, r, rfl, th.same s1, by omega, fun p vl vr H2 s2 hp tl tr => ?_⟩
  have s12 := s1.trans s2
  refine ⟨_, rfl, x, dx, fs, rfl, s12 _ _ hx, fl.no "size_of" (by decide) (by decide), _, rfl, p, _, _, _, rfl, rfl, SqT.of hp, rfl, x, vl, l, rfl, tl, by omega, fun H3 s3 => ?_⟩
  have s13 := s12.trans s3
  have hc3 := s13 _ _ hc
  refine ⟨_, rfl, _, rfl, by omega, by omega, fun D hD => comp_range (lo := 0) (n := ((l.size : Nat) : Int).toNat) (fun j => .int (sh j * sh (n - 1 - j))) (sz (by omega)) (fun j H4 R R0 hj hb hR => ?_) ?_⟩
  ·have hj : j < l.size := by omega
   have hc4 : H4 pc = some (.lst ((shL k).map V.int)) := (hb pc (ne_of_none hc3 hD)).trans hc3
   have a1 := at_ j ((0 : Int) + (j : Int)) (by omega) (by omega)
   have a2 := at_ (n - 1 - j) ((n : Int) - 1 - ((0 : Int) + (j : Int))) (by omega) (by omega)
   have p1 := sh_pos j
   have p2 := sh_pos (n - 1 - j)
   have mc : CMul (sh j) (sh (n - 1 - j)) := mulC (a := j) (b := n - 1 - j) (by omega) (by omega) (Int.le_refl _) (by omega) (Int.le_refl _)
   exact ⟨Ext.set rfl, ttN (iteT ⟨_, rfl, _, rfl, pc, _, _, _, rfl, rfl, SqL.of hc4, a1, _, rfl, _, rfl, _, _, rfl, rfl, _, rfl, _, _, rfl, rfl, pc, _, _, _, rfl, rfl, SqL.of hc4, a2, _, _, rfl, rfl, mc, hR⟩)⟩
  have s4 := Same.new s13 hD (.lst ((List.range ((l.size : Nat) : Int).toNat).map fun j => V.int (sh j * sh (n - 1 - j))))
  have k4 := Same.new (Same.refl H3) hD (.lst ((List.range ((l.size : Nat) : Int).toNat).map fun j => V.int (sh j * sh (n - 1 - j))))
  refine ⟨D, (List.range ((l.size : Nat) : Int).toNat).map (fun j => sh j * sh (n - 1 - j)), rfl, SqL.of (by rw [upd_same, List.map_map]; rfl), ?_⟩
  have ep : ((List.range ((l.size : Nat) : Int).toNat).map (fun j => sh j * sh (n - 1 - j))).sum = pre n l.size := by rw [Int.toNat_natCast]; rfl
  rw [ep]
  generalize upd H3 D (.lst ((List.range ((l.size : Nat) : Int).toNat).map fun j => V.int (sh j * sh (n - 1 - j)))) = H4 at s4 k4 ⊢
  have t24 := s3.trans k4
  refine ⟨_, rfl, x, dx, fs, rfl, s4 _ _ hx, fl.no "number_by_parts" (by decide) (by decide), _, rfl, _, rfl, p, _, _, _, rfl, rfl, SqT.of (t24 _ _ hp), rfl, l.size, by omega, x, dx, fs, wd, pc, k, vl, l, rfl, s4 _ _ hx, fl, s4 _ _ hc, tl.same t24, rfl, by omega, k40, fun H5 s5 => ?_⟩
  have t25 := t24.trans s5
  have s15 := s4.trans s5
  refine ⟨_, rfl, x, dx, fs, rfl, s15 _ _ hx, fl.no "number_by_parts" (by decide) (by decide), _, rfl, _, rfl, p, _, _, _, rfl, rfl, SqT.of (t25 _ _ hp), rfl, r.size, by omega, x, dx, fs, wd, pc, k, vr, r, rfl, s15 _ _ hx, fl, s15 _ _ hc, tr.same t25, rfl, by omega, k40, fun H6 s6 => ?_⟩
  have s16 := s15.trans s6
  have a3 := at_ r.size ((n : Int) - 1 - (l.size : Int)) (by omega) (by omega)
  have p3 := sh_pos r.size
  have mc : CMul (bnum l) (sh r.size) := mulC (a := l.size) (b := r.size) (by omega) (bnum_low l) (by have := bnum_lt l; omega) (by omega) (Int.le_refl _)
  refine ⟨_, rfl, _, rfl, _, rfl, _, rfl, _, _, rfl, rfl, _, rfl, _, _, rfl, rfl, pc, _, _, _, rfl, rfl, SqL.of (s16 _ _ hc), a3, _, _, rfl, rfl, mc, _, _, rfl, rfl, _, rfl, _, _, rfl, rfl, ?_⟩
  have e : bnum (.node l r) = pre n l.size + bnum l * sh r.size + bnum r := by rw [← hn]; rfl
  rw [e] at q
  exact q _ s16
theorem ok_u8 {er : Errs} (EO : ErrOk K mg er) {ca : ClA} (CA : ClOk K mg ca) {fd : FuncData} (F : Fun K "unchecked_number" "SplitFamily.unchecked_number" s_u8 ca.f_u8 fd) {fd0 : FuncData} (d_u9 : MDef P w K mg base ["self", "counts", "thing"] 43 (spA_u9 K ca) ca.f_u9 fd0) {f1 : Addr} {fd1 : FuncData} (d_u82 : Def P w K mg base "shares" ["most"] 1 (sp_u82 K ca) f1 fd1) {fd2 : FuncData} (d_u51 : MDef P w K mg base ["self", "thing"] 1 (sp_u51 K ca) ca.f_u51 fd2) : FnOk P w K mg base CX0 44 ca.f_u8 fd ["self", "thing"] (sp_u8 K ca) := by
 refine F.ok sc_u8 (fun vs H Q E h => ?_) (fun cdv A outer s H vs Q E hr h => ?_)
 ·obtain ⟨x, dx, fs, wd, v, t, rfl, hx, fl, th, h40, q⟩ := h
  rfl
 obtain ⟨x, dx, fs, wd, v, t, rfl, hx, fl, th, h40, q⟩ := h
 refine ⟨_, pss_one (ps_ret (pmeth (pv 0) CA.c_Twins CA.mt_Twins_number_by_parts d_u9 hr (pa_cons (pcall d_u82 hr (pa_cons (pmeth (pv 0) CA.c_Twins CA.mt_Twins_size_of d_u51 hr (pa_cons (pv 1) pa_nil)) pa_nil)) (pa_cons (pv 1) pa_nil)))), ?_⟩
 refine ⟨_, rfl, x, dx, fs, rfl, hx, fl.no "number_by_parts" (by decide) (by decide), _, rfl, x, dx, fs, rfl, hx, fl.no "size_of" (by decide) (by decide), _, rfl, x, v, t, rfl, th, h40, fun H1 s1 => ⟨(t.size : Int), rfl, by omega, by omega, fun pc H2 s2 fc hc => ?_⟩⟩
 rw [Int.toNat_natCast] at hc
 have s12 := s1.trans s2
 exact ⟨_, rfl, t.size, by omega, x, dx, fs, wd, pc, t.size, v, t, rfl, s12 _ _ hx, fl, hc, th.same s12, rfl, Nat.le_refl _, h40, fun H' s => q _ (s12.trans s)⟩
theorem ok_u28 {er : Errs} (EO : ErrOk K mg er) {ca : ClA} (CA : ClOk K mg ca) {fd : FuncData} (F : Fun K "number_of" "Family.number_of" s_u28 ca.f_u28 fd) {fd0 : FuncData} (d_u21 : MDef P w K mg base ["self", "thing"] 2 (sp_u21 K ca er) ca.f_u21 fd0) {fd1 : FuncData} (d_u8 : MDef P w K mg base ["self", "thing"] 44 (sp_u8 K ca) ca.f_u8 fd1) : FnOk P w K mg base (CX1 P w) 45 ca.f_u28 fd ["self", "thing"] (sp_u28 K ca er) := by
 refine F.okE sc_u28 (fun vs H Q E h => ?_) (fun cdv A outer s H vs Q E hr h => ?_)
 ·obtain ⟨x, dx, fs, wd, v, rfl, hx, fl, q⟩ := h
  rfl
 obtain ⟨x, dx, fs, wd, v, rfl, hx, fl, q⟩ := h
 refine ⟨_, pss_cons (ps_expr (pmethT thr_def (pv 0) CA.c_Twins CA.mt_Twins_refuse_other d_u21 hr (pa_cons (pv 1) pa_nil)))
  (pss_one (ps_ret (pmeth (pv 0) CA.c_Twins CA.mt_Twins_unchecked_number d_u8 hr (pa_cons (pv 1) pa_nil)))), ?_⟩
 rcases q with ⟨t, th, h40, q⟩ | ⟨bad, q⟩
 ·refine ⟨_, rfl, x, dx, fs, rfl, hx, fl.no "refuse_other" (by decide) (by decide), _, rfl, x, dx, fs, wd, v, rfl, hx, fl, .inl ⟨t, th, fun H1 s1 => ?_⟩⟩
  exact ⟨_, rfl, x, dx, fs, rfl, s1 _ _ hx, fl.no "unchecked_number" (by decide) (by decide), _, rfl, x, dx, fs, wd, v, t, rfl, s1 _ _ hx, fl, th.same s1, h40, fun H2 s2 => q _ (s1.trans s2)⟩
 ·exact ⟨_, rfl, x, dx, fs, rfl, hx, fl.no "refuse_other" (by decide) (by decide), _, rfl, x, dx, fs, wd, v, rfl, hx, fl, .inr ⟨bad, q⟩⟩
theorem ok_u69 {er : Errs} (EO : ErrOk K mg er) {ca : ClA} (CA : ClOk K mg ca) {f : Addr} {fd : FuncData} (F : Fun K "_law_small" "_law_small" s_u69 f fd) {fd0 : FuncData} (d_u23 : MDef P w K mg base ["self", "size", "number"] 45 (sp_u23 K ca er) ca.f_u23 fd0) {fd1 : FuncData} (d_u26 : MDef P w K mg base ["self", "size", "number"] 46 (sp_u26 K ca er) ca.f_u26 fd1) {fd2 : FuncData} (d_u30 : MDef P w K mg base ["self", "size", "number"] 45 (sp_u30 K ca er) ca.f_u30 fd2) {fd3 : FuncData} (d_u33 : MDef P w K mg base ["self", "size"] 3 (sp_u33 K ca er) ca.f_u33 fd3) {fd4 : FuncData} (d_u35 : MDef P w K mg base ["self", "size"] 3 (sp_u35 K ca er) ca.f_u35 fd4) {fd5 : FuncData} (d_u38 : MDef P w K mg base ["self", "size"] 3 (sp_u38 K ca er) ca.f_u38 fd5) {f6 : Addr} {fd6 : FuncData} (d_u71 : Def P w K mg base "_law_share" ["_law_size"] 1 (sp_u71 K ca) f6 fd6) {f7 : Addr} {fd7 : FuncData} (d_u77 : Def P w K mg base "_law_one" ["_law_way", "_law_thing", "_law_size"] 43 (sp_u77 K ca) f7 fd7) {fd8 : FuncData} (d_u20 : MDef P w K mg base ["self", "thing"] 46 (sp_u20 K ca er) ca.f_u20 fd8) {fd9 : FuncData} (d_u25 : MDef P w K mg base ["self", "thing"] 46 (sp_u25 K ca er) ca.f_u25 fd9) {fd10 : FuncData} (d_u28 : MDef P w K mg base ["self", "thing"] 45 (sp_u28 K ca er) ca.f_u28 fd10) : FnOk P w K mg base CX0 47 f fd ["_law_kin_here", "_law_way", "_law_far"] (sp_u69 K ca) := by
 refine F.ok sc_u69 (fun vs H Q E h => ?_) (fun cdv A outer s H vs Q E hr h => ?_)
 ·obtain ⟨x, dx, fs, wd, w, f, rfl, hw, kn, fl, q⟩ := h
  rfl
 obtain ⟨x, dx, fs, wd, w, f, rfl, hw, kn, fl, q⟩ := h
 refine ⟨_, pss_cons (ps_set (i := 3) sc_u69.nd rfl (Or.inl rfl) (pe_op op_mod (pv 2) pe_int))
  (pss_cons (ps_set (i := 4) sc_u69.nd rfl (Or.inl rfl) (pe_eit (pmeth (pv 0) CA.c_Brackets CA.mt_Brackets_thing_of d_u23 hr (pa_cons (pv 3) (pa_cons pe_int pa_nil))) (pe_eit (pmeth (pv 0) CA.c_Stairs CA.mt_Stairs_thing_of d_u26 hr (pa_cons (pv 3) (pa_cons pe_int pa_nil))) (pmeth (pv 0) CA.c_Twins CA.mt_Twins_thing_of d_u30 hr (pa_cons (pv 3) (pa_cons pe_int pa_nil))))))
  (pss_cons (ps_if (PW.pt (pw_or (pt_cmpR op_ne (pe_eit (pmeth (pv 0) CA.c_Brackets CA.mt_Brackets_many d_u33 hr (pa_cons (pv 3) pa_nil)) (pe_eit (pmeth (pv 0) CA.c_Stairs CA.mt_Stairs_many d_u35 hr (pa_cons (pv 3) pa_nil)) (pmeth (pv 0) CA.c_Twins CA.mt_Twins_many d_u38 hr (pa_cons (pv 3) pa_nil)))) (pcall d_u71 hr (pa_cons (pv 3) pa_nil)) (nomark _)) (pw_or1 (pt_not (pt_val (pcall d_u77 hr (pa_cons (pv 1) (pa_cons (pv 4) (pa_cons (pv 3) pa_nil))))))))) (pss_one (ps_ret pe_bl)) pss_nil)
  (pss_one (ps_ret (pe_cmpR op_eq (pe_eit (pmeth (pv 0) CA.c_Brackets CA.mt_Brackets_number_of d_u20 hr (pa_cons (pv 4) pa_nil)) (pe_eit (pmeth (pv 0) CA.c_Stairs CA.mt_Stairs_number_of d_u25 hr (pa_cons (pv 4) pa_nil)) (pmeth (pv 0) CA.c_Twins CA.mt_Twins_number_of d_u28 hr (pa_cons (pv 4) pa_nil)))) pe_int (nomark _)))))), ?_⟩
 refine ⟨_, rfl, _, _, rfl, rfl, pm (by decide), ?_⟩
 have f0 := Int.emod_nonneg f (show (3 : Int) ≠ 0 by decide)
 have f1 := Int.emod_lt_of_pos f (show (0 : Int) < 3 by decide)
 try dsimp only
 obtain ⟨s, es⟩ : ∃ s : Nat, f % 3 = (s : Int) := ⟨(f % 3).toNat, by omega⟩
 rw [es]
 obtain ⟨t, rfl, eb⟩ := bnum_all s 0 (Int.le_refl _) (by have := sh_pos s; omega)
 have h2 : t.size ≤ 2 := by omega
 clear es f0 f1
 rcases (by omega : w = 0 ∨ w = 1 ∨ w = 2) with rfl | rfl | rfl
 ·have hx := kn.1 rfl
  refine (.inl ⟨_, rfl, x, dx, fs, rfl, hx, fl.no "thing_of" (by decide) (by decide), _, rfl, x, dx, fs, wd, (t.size : Int), 0, rfl, hx, fl, .inr (.inr ⟨t, rfl, eb.symm, by omega, fun v H1 s1 nw tv => ?_⟩)⟩)
  refine (.inl ⟨_, rfl, x, dx, fs, rfl, s1 _ _ hx, fl.no "many" (by decide) (by decide), _, rfl, x, dx, fs, wd, (t.size : Int), rfl, s1 _ _ hx, fl, .inr ⟨by omega, by omega, _, rfl, _, rfl, by omega, by omega, rfl, _, rfl, iteNS rfl ?_⟩⟩)
  refine ⟨_, rfl, _, rfl, _, rfl, 0, v, t, rfl, by decide, tv, by omega, fun H2 s2 => ⟨_, rfl, iteF ?_⟩⟩
  have s12 := s1.trans s2
  refine (.inl ⟨_, rfl, x, dx, fs, rfl, s12 _ _ hx, fl.no "number_of" (by decide) (by decide), _, rfl, x, dx, fs, wd, v, rfl, s12 _ _ hx, fl, .inl ⟨t, tv.same s2, by omega, fun H3 s3 => ⟨rfl, ?_⟩⟩⟩)
  have e : decide (V.int (bnum t) = V.int 0) = true := decide_eq_true (congrArg V.int eb)
  rw [e]
  exact q _ (s12.trans s3)
 ·have hx := kn.2.1 rfl
  refine (.inr (.inl ⟨_, rfl, x, dx, fs, rfl, hx, fl.no "thing_of" (by decide) (by decide), _, rfl, x, dx, fs, wd, (t.size : Int), 0, rfl, hx, fl, .inr (.inr ⟨t, rfl, eb.symm, by omega, fun v H1 s1 nw tv => ?_⟩)⟩))
  refine (.inr (.inl ⟨_, rfl, x, dx, fs, rfl, s1 _ _ hx, fl.no "many" (by decide) (by decide), _, rfl, x, dx, fs, wd, (t.size : Int), rfl, s1 _ _ hx, fl, .inr ⟨by omega, by omega, _, rfl, _, rfl, by omega, by omega, rfl, _, rfl, iteNS rfl ?_⟩⟩))
  refine ⟨_, rfl, _, rfl, _, rfl, 1, v, t, rfl, by decide, tv, by omega, fun H2 s2 => ⟨_, rfl, iteF ?_⟩⟩
  have s12 := s1.trans s2
  refine (.inr (.inl ⟨_, rfl, x, dx, fs, rfl, s12 _ _ hx, fl.no "number_of" (by decide) (by decide), _, rfl, x, dx, fs, wd, v, rfl, s12 _ _ hx, fl, .inl ⟨t, tv.same s2, by omega, fun H3 s3 => ⟨rfl, ?_⟩⟩⟩))
  have e : decide (V.int (bnum t) = V.int 0) = true := decide_eq_true (congrArg V.int eb)
  rw [e]
  exact q _ (s12.trans s3)
 ·have hx := kn.2.2 rfl
  refine (.inr (.inr ⟨_, rfl, x, dx, fs, rfl, hx, fl.no "thing_of" (by decide) (by decide), _, rfl, x, dx, fs, wd, (t.size : Int), 0, rfl, hx, fl, .inr (.inr ⟨t, rfl, eb.symm, by omega, fun v H1 s1 nw tv => ?_⟩)⟩))
  refine (.inr (.inr ⟨_, rfl, x, dx, fs, rfl, s1 _ _ hx, fl.no "many" (by decide) (by decide), _, rfl, x, dx, fs, wd, (t.size : Int), rfl, s1 _ _ hx, fl, .inr ⟨by omega, by omega, _, rfl, _, rfl, by omega, by omega, rfl, _, rfl, iteNS rfl ?_⟩⟩))
  refine ⟨_, rfl, _, rfl, _, rfl, 2, v, t, rfl, by decide, tv, by omega, fun H2 s2 => ⟨_, rfl, iteF ?_⟩⟩
  have s12 := s1.trans s2
  refine (.inr (.inr ⟨_, rfl, x, dx, fs, rfl, s12 _ _ hx, fl.no "number_of" (by decide) (by decide), _, rfl, x, dx, fs, wd, v, rfl, s12 _ _ hx, fl, .inl ⟨t, tv.same s2, by omega, fun H3 s3 => ⟨rfl, ?_⟩⟩⟩))
  have e : decide (V.int (bnum t) = V.int 0) = true := decide_eq_true (congrArg V.int eb)
  rw [e]
  exact q _ (s12.trans s3)
theorem ok_u76 {er : Errs} (EO : ErrOk K mg er) {ca : ClA} (CA : ClOk K mg ca) {f : Addr} {fd : FuncData} (F : Fun K "_law_copy" "_law_copy" s_u76 f fd) (m_list : mg "list" = none) : FnOk P w K mg base CX0 1 f fd ["_law_way", "_law_thing"] (sp_u76 K ca) := by
 refine F.ok sc_u76 (fun vs H Q E h => ?_) (fun cdv A outer s H vs Q E hr h => ?_)
 ·obtain ⟨w, v, t, rfl, hw, tv, q⟩ := h
  rfl
 obtain ⟨w, v, t, rfl, hw, tv, q⟩ := h
 refine ⟨_, pss_cons (ps_if (pt_cmpR op_eq (pv 0) pe_int (nomark _)) (pss_one (ps_ret (pe_callTy call_list_of rfl m_list bb_list (pa_cons (pv 1) pa_nil)))) pss_nil)
  (pss_one (ps_ret (pv 1))), ?_⟩
 rcases (by omega : w = 0 ∨ w = 1 ∨ w = 2) with rfl | rfl | rfl
 ·exact ⟨_, rfl, rfl, _, rfl, iteN (by decide) ⟨_, rfl, q _ _ (Same.refl H) (fun z => absurd z (by decide)) (fun _ => rfl) tv⟩⟩
 ·obtain ⟨p, rfl, ex⟩ := tv
  exact ⟨_, rfl, rfl, _, rfl, iteP rfl ⟨_, rfl, p, _, rfl, .inl (SqL.of ex), fun l hl => q _ _ (Same.new (Same.refl H) hl _) (fun _ _ e => by cases e; exact hl) (fun z => absurd rfl z) ⟨l, rfl, upd_same⟩⟩⟩
 ·exact ⟨_, rfl, rfl, _, rfl, iteN (by decide) ⟨_, rfl, q _ _ (Same.refl H) (fun z => absurd z (by decide)) (fun _ => rfl) tv⟩⟩
theorem ok_u24 {er : Errs} (EO : ErrOk K mg er) {ca : ClA} (CA : ClOk K mg ca) {fd : FuncData} (F : Fun K "next_of" "Family.next_of" s_u24 ca.f_u24 fd) {fd0 : FuncData} (d_u20 : MDef P w K mg base ["self", "thing"] 46 (sp_u20 K ca er) ca.f_u20 fd0) {fd1 : FuncData} (d_u41 : MDef P w K mg base ["self", "thing"] 1 (sp_u41 K ca) ca.f_u41 fd1) {fd2 : FuncData} (d_u4 : MDef P w K mg base ["self", "size"] 2 (sp_u4 K ca) ca.f_u4 fd2) {fd3 : FuncData} (d_u1 : MDef P w K mg base ["self", "size", "number"] 44 (sp_u1 K ca) ca.f_u1 fd3) : FnOk P w K mg base (CX1 P w) 47 ca.f_u24 fd ["self", "thing"] (sp_u24 K ca er) := by
 refine F.okE sc_u24 (fun vs H Q E h => ?_) (fun cdv A outer s H vs Q E hr h => ?_)
 ·obtain ⟨x, dx, fs, wd, v, rfl, hx, fl, q⟩ := h
  rfl
 obtain ⟨x, dx, fs, wd, v, rfl, hx, fl, q⟩ := h
 refine ⟨_, pss_cons (ps_set (i := 2) sc_u24.nd rfl (Or.inl rfl) (pe_op op_add (pmethT thr_def (pv 0) CA.c_Brackets CA.mt_Brackets_number_of d_u20 hr (pa_cons (pv 1) pa_nil)) pe_int))
  (pss_cons (ps_set (i := 3) sc_u24.nd rfl (Or.inl rfl) (pmeth (pv 0) CA.c_Brackets CA.mt_Brackets_size_of d_u41 hr (pa_cons (pv 1) pa_nil)))
  (pss_cons (ps_if (pt_cmpR op_eq (pv 2) (pmeth (pv 0) CA.c_Brackets CA.mt_Brackets_unchecked_many d_u4 hr (pa_cons (pv 3) pa_nil)) (nomark _)) (pss_one (ps_ret pe_non)) pss_nil)
  (pss_one (ps_ret (pmeth (pv 0) CA.c_Brackets CA.mt_Brackets_unchecked_thing d_u1 hr (pa_cons (pv 3) (pa_cons (pv 2) pa_nil))))))), ?_⟩
 rcases q with ⟨t, th, h40, q0, q1⟩ | ⟨bad, q⟩
 ·refine ⟨_, rfl, x, dx, fs, rfl, hx, fl.no "number_of" (by decide) (by decide), _, rfl, x, dx, fs, wd, v, rfl, hx, fl, .inl ⟨t, th, h40, fun H1 s1 => ⟨_, _, rfl, rfl, ?_⟩⟩⟩
  refine ⟨_, rfl, x, dx, fs, rfl, s1 _ _ hx, fl.no "size_of" (by decide) (by decide), _, rfl, x, v, t, rfl, th.same s1, h40, fun H2 s2 => ?_⟩
  have s12 := s1.trans s2
  refine ⟨_, rfl, _, rfl, x, dx, fs, rfl, s12 _ _ hx, fl.no "unchecked_many" (by decide) (by decide), _, rfl, x, (t.size : Int), rfl, by omega, by omega, ?_⟩
  rw [Int.toNat_natCast, ← sh_cR (by omega)]
  refine ⟨rfl, _, rfl, ?_⟩
  have b1 := bnum_low t
  have b2 := bnum_lt t
  by_cases e : bnum t + 1 = sh t.size
  ·exact iteP (congrArg V.int e) (q0 _ s12 e)
  ·refine iteN (fun z => e (by injection z)) ?_
   obtain ⟨t', es, eb⟩ := bnum_all t.size (bnum t + 1) (by omega) (by omega)
   try dsimp only
   rw [← eb, ← es]
   exact ⟨_, rfl, x, dx, fs, rfl, s12 _ _ hx, fl.no "unchecked_thing" (by decide) (by decide), _, rfl, _, rfl, x, dx, fs, wd, t', rfl, s12 _ _ hx, fl, by omega, fun g H3 s3 nw tg => q1 t' g H3 (s12.trans s3) (nw.back s12) es eb tg⟩
 ·exact ⟨_, rfl, x, dx, fs, rfl, hx, fl.no "number_of" (by decide) (by decide), _, rfl, x, dx, fs, wd, v, rfl, hx, fl, .inr ⟨bad, q⟩⟩
theorem ok_u29 {er : Errs} (EO : ErrOk K mg er) {ca : ClA} (CA : ClOk K mg ca) {fd : FuncData} (F : Fun K "next_of" "Family.next_of" s_u29 ca.f_u29 fd) {fd0 : FuncData} (d_u25 : MDef P w K mg base ["self", "thing"] 46 (sp_u25 K ca er) ca.f_u25 fd0) {fd1 : FuncData} (d_u48 : MDef P w K mg base ["self", "thing"] 1 (sp_u48 K ca) ca.f_u48 fd1) {fd2 : FuncData} (d_u11 : MDef P w K mg base ["self", "size"] 2 (sp_u11 K ca) ca.f_u11 fd2) {fd3 : FuncData} (d_u7 : MDef P w K mg base ["self", "size", "number"] 45 (sp_u7 K ca) ca.f_u7 fd3) : FnOk P w K mg base (CX1 P w) 47 ca.f_u29 fd ["self", "thing"] (sp_u29 K ca er) := by
 refine F.okE sc_u29 (fun vs H Q E h => ?_) (fun cdv A outer s H vs Q E hr h => ?_)
 ·obtain ⟨x, dx, fs, wd, v, rfl, hx, fl, q⟩ := h
  rfl
 obtain ⟨x, dx, fs, wd, v, rfl, hx, fl, q⟩ := h
 refine ⟨_, pss_cons (ps_set (i := 2) sc_u29.nd rfl (Or.inl rfl) (pe_op op_add (pmethT thr_def (pv 0) CA.c_Stairs CA.mt_Stairs_number_of d_u25 hr (pa_cons (pv 1) pa_nil)) pe_int))
  (pss_cons (ps_set (i := 3) sc_u29.nd rfl (Or.inl rfl) (pmeth (pv 0) CA.c_Stairs CA.mt_Stairs_size_of d_u48 hr (pa_cons (pv 1) pa_nil)))
  (pss_cons (ps_if (pt_cmpR op_eq (pv 2) (pmeth (pv 0) CA.c_Stairs CA.mt_Stairs_unchecked_many d_u11 hr (pa_cons (pv 3) pa_nil)) (nomark _)) (pss_one (ps_ret pe_non)) pss_nil)
  (pss_one (ps_ret (pmeth (pv 0) CA.c_Stairs CA.mt_Stairs_unchecked_thing d_u7 hr (pa_cons (pv 3) (pa_cons (pv 2) pa_nil))))))), ?_⟩
 rcases q with ⟨t, th, h40, q0, q1⟩ | ⟨bad, q⟩
 ·refine ⟨_, rfl, x, dx, fs, rfl, hx, fl.no "number_of" (by decide) (by decide), _, rfl, x, dx, fs, wd, v, rfl, hx, fl, .inl ⟨t, th, h40, fun H1 s1 => ⟨_, _, rfl, rfl, ?_⟩⟩⟩
  refine ⟨_, rfl, x, dx, fs, rfl, s1 _ _ hx, fl.no "size_of" (by decide) (by decide), _, rfl, x, v, t, rfl, th.same s1, h40, fun H2 s2 => ?_⟩
  have s12 := s1.trans s2
  refine ⟨_, rfl, _, rfl, x, dx, fs, rfl, s12 _ _ hx, fl.no "unchecked_many" (by decide) (by decide), _, rfl, x, (t.size : Int), rfl, by omega, by omega, ?_⟩
  rw [Int.toNat_natCast, ← sh_cR (by omega)]
  refine ⟨rfl, _, rfl, ?_⟩
  have b1 := bnum_low t
  have b2 := bnum_lt t
  by_cases e : bnum t + 1 = sh t.size
  ·exact iteP (congrArg V.int e) (q0 _ s12 e)
  ·refine iteN (fun z => e (by injection z)) ?_
   obtain ⟨t', es, eb⟩ := bnum_all t.size (bnum t + 1) (by omega) (by omega)
   try dsimp only
   rw [← eb, ← es]
   exact ⟨_, rfl, x, dx, fs, rfl, s12 _ _ hx, fl.no "unchecked_thing" (by decide) (by decide), _, rfl, _, rfl, x, dx, fs, wd, t', rfl, s12 _ _ hx, fl, by omega, fun g H3 s3 nw tg => q1 t' g H3 (s12.trans s3) (nw.back s12) es eb tg⟩
 ·exact ⟨_, rfl, x, dx, fs, rfl, hx, fl.no "number_of" (by decide) (by decide), _, rfl, x, dx, fs, wd, v, rfl, hx, fl, .inr ⟨bad, q⟩⟩
theorem ok_u32 {er : Errs} (EO : ErrOk K mg er) {ca : ClA} (CA : ClOk K mg ca) {fd : FuncData} (F : Fun K "next_of" "Family.next_of" s_u32 ca.f_u32 fd) {fd0 : FuncData} (d_u28 : MDef P w K mg base ["self", "thing"] 45 (sp_u28 K ca er) ca.f_u28 fd0) {fd1 : FuncData} (d_u51 : MDef P w K mg base ["self", "thing"] 1 (sp_u51 K ca) ca.f_u51 fd1) {fd2 : FuncData} (d_u13 : MDef P w K mg base ["self", "size"] 2 (sp_u13 K ca) ca.f_u13 fd2) {fd3 : FuncData} (d_u12 : MDef P w K mg base ["self", "size", "number"] 44 (sp_u12 K ca) ca.f_u12 fd3) : FnOk P w K mg base (CX1 P w) 46 ca.f_u32 fd ["self", "thing"] (sp_u32 K ca er) := by
 refine F.okE sc_u32 (fun vs H Q E h => ?_) (fun cdv A outer s H vs Q E hr h => ?_)
 ·obtain ⟨x, dx, fs, wd, v, rfl, hx, fl, q⟩ := h
  rfl
 obtain ⟨x, dx, fs, wd, v, rfl, hx, fl, q⟩ := h
 refine ⟨_, pss_cons (ps_set (i := 2) sc_u32.nd rfl (Or.inl rfl) (pe_op op_add (pmethT thr_def (pv 0) CA.c_Twins CA.mt_Twins_number_of d_u28 hr (pa_cons (pv 1) pa_nil)) pe_int))
  (pss_cons (ps_set (i := 3) sc_u32.nd rfl (Or.inl rfl) (pmeth (pv 0) CA.c_Twins CA.mt_Twins_size_of d_u51 hr (pa_cons (pv 1) pa_nil)))
  (pss_cons (ps_if (pt_cmpR op_eq (pv 2) (pmeth (pv 0) CA.c_Twins CA.mt_Twins_unchecked_many d_u13 hr (pa_cons (pv 3) pa_nil)) (nomark _)) (pss_one (ps_ret pe_non)) pss_nil)
  (pss_one (ps_ret (pmeth (pv 0) CA.c_Twins CA.mt_Twins_unchecked_thing d_u12 hr (pa_cons (pv 3) (pa_cons (pv 2) pa_nil))))))), ?_⟩
 rcases q with ⟨t, th, h40, q0, q1⟩ | ⟨bad, q⟩
 ·refine ⟨_, rfl, x, dx, fs, rfl, hx, fl.no "number_of" (by decide) (by decide), _, rfl, x, dx, fs, wd, v, rfl, hx, fl, .inl ⟨t, th, h40, fun H1 s1 => ⟨_, _, rfl, rfl, ?_⟩⟩⟩
  refine ⟨_, rfl, x, dx, fs, rfl, s1 _ _ hx, fl.no "size_of" (by decide) (by decide), _, rfl, x, v, t, rfl, th.same s1, h40, fun H2 s2 => ?_⟩
  have s12 := s1.trans s2
  refine ⟨_, rfl, _, rfl, x, dx, fs, rfl, s12 _ _ hx, fl.no "unchecked_many" (by decide) (by decide), _, rfl, x, (t.size : Int), rfl, by omega, by omega, ?_⟩
  rw [Int.toNat_natCast, ← sh_cR (by omega)]
  refine ⟨rfl, _, rfl, ?_⟩
  have b1 := bnum_low t
  have b2 := bnum_lt t
  by_cases e : bnum t + 1 = sh t.size
  ·exact iteP (congrArg V.int e) (q0 _ s12 e)
  ·refine iteN (fun z => e (by injection z)) ?_
   obtain ⟨t', es, eb⟩ := bnum_all t.size (bnum t + 1) (by omega) (by omega)
   try dsimp only
   rw [← eb, ← es]
   exact ⟨_, rfl, x, dx, fs, rfl, s12 _ _ hx, fl.no "unchecked_thing" (by decide) (by decide), _, rfl, _, rfl, x, dx, fs, wd, t', rfl, s12 _ _ hx, fl, by omega, fun g H3 s3 nw tg => q1 t' g H3 (s12.trans s3) (nw.back s12) es eb tg⟩
 ·exact ⟨_, rfl, x, dx, fs, rfl, hx, fl.no "number_of" (by decide) (by decide), _, rfl, x, dx, fs, wd, v, rfl, hx, fl, .inr ⟨bad, q⟩⟩
theorem ok_u74 {er : Errs} (EO : ErrOk K mg er) {ca : ClA} (CA : ClOk K mg ca) {f : Addr} {fd : FuncData} (F : Fun K "_law_told" "_law_told" s_u74 f fd) {f0 : Addr} {fd0 : FuncData} (d_u78 : Def P w K mg base "_law_kin" ["_law_way"] 7 (sp_u78 K ca) f0 fd0) {f1 : Addr} {fd1 : FuncData} (d_u69 : Def P w K mg base "_law_small" ["_law_kin_here", "_law_way", "_law_far"] 47 (sp_u69 K ca) f1 fd1) {fd2 : FuncData} (d_u33 : MDef P w K mg base ["self", "size"] 3 (sp_u33 K ca er) ca.f_u33 fd2) {fd3 : FuncData} (d_u35 : MDef P w K mg base ["self", "size"] 3 (sp_u35 K ca er) ca.f_u35 fd3) {fd4 : FuncData} (d_u38 : MDef P w K mg base ["self", "size"] 3 (sp_u38 K ca er) ca.f_u38 fd4) {f5 : Addr} {fd5 : FuncData} (d_u72 : Def P w K mg base "_law_whole" ["_law_found"] 1 (sp_u72 K ca) f5 fd5) {f6 : Addr} {fd6 : FuncData} (d_u71 : Def P w K mg base "_law_share" ["_law_size"] 1 (sp_u71 K ca) f6 fd6) {fd7 : FuncData} (d_u23 : MDef P w K mg base ["self", "size", "number"] 45 (sp_u23 K ca er) ca.f_u23 fd7) {fd8 : FuncData} (d_u26 : MDef P w K mg base ["self", "size", "number"] 46 (sp_u26 K ca er) ca.f_u26 fd8) {fd9 : FuncData} (d_u30 : MDef P w K mg base ["self", "size", "number"] 45 (sp_u30 K ca er) ca.f_u30 fd9) {f10 : Addr} {fd10 : FuncData} (d_u77 : Def P w K mg base "_law_one" ["_law_way", "_law_thing", "_law_size"] 43 (sp_u77 K ca) f10 fd10) {fd11 : FuncData} (d_u20 : MDef P w K mg base ["self", "thing"] 46 (sp_u20 K ca er) ca.f_u20 fd11) {fd12 : FuncData} (d_u25 : MDef P w K mg base ["self", "thing"] 46 (sp_u25 K ca er) ca.f_u25 fd12) {fd13 : FuncData} (d_u28 : MDef P w K mg base ["self", "thing"] 45 (sp_u28 K ca er) ca.f_u28 fd13) {f14 : Addr} {fd14 : FuncData} (d_u76 : Def P w K mg base "_law_copy" ["_law_way", "_law_thing"] 1 (sp_u76 K ca) f14 fd14) {fd15 : FuncData} (d_u24 : MDef P w K mg base ["self", "thing"] 47 (sp_u24 K ca er) ca.f_u24 fd15) {fd16 : FuncData} (d_u29 : MDef P w K mg base ["self", "thing"] 47 (sp_u29 K ca er) ca.f_u29 fd16) {fd17 : FuncData} (d_u32 : MDef P w K mg base ["self", "thing"] 46 (sp_u32 K ca er) ca.f_u32 fd17) (m_isinstance : mg "isinstance" = none) : FnOk P w K mg base CX0 48 f fd ["_law_way", "_law_size", "_law_number"] (sp_u74 K ca) := by
 refine F.ok sc_u74 (fun vs H Q E h => ?_) (fun cdv A outer s H vs Q E hr h => ?_)
 ·obtain ⟨w, t, rfl, hw, h40, q⟩ := h
  rfl
 obtain ⟨w, t, rfl, hw, h40, q⟩ := h
 refine ⟨_, pss_cons (ps_set (i := 3) sc_u74.nd rfl (Or.inl rfl) (pcall d_u78 hr (pa_cons (pv 0) pa_nil)))
  (pss_cut (ps_if (PW.pt (pw_and (pt_cmpR op_eq (pe_op op_mod (pv 2) pe_int) pe_int (nomark _)) (pw_and1 (pt_not (pt_val (pcall d_u69 hr (pa_cons (pv 3) (pa_cons (pv 0) (pa_cons (pv 2) pa_nil))))))))) (pss_one (ps_ret pe_bl)) pss_nil)
  (pss_cons (ps_set (i := 4) sc_u74.nd rfl (Or.inl rfl) (pe_eit (pmeth (pv 3) CA.c_Brackets CA.mt_Brackets_many d_u33 hr (pa_cons (pv 1) pa_nil)) (pe_eit (pmeth (pv 3) CA.c_Stairs CA.mt_Stairs_many d_u35 hr (pa_cons (pv 1) pa_nil)) (pmeth (pv 3) CA.c_Twins CA.mt_Twins_many d_u38 hr (pa_cons (pv 1) pa_nil)))))
  (pss_cons (ps_if (PW.pt (pw_or (pt_not (pt_val (pe_callB call_isinst rfl m_isinstance bb_isinstance (pa_cons (pv 3) (pa_cons (pe_glob (v := .ref ca.C_Family) rfl CA.m_Family rfl) pa_nil))))) (pw_or (pt_not (pt_val (pcall d_u72 hr (pa_cons (pv 4) pa_nil)))) (pw_or1 (pt_cmpR op_ne (pv 4) (pcall d_u71 hr (pa_cons (pv 1) pa_nil)) (nomark _)))))) (pss_one (ps_ret pe_bl)) pss_nil)
  (pss_cons (ps_set (i := 5) sc_u74.nd rfl (Or.inl rfl) (pe_eit (pmeth (pv 3) CA.c_Brackets CA.mt_Brackets_thing_of d_u23 hr (pa_cons (pv 1) (pa_cons (pv 2) pa_nil))) (pe_eit (pmeth (pv 3) CA.c_Stairs CA.mt_Stairs_thing_of d_u26 hr (pa_cons (pv 1) (pa_cons (pv 2) pa_nil))) (pmeth (pv 3) CA.c_Twins CA.mt_Twins_thing_of d_u30 hr (pa_cons (pv 1) (pa_cons (pv 2) pa_nil))))))
  (pss_cons (ps_if (PW.pt (pw_or (pt_not (pt_val (pcall d_u77 hr (pa_cons (pv 0) (pa_cons (pv 5) (pa_cons (pv 1) pa_nil)))))) (pw_or1 (pt_cmpR op_ne (pe_eit (pmeth (pv 3) CA.c_Brackets CA.mt_Brackets_number_of d_u20 hr (pa_cons (pv 5) pa_nil)) (pe_eit (pmeth (pv 3) CA.c_Stairs CA.mt_Stairs_number_of d_u25 hr (pa_cons (pv 5) pa_nil)) (pmeth (pv 3) CA.c_Twins CA.mt_Twins_number_of d_u28 hr (pa_cons (pv 5) pa_nil)))) (pv 2) (nomark _))))) (pss_one (ps_ret pe_bl)) pss_nil)
  (pss_cons (ps_set (i := 6) sc_u74.nd rfl (Or.inl rfl) (pcall d_u76 hr (pa_cons (pv 0) (pa_cons (pv 5) pa_nil))))
  (pss_cons (ps_set (i := 7) sc_u74.nd rfl (Or.inl rfl) (pe_eit (pmeth (pv 3) CA.c_Brackets CA.mt_Brackets_next_of d_u24 hr (pa_cons (pv 5) pa_nil)) (pe_eit (pmeth (pv 3) CA.c_Stairs CA.mt_Stairs_next_of d_u29 hr (pa_cons (pv 5) pa_nil)) (pmeth (pv 3) CA.c_Twins CA.mt_Twins_next_of d_u32 hr (pa_cons (pv 5) pa_nil)))))
  (pss_cons (ps_if (PW.pt (pw_or (pt_cmpR (op_ne.or ((op_neD (hu100 hr)).or (op_neS (hu100 hr)))) (pv 5) (pv 6) (nomark _)) (pw_or1 (pt_not (pt_val (pcall d_u69 hr (pa_cons (pv 3) (pa_cons (pv 0) (pa_cons (pe_op op_fdivL (pv 2) pe_int) pa_nil))))))))) (pss_one (ps_ret pe_bl)) pss_nil)
  (pss_cons (ps_if (pt_cmpR op_eq (pv 2) (pe_op op_sub (pv 4) pe_int) (nomark _)) (pss_one (ps_ret (pe_cmpR op_isN (pv 7) pe_non (nomark _)))) pss_nil)
  (pss_cons (ps_if (PW.pt (pw_or (pt_not (pt_val (pcall d_u77 hr (pa_cons (pv 0) (pa_cons (pv 7) (pa_cons (pv 1) pa_nil)))))) (pw_or (pt_cmpR op_ne (pe_eit (pmeth (pv 3) CA.c_Brackets CA.mt_Brackets_number_of d_u20 hr (pa_cons (pv 7) pa_nil)) (pe_eit (pmeth (pv 3) CA.c_Stairs CA.mt_Stairs_number_of d_u25 hr (pa_cons (pv 7) pa_nil)) (pmeth (pv 3) CA.c_Twins CA.mt_Twins_number_of d_u28 hr (pa_cons (pv 7) pa_nil)))) (pe_op op_add (pv 2) pe_int) (nomark _)) (pw_or1 (pt_cmpR (op_ne.or ((op_neD (hu100 hr)).or (op_neS (hu100 hr)))) (pv 5) (pv 6) (nomark _)))))) (pss_one (ps_ret pe_bl)) pss_nil)
  (pss_cons (ps_if (pt_cmpR op_eq (pv 0) pe_int (nomark _)) (pss_cons (ps_expr (pe_bm0 PySem.F.plainAttrs_list PySem.F.slot_list_clear PySem.F.type_list_clear mt_clear (pv 7)))
  (pss_one (ps_expr (pe_bm PySem.F.plainAttrs_list PySem.F.slot_list_append PySem.F.type_list_append mt_append (pv 5) (pa_cons pe_int pa_nil))))) pss_nil)
  (pss_one (ps_ret (pe_and (pe_cmpR (op_eq.or (op_eqD (hu100 hr))) (pe_eit (pmeth (pv 3) CA.c_Brackets CA.mt_Brackets_thing_of d_u23 hr (pa_cons (pv 1) (pa_cons (pv 2) pa_nil))) (pe_eit (pmeth (pv 3) CA.c_Stairs CA.mt_Stairs_thing_of d_u26 hr (pa_cons (pv 1) (pa_cons (pv 2) pa_nil))) (pmeth (pv 3) CA.c_Twins CA.mt_Twins_thing_of d_u30 hr (pa_cons (pv 1) (pa_cons (pv 2) pa_nil))))) (pv 6) (nomark _)) (pe_one (pe_cmpR (op_eq.or (op_eqD (hu100 hr))) (pe_eit (pmeth (pv 3) CA.c_Brackets CA.mt_Brackets_next_of d_u24 hr (pa_cons (pv 6) pa_nil)) (pe_eit (pmeth (pv 3) CA.c_Stairs CA.mt_Stairs_next_of d_u29 hr (pa_cons (pv 6) pa_nil)) (pmeth (pv 3) CA.c_Twins CA.mt_Twins_next_of d_u32 hr (pa_cons (pv 6) pa_nil)))) (pe_eit (pmeth (pv 3) CA.c_Brackets CA.mt_Brackets_thing_of d_u23 hr (pa_cons (pv 1) (pa_cons (pe_op op_add (pv 2) pe_int) pa_nil))) (pe_eit (pmeth (pv 3) CA.c_Stairs CA.mt_Stairs_thing_of d_u26 hr (pa_cons (pv 1) (pa_cons (pe_op op_add (pv 2) pe_int) pa_nil))) (pmeth (pv 3) CA.c_Twins CA.mt_Twins_thing_of d_u30 hr (pa_cons (pv 1) (pa_cons (pe_op op_add (pv 2) pe_int) pa_nil))))) (nomark _))))))))))))))))), ?_⟩
 have b1 := bnum_low t
 have b2 := bnum_lt t
 have ecR : cR t.size = sh t.size := (sh_cR (by omega)).symm
 refine ⟨_, rfl, w, rfl, hw, fun x dx fs wd H1 s1 k0 k1 k2 fl => ?_⟩
 have kn1 : Kn ca H1 x dx fs w := ⟨k0, k1, k2⟩
 refine ⟨fun σ H' => ∃ (o1 o2 o3 o4 : Option V), σ = [some (.int (w : Int)), some (.int (t.size : Int)), some (.int (bnum t)), some (.ref x), o1, o2, o3, o4] ∧ Same H1 H', ?_, ?_⟩
 ·exact ⟨_, rfl, _, _, rfl, rfl, pm (by decide), rfl, _, rfl, ite2 (fun _ => ⟨_, rfl, _, rfl, _, rfl, x, dx, fs, wd, w, bnum t, rfl, hw, kn1, fl, fun H2 s2 => ⟨_, rfl, iteF ⟨_, _, _, _, rfl, s2⟩⟩⟩) (fun _ => iteF ⟨_, _, _, _, rfl, Same.refl H1⟩)⟩
 rintro σ H2 ⟨o1, o2, o3, o4, rfl, s2⟩
 have kn := kn1.same s2
 clear kn1 k0 k1 k2
 rcases (by omega : w = 0 ∨ w = 1 ∨ w = 2) with rfl | rfl | rfl
 ·have hx := kn.1 rfl
  refine (.inl ⟨_, rfl, x, dx, fs, rfl, hx, fl.no "many" (by decide) (by decide), _, rfl, x, dx, fs, wd, (t.size : Int), rfl, hx, fl, .inr ⟨by omega, by omega, ?_⟩⟩)
  rw [Int.toNat_natCast]
  refine ⟨_, rfl, _, _, _, _, _, rfl, relRef, CA.in_Brackets.ty hx, CA.kit_Brackets_Family, _, rfl, iteF ⟨_, rfl, _, rfl, _, rfl, iteF ⟨_, rfl, _, rfl, _, rfl, by omega, by omega, ?_⟩⟩⟩
  rw [Int.toNat_natCast]
  refine ⟨rfl, _, rfl, iteNS rfl ?_⟩
  refine (.inl ⟨_, rfl, x, dx, fs, rfl, hx, fl.no "thing_of" (by decide) (by decide), _, rfl, _, rfl, x, dx, fs, wd, _, _, rfl, hx, fl, .inr (.inr ⟨t, rfl, rfl, h40, fun v H3 s3 nw3 tv => ?_⟩)⟩)
  refine ⟨_, rfl, _, rfl, _, rfl, 0, v, t, rfl, by decide, tv, h40, fun H4 s4 => ⟨_, rfl, iteF ?_⟩⟩
  have s24 := s3.trans s4
  have tv4 := Th.same (w := 0) (t := t) tv s4
  refine (.inl ⟨_, rfl, x, dx, fs, rfl, s24 _ _ hx, fl.no "number_of" (by decide) (by decide), _, rfl, x, dx, fs, wd, v, rfl, s24 _ _ hx, fl, .inl ⟨t, tv4, h40, fun H5 s5 => ⟨_, rfl, rfl, _, rfl, iteNS rfl ?_⟩⟩⟩)
  have s25 := s24.trans s5
  have tv5 := Th.same (w := 0) (t := t) tv4 s5
  refine ⟨_, rfl, _, rfl, 0, v, t, rfl, by decide, tv5, fun u H6 s6 kN kE tu6 => ?_⟩
  have s26 := s25.trans s6
  have hx6 := s26 _ _ hx
  have tv6 := Th.same (w := 0) (t := t) tv5 s6
  have kne : (0 : Nat) = 1 → ∀ p, v = .ref p → u ≠ .ref p := fun e p ev eu => Nw.ne (w := 0) (t := t) (kN e) tv5 eu ev
  refine (.inl ⟨_, rfl, x, dx, fs, rfl, hx6, fl.no "next_of" (by decide) (by decide), _, rfl, x, dx, fs, wd, v, rfl, hx6, fl, .inl ⟨t, tv6, h40, fun H7 s7 el => ?_, fun t' g H7 s7 nw7 es eb tg => ?_⟩⟩)
  ·have tv7 := Th.same (w := 0) (t := t) tv6 s7
   have tu7 := Th.same (w := 0) (t := t) tu6 s7
   have s27 := s26.trans s7
   refine ⟨_, rfl, _, rfl, same_ne (w := 0) (t := t) tv7 tu7 kne kE ⟨_, rfl, iteF ?_⟩⟩
   refine ⟨_, rfl, _, rfl, _, rfl, _, _, rfl, rfl, ⟨by decide, by decide +kernel⟩, x, dx, fs, wd, 0, _, rfl, by decide, (kn.same s27), fl, fun H8 s8 => ⟨_, rfl, iteF ?_⟩⟩
   refine ⟨_, rfl, _, rfl, _, _, rfl, rfl, rfl, _, rfl, iteP (congrArg V.int (by omega)) ⟨_, rfl, rfl, q _⟩⟩
  ·have tv7 := Th.same (w := 0) (t := t) tv6 s7
   have tu7 := Th.same (w := 0) (t := t) tu6 s7
   have s27 := s26.trans s7
   have b3 := bnum_lt t'
   rw [es] at b3
   refine ⟨_, rfl, _, rfl, same_ne (w := 0) (t := t) tv7 tu7 kne kE ⟨_, rfl, iteF ?_⟩⟩
   refine ⟨_, rfl, _, rfl, _, rfl, _, _, rfl, rfl, ⟨by decide, by decide +kernel⟩, x, dx, fs, wd, 0, _, rfl, by decide, (kn.same s27), fl, fun H8 s8 => ⟨_, rfl, iteF ?_⟩⟩
   have s28 := s27.trans s8
   have tg8 := Th.same (w := 0) (t := t') tg s8
   refine ⟨_, rfl, _, rfl, _, _, rfl, rfl, rfl, _, rfl, iteN (fun z => by injection z with z; omega) ?_⟩
   refine ⟨_, rfl, _, rfl, _, rfl, 0, g, t', (by rw [es] <;> rfl), by decide, tg8, by omega, fun H9 s9 => ⟨_, rfl, iteF ?_⟩⟩
   have s29 := s28.trans s9
   have tg9 := Th.same (w := 0) (t := t') tg8 s9
   refine (.inl ⟨_, rfl, x, dx, fs, rfl, s29 _ _ hx, fl.no "number_of" (by decide) (by decide), _, rfl, x, dx, fs, wd, g, rfl, s29 _ _ hx, fl, .inl ⟨t', tg9, by omega, fun HA sA => ⟨_, rfl, _, _, rfl, rfl, rfl, _, rfl, iteNS (congrArg V.int eb) ?_⟩⟩⟩)
   have hxA := (s29.trans sA) _ _ hx
   have s7A := (s8.trans s9).trans sA
   have tvA := Th.same (w := 0) (t := t) tv7 s7A
   have tuA := Th.same (w := 0) (t := t) tu7 s7A
   have tgA := Th.same (w := 0) (t := t') tg9 sA
   refine ⟨_, rfl, _, rfl, same_ne (w := 0) (t := t) tvA tuA kne kE ⟨_, rfl, iteF ?_⟩⟩
   have tuB := tuA
   have hxB := hxA
   refine ⟨_, rfl, rfl, _, rfl, iteN (by decide) ?_⟩
   refine (.inl ⟨_, rfl, x, dx, fs, rfl, hxB, fl.no "thing_of" (by decide) (by decide), _, rfl, _, rfl, x, dx, fs, wd, _, _, rfl, hxB, fl, .inr (.inr ⟨t, rfl, rfl, h40, fun v2 HC sC nwC tv2 => ⟨_, rfl, ?_⟩⟩)⟩)
   refine same_eq (w := 0) (t := t) tv2 (Th.same (w := 0) (t := t) tuB sC) h40 (fun p e => Nw.ne (w := 0) (t := t) nwC tuB e) ⟨_, rfl, iteT ?_⟩
   have tuC := Th.same (w := 0) (t := t) tuB sC
   refine (.inl ⟨_, rfl, x, dx, fs, rfl, sC _ _ hxB, fl.no "next_of" (by decide) (by decide), _, rfl, x, dx, fs, wd, u, rfl, sC _ _ hxB, fl, .inl ⟨t, tuC, h40, (fun HD sD el => by omega), fun t2 g2 HD sD nwD es2 eb2 tg2 => ?_⟩⟩)
   have hxD := (sC.trans sD) _ _ hxB
   refine (.inl ⟨_, rfl, x, dx, fs, rfl, hxD, fl.no "thing_of" (by decide) (by decide), _, rfl, _, rfl, _, _, rfl, rfl, x, dx, fs, wd, _, _, rfl, hxD, fl, .inr (.inr ⟨t2, (by rw [es2]), eb2.symm, by omega, fun v3 HE sE nwE tv3 => ?_⟩)⟩)
   exact same_eq (w := 0) (t := t2) (Th.same (w := 0) (t := t2) tg2 sE) tv3 (by omega) (fun p e e' => Nw.ne (w := 0) (t := t2) nwE tg2 e' e) (q _)
 ·have hx := kn.2.1 rfl
  refine (.inr (.inl ⟨_, rfl, x, dx, fs, rfl, hx, fl.no "many" (by decide) (by decide), _, rfl, x, dx, fs, wd, (t.size : Int), rfl, hx, fl, .inr ⟨by omega, by omega, ?_⟩⟩))
  rw [Int.toNat_natCast]
  refine ⟨_, rfl, _, _, _, _, _, rfl, relRef, CA.in_Stairs.ty hx, CA.kit_Stairs_Family, _, rfl, iteF ⟨_, rfl, _, rfl, _, rfl, iteF ⟨_, rfl, _, rfl, _, rfl, by omega, by omega, ?_⟩⟩⟩
  rw [Int.toNat_natCast]
  refine ⟨rfl, _, rfl, iteNS rfl ?_⟩
  refine (.inr (.inl ⟨_, rfl, x, dx, fs, rfl, hx, fl.no "thing_of" (by decide) (by decide), _, rfl, _, rfl, x, dx, fs, wd, _, _, rfl, hx, fl, .inr (.inr ⟨t, rfl, rfl, h40, fun v H3 s3 nw3 tv => ?_⟩)⟩))
  refine ⟨_, rfl, _, rfl, _, rfl, 1, v, t, rfl, by decide, tv, h40, fun H4 s4 => ⟨_, rfl, iteF ?_⟩⟩
  have s24 := s3.trans s4
  have tv4 := Th.same (w := 1) (t := t) tv s4
  refine (.inr (.inl ⟨_, rfl, x, dx, fs, rfl, s24 _ _ hx, fl.no "number_of" (by decide) (by decide), _, rfl, x, dx, fs, wd, v, rfl, s24 _ _ hx, fl, .inl ⟨t, tv4, h40, fun H5 s5 => ⟨_, rfl, rfl, _, rfl, iteNS rfl ?_⟩⟩⟩))
  have s25 := s24.trans s5
  have tv5 := Th.same (w := 1) (t := t) tv4 s5
  refine ⟨_, rfl, _, rfl, 1, v, t, rfl, by decide, tv5, fun u H6 s6 kN kE tu6 => ?_⟩
  have s26 := s25.trans s6
  have hx6 := s26 _ _ hx
  have tv6 := Th.same (w := 1) (t := t) tv5 s6
  have kne : (1 : Nat) = 1 → ∀ p, v = .ref p → u ≠ .ref p := fun e p ev eu => Nw.ne (w := 1) (t := t) (kN e) tv5 eu ev
  refine (.inr (.inl ⟨_, rfl, x, dx, fs, rfl, hx6, fl.no "next_of" (by decide) (by decide), _, rfl, x, dx, fs, wd, v, rfl, hx6, fl, .inl ⟨t, tv6, h40, fun H7 s7 el => ?_, fun t' g H7 s7 nw7 es eb tg => ?_⟩⟩))
  ·have tv7 := Th.same (w := 1) (t := t) tv6 s7
   have tu7 := Th.same (w := 1) (t := t) tu6 s7
   have s27 := s26.trans s7
   refine ⟨_, rfl, _, rfl, same_ne (w := 1) (t := t) tv7 tu7 kne kE ⟨_, rfl, iteF ?_⟩⟩
   refine ⟨_, rfl, _, rfl, _, rfl, _, _, rfl, rfl, ⟨by decide, by decide +kernel⟩, x, dx, fs, wd, 1, _, rfl, by decide, (kn.same s27), fl, fun H8 s8 => ⟨_, rfl, iteF ?_⟩⟩
   refine ⟨_, rfl, _, rfl, _, _, rfl, rfl, rfl, _, rfl, iteP (congrArg V.int (by omega)) ⟨_, rfl, rfl, q _⟩⟩
  ·have tv7 := Th.same (w := 1) (t := t) tv6 s7
   have tu7 := Th.same (w := 1) (t := t) tu6 s7
   have s27 := s26.trans s7
   have b3 := bnum_lt t'
   rw [es] at b3
   refine ⟨_, rfl, _, rfl, same_ne (w := 1) (t := t) tv7 tu7 kne kE ⟨_, rfl, iteF ?_⟩⟩
   refine ⟨_, rfl, _, rfl, _, rfl, _, _, rfl, rfl, ⟨by decide, by decide +kernel⟩, x, dx, fs, wd, 1, _, rfl, by decide, (kn.same s27), fl, fun H8 s8 => ⟨_, rfl, iteF ?_⟩⟩
   have s28 := s27.trans s8
   have tg8 := Th.same (w := 1) (t := t') tg s8
   refine ⟨_, rfl, _, rfl, _, _, rfl, rfl, rfl, _, rfl, iteN (fun z => by injection z with z; omega) ?_⟩
   refine ⟨_, rfl, _, rfl, _, rfl, 1, g, t', (by rw [es] <;> rfl), by decide, tg8, by omega, fun H9 s9 => ⟨_, rfl, iteF ?_⟩⟩
   have s29 := s28.trans s9
   have tg9 := Th.same (w := 1) (t := t') tg8 s9
   refine (.inr (.inl ⟨_, rfl, x, dx, fs, rfl, s29 _ _ hx, fl.no "number_of" (by decide) (by decide), _, rfl, x, dx, fs, wd, g, rfl, s29 _ _ hx, fl, .inl ⟨t', tg9, by omega, fun HA sA => ⟨_, rfl, _, _, rfl, rfl, rfl, _, rfl, iteNS (congrArg V.int eb) ?_⟩⟩⟩))
   have hxA := (s29.trans sA) _ _ hx
   have s7A := (s8.trans s9).trans sA
   have tvA := Th.same (w := 1) (t := t) tv7 s7A
   have tuA := Th.same (w := 1) (t := t) tu7 s7A
   have tgA := Th.same (w := 1) (t := t') tg9 sA
   refine ⟨_, rfl, _, rfl, same_ne (w := 1) (t := t) tvA tuA kne kE ⟨_, rfl, iteF ?_⟩⟩
   obtain ⟨pg, rfl, hg⟩ := tgA
   obtain ⟨pv, rfl, hv⟩ := tvA
   have n1 : pv ≠ pg := fun z => Nw.ne (w := 1) (t := t) nw7 tv6 rfl (by rw [z])
   have hgA : HA pg = some (.lst ((stT t').map V.int)) := hg
   refine ⟨_, rfl, rfl, _, rfl, iteP rfl ⟨_, rfl, .inl ⟨rfl, _, SqL.of hg⟩, pg, _, rfl, rfl, hg, ?_⟩⟩
   have hv1 := (upd_ne (o := .lst []) n1).trans hv
   refine ⟨_, rfl, .inl ⟨rfl, _, SqL.of hv1⟩, pv, _, _, rfl, rfl, hv1, by rw [List.length_map, stT_len]; exact sz' (by omega), ?_⟩
   have tuB := Th.put (w := 1) (t := t) (o := .lst ((stT t).map V.int ++ [.int 0])) (Th.put (w := 1) (t := t) (o := .lst []) tuA hg (Nw.ne (w := 1) (t := t) nw7 tu6 rfl)) hv1 (fun e => kne rfl pv rfl e)
   have hxB : upd (upd HA pg (.lst [])) pv (.lst ((stT t).map V.int ++ [.int 0])) x = some (.ins ca.C_Stairs dx fs) := by
    have nx1 : x ≠ pg := fun z => by rw [z, hg] at hxA; cases hxA
    have nx2 : x ≠ pv := fun z => by rw [z, hv] at hxA; cases hxA
    exact (upd_ne nx2).trans ((upd_ne nx1).trans hxA)
   generalize upd (upd HA pg (.lst [])) pv (.lst ((stT t).map V.int ++ [.int 0])) = HB at tuB hxB ⊢
   refine (.inr (.inl ⟨_, rfl, x, dx, fs, rfl, hxB, fl.no "thing_of" (by decide) (by decide), _, rfl, _, rfl, x, dx, fs, wd, _, _, rfl, hxB, fl, .inr (.inr ⟨t, rfl, rfl, h40, fun v2 HC sC nwC tv2 => ⟨_, rfl, ?_⟩⟩)⟩))
   refine same_eq (w := 1) (t := t) tv2 (Th.same (w := 1) (t := t) tuB sC) h40 (fun p e => Nw.ne (w := 1) (t := t) nwC tuB e) ⟨_, rfl, iteT ?_⟩
   have tuC := Th.same (w := 1) (t := t) tuB sC
   refine (.inr (.inl ⟨_, rfl, x, dx, fs, rfl, sC _ _ hxB, fl.no "next_of" (by decide) (by decide), _, rfl, x, dx, fs, wd, u, rfl, sC _ _ hxB, fl, .inl ⟨t, tuC, h40, (fun HD sD el => by omega), fun t2 g2 HD sD nwD es2 eb2 tg2 => ?_⟩⟩))
   have hxD := (sC.trans sD) _ _ hxB
   refine (.inr (.inl ⟨_, rfl, x, dx, fs, rfl, hxD, fl.no "thing_of" (by decide) (by decide), _, rfl, _, rfl, _, _, rfl, rfl, x, dx, fs, wd, _, _, rfl, hxD, fl, .inr (.inr ⟨t2, (by rw [es2]), eb2.symm, by omega, fun v3 HE sE nwE tv3 => ?_⟩)⟩))
   exact same_eq (w := 1) (t := t2) (Th.same (w := 1) (t := t2) tg2 sE) tv3 (by omega) (fun p e e' => Nw.ne (w := 1) (t := t2) nwE tg2 e' e) (q _)
 ·have hx := kn.2.2 rfl
  refine (.inr (.inr ⟨_, rfl, x, dx, fs, rfl, hx, fl.no "many" (by decide) (by decide), _, rfl, x, dx, fs, wd, (t.size : Int), rfl, hx, fl, .inr ⟨by omega, by omega, ?_⟩⟩))
  rw [Int.toNat_natCast]
  refine ⟨_, rfl, _, _, _, _, _, rfl, relRef, CA.in_Twins.ty hx, CA.kit_Twins_Family, _, rfl, iteF ⟨_, rfl, _, rfl, _, rfl, iteF ⟨_, rfl, _, rfl, _, rfl, by omega, by omega, ?_⟩⟩⟩
  rw [Int.toNat_natCast]
  refine ⟨rfl, _, rfl, iteNS rfl ?_⟩
  refine (.inr (.inr ⟨_, rfl, x, dx, fs, rfl, hx, fl.no "thing_of" (by decide) (by decide), _, rfl, _, rfl, x, dx, fs, wd, _, _, rfl, hx, fl, .inr (.inr ⟨t, rfl, rfl, h40, fun v H3 s3 nw3 tv => ?_⟩)⟩))
  refine ⟨_, rfl, _, rfl, _, rfl, 2, v, t, rfl, by decide, tv, h40, fun H4 s4 => ⟨_, rfl, iteF ?_⟩⟩
  have s24 := s3.trans s4
  have tv4 := Th.same (w := 2) (t := t) tv s4
  refine (.inr (.inr ⟨_, rfl, x, dx, fs, rfl, s24 _ _ hx, fl.no "number_of" (by decide) (by decide), _, rfl, x, dx, fs, wd, v, rfl, s24 _ _ hx, fl, .inl ⟨t, tv4, h40, fun H5 s5 => ⟨_, rfl, rfl, _, rfl, iteNS rfl ?_⟩⟩⟩))
  have s25 := s24.trans s5
  have tv5 := Th.same (w := 2) (t := t) tv4 s5
  refine ⟨_, rfl, _, rfl, 2, v, t, rfl, by decide, tv5, fun u H6 s6 kN kE tu6 => ?_⟩
  have s26 := s25.trans s6
  have hx6 := s26 _ _ hx
  have tv6 := Th.same (w := 2) (t := t) tv5 s6
  have kne : (2 : Nat) = 1 → ∀ p, v = .ref p → u ≠ .ref p := fun e p ev eu => Nw.ne (w := 2) (t := t) (kN e) tv5 eu ev
  refine (.inr (.inr ⟨_, rfl, x, dx, fs, rfl, hx6, fl.no "next_of" (by decide) (by decide), _, rfl, x, dx, fs, wd, v, rfl, hx6, fl, .inl ⟨t, tv6, h40, fun H7 s7 el => ?_, fun t' g H7 s7 nw7 es eb tg => ?_⟩⟩))
  ·have tv7 := Th.same (w := 2) (t := t) tv6 s7
   have tu7 := Th.same (w := 2) (t := t) tu6 s7
   have s27 := s26.trans s7
   refine ⟨_, rfl, _, rfl, same_ne (w := 2) (t := t) tv7 tu7 kne kE ⟨_, rfl, iteF ?_⟩⟩
   refine ⟨_, rfl, _, rfl, _, rfl, _, _, rfl, rfl, ⟨by decide, by decide +kernel⟩, x, dx, fs, wd, 2, _, rfl, by decide, (kn.same s27), fl, fun H8 s8 => ⟨_, rfl, iteF ?_⟩⟩
   refine ⟨_, rfl, _, rfl, _, _, rfl, rfl, rfl, _, rfl, iteP (congrArg V.int (by omega)) ⟨_, rfl, rfl, q _⟩⟩
  ·have tv7 := Th.same (w := 2) (t := t) tv6 s7
   have tu7 := Th.same (w := 2) (t := t) tu6 s7
   have s27 := s26.trans s7
   have b3 := bnum_lt t'
   rw [es] at b3
   refine ⟨_, rfl, _, rfl, same_ne (w := 2) (t := t) tv7 tu7 kne kE ⟨_, rfl, iteF ?_⟩⟩
   refine ⟨_, rfl, _, rfl, _, rfl, _, _, rfl, rfl, ⟨by decide, by decide +kernel⟩, x, dx, fs, wd, 2, _, rfl, by decide, (kn.same s27), fl, fun H8 s8 => ⟨_, rfl, iteF ?_⟩⟩
   have s28 := s27.trans s8
   have tg8 := Th.same (w := 2) (t := t') tg s8
   refine ⟨_, rfl, _, rfl, _, _, rfl, rfl, rfl, _, rfl, iteN (fun z => by injection z with z; omega) ?_⟩
   refine ⟨_, rfl, _, rfl, _, rfl, 2, g, t', (by rw [es] <;> rfl), by decide, tg8, by omega, fun H9 s9 => ⟨_, rfl, iteF ?_⟩⟩
   have s29 := s28.trans s9
   have tg9 := Th.same (w := 2) (t := t') tg8 s9
   refine (.inr (.inr ⟨_, rfl, x, dx, fs, rfl, s29 _ _ hx, fl.no "number_of" (by decide) (by decide), _, rfl, x, dx, fs, wd, g, rfl, s29 _ _ hx, fl, .inl ⟨t', tg9, by omega, fun HA sA => ⟨_, rfl, _, _, rfl, rfl, rfl, _, rfl, iteNS (congrArg V.int eb) ?_⟩⟩⟩))
   have hxA := (s29.trans sA) _ _ hx
   have s7A := (s8.trans s9).trans sA
   have tvA := Th.same (w := 2) (t := t) tv7 s7A
   have tuA := Th.same (w := 2) (t := t) tu7 s7A
   have tgA := Th.same (w := 2) (t := t') tg9 sA
   refine ⟨_, rfl, _, rfl, same_ne (w := 2) (t := t) tvA tuA kne kE ⟨_, rfl, iteF ?_⟩⟩
   have tuB := tuA
   have hxB := hxA
   refine ⟨_, rfl, rfl, _, rfl, iteN (by decide) ?_⟩
   refine (.inr (.inr ⟨_, rfl, x, dx, fs, rfl, hxB, fl.no "thing_of" (by decide) (by decide), _, rfl, _, rfl, x, dx, fs, wd, _, _, rfl, hxB, fl, .inr (.inr ⟨t, rfl, rfl, h40, fun v2 HC sC nwC tv2 => ⟨_, rfl, ?_⟩⟩)⟩))
   refine same_eq (w := 2) (t := t) tv2 (Th.same (w := 2) (t := t) tuB sC) h40 (fun p e => Nw.ne (w := 2) (t := t) nwC tuB e) ⟨_, rfl, iteT ?_⟩
   have tuC := Th.same (w := 2) (t := t) tuB sC
   refine (.inr (.inr ⟨_, rfl, x, dx, fs, rfl, sC _ _ hxB, fl.no "next_of" (by decide) (by decide), _, rfl, x, dx, fs, wd, u, rfl, sC _ _ hxB, fl, .inl ⟨t, tuC, h40, (fun HD sD el => by omega), fun t2 g2 HD sD nwD es2 eb2 tg2 => ?_⟩⟩))
   have hxD := (sC.trans sD) _ _ hxB
   refine (.inr (.inr ⟨_, rfl, x, dx, fs, rfl, hxD, fl.no "thing_of" (by decide) (by decide), _, rfl, _, rfl, _, _, rfl, rfl, x, dx, fs, wd, _, _, rfl, hxD, fl, .inr (.inr ⟨t2, (by rw [es2]), eb2.symm, by omega, fun v3 HE sE nwE tv3 => ?_⟩)⟩))
   exact same_eq (w := 2) (t := t2) (Th.same (w := 2) (t := t2) tg2 sE) tv3 (by omega) (fun p e e' => Nw.ne (w := 2) (t := t2) nwE tg2 e' e) (q _)
theorem ok_u63 {er : Errs} (EO : ErrOk K mg er) {ca : ClA} (CA : ClOk K mg ca) {f : Addr} {fd : FuncData} (F : Fun K "_law_classes" "_law_classes" s_u63 f fd) (m_isinstance : mg "isinstance" = none) (m_ValueError : mg "ValueError" = none) : FnOk P w K mg base CX0 1 f fd ["_law_error"] (sp_u63 K ca er) := by
 refine F.ok sc_u63 (fun vs H Q E h => ?_) (fun cdv A outer s H vs Q E hr h => ?_)
 ·obtain ⟨e, c, t, rfl, he, ht, q⟩ := h
  rfl
 obtain ⟨e, c, t, rfl, he, ht, q⟩ := h
 refine ⟨_, pss_cons (ps_set (i := 1) sc_u63.nd rfl (Or.inl rfl) (pe_lst pa_nil))
  (pss_cons (ps_if (pt_val (pe_callB (call_isinstX) rfl m_isinstance bb_isinstance (pa_cons (pv 0) (pa_cons (pe_glob (v := .ref er.size) rfl EO.m_size rfl) pa_nil)))) (pss_one (ps_expr (pe_bm PySem.F.plainAttrs_list PySem.F.slot_list_append PySem.F.type_list_append mt_append (pv 1) (pa_cons pe_str pa_nil)))) pss_nil)
  (pss_cons (ps_if (pt_val (pe_callB (call_isinstX) rfl m_isinstance bb_isinstance (pa_cons (pv 0) (pa_cons (pe_glob (v := .ref er.number) rfl EO.m_number rfl) pa_nil)))) (pss_one (ps_expr (pe_bm PySem.F.plainAttrs_list PySem.F.slot_list_append PySem.F.type_list_append mt_append (pv 1) (pa_cons pe_str pa_nil)))) pss_nil)
  (pss_cons (ps_if (pt_val (pe_callB (call_isinstX) rfl m_isinstance bb_isinstance (pa_cons (pv 0) (pa_cons (pe_glob (v := .ref er.thing) rfl EO.m_thing rfl) pa_nil)))) (pss_one (ps_expr (pe_bm PySem.F.plainAttrs_list PySem.F.slot_list_append PySem.F.type_list_append mt_append (pv 1) (pa_cons pe_str pa_nil)))) pss_nil)
  (pss_cons (ps_if (PW.pt (pw_or (pt_val (pe_callB (call_isinstX) rfl m_isinstance bb_isinstance (pa_cons (pv 0) (pa_cons (pe_glob (v := .ref er.family) rfl EO.m_family rfl) pa_nil)))) (pw_or (pt_val (pe_callB (call_isinstX) rfl m_isinstance bb_isinstance (pa_cons (pv 0) (pa_cons (pe_glob (v := .ref er.way) rfl EO.m_way rfl) pa_nil)))) (pw_or1 (pt_val (pe_callB (call_isinstX) rfl m_isinstance bb_isinstance (pa_cons (pv 0) (pa_cons (pe_glob (v := .ref er.apart) rfl EO.m_apart rfl) pa_nil)))))))) (pss_one (ps_expr (pe_bm PySem.F.plainAttrs_list PySem.F.slot_list_append PySem.F.type_list_append mt_append (pv 1) (pa_cons pe_str pa_nil)))) pss_nil)
  (pss_cons (ps_if (PW.pt (pw_or (pt_val (pe_callB (call_isinstX) rfl m_isinstance bb_isinstance (pa_cons (pv 0) (pa_cons (pe_glob (v := .ref er.mark) rfl EO.m_mark rfl) pa_nil)))) (pw_or (pt_val (pe_callB (call_isinstX) rfl m_isinstance bb_isinstance (pa_cons (pv 0) (pa_cons (pe_glob (v := .ref er.text) rfl EO.m_text rfl) pa_nil)))) (pw_or1 (pt_val (pe_callB (call_isinstX) rfl m_isinstance bb_isinstance (pa_cons (pv 0) (pa_cons (pe_glob (v := .ref er.broken) rfl EO.m_broken rfl) pa_nil)))))))) (pss_one (ps_expr (pe_bm PySem.F.plainAttrs_list PySem.F.slot_list_append PySem.F.type_list_append mt_append (pv 1) (pa_cons pe_str pa_nil)))) pss_nil)
  (pss_cons (ps_if (pt_not (pt_val (pe_callB (call_isinstX) rfl m_isinstance bb_isinstance (pa_cons (pv 0) (pa_cons (pe_bltn (v := .ty "ValueError") rfl m_ValueError bb_ValueError rfl) pa_nil))))) (pss_one (ps_expr (pe_bm PySem.F.plainAttrs_list PySem.F.slot_list_append PySem.F.type_list_append mt_append (pv 1) (pa_cons pe_str pa_nil)))) pss_nil)
  (pss_one (ps_ret (pv 1))))))))), ?_⟩
 refine ⟨Nat.zero_le _, fun p hp => ?_⟩
 have s1 := Same.new (Same.refl H) hp (.lst [])
 have he1 : upd H p (.lst []) e = some (excO e (.ref c)) := s1 _ _ he
 have nep : e ≠ p := ne_of_none he hp
 have he2 : ∀ o, upd (upd H p (.lst [])) p o e = some (excO e (.ref c)) := fun o => (upd_ne nep).trans he1
 have s2 : ∀ o, Same H (upd (upd H p (.lst [])) p o) := fun o => s1.upd hp o
 have l0 : ([] : List V).length < sizeLine := sz' (n := 0) (by decide)
 rcases ht with ⟨rfl, rfl⟩ | ⟨rfl, rfl⟩ | ⟨rfl, rfl⟩
 ·refine ⟨_, rfl, e, _, _, _, _, rfl, relRef, he1, EO.k_size, EO.size_size, _, rfl, iteT ⟨_, rfl, .inl ⟨rfl, _, SqL.of upd_same⟩, p, _, _, rfl, rfl, upd_same, l0, ?_⟩⟩
  refine ⟨_, rfl, e, _, _, _, _, rfl, relRef, he2 _, EO.k_size, EO.size_number, _, rfl, iteF ?_⟩
  refine ⟨_, rfl, e, _, _, _, _, rfl, relRef, he2 _, EO.k_size, EO.size_thing, _, rfl, iteF ?_⟩
  refine ⟨_, rfl, e, _, _, _, _, rfl, relRef, he2 _, EO.k_size, EO.size_family, _, rfl, iteF ⟨_, rfl, e, _, _, _, _, rfl, relRef, he2 _, EO.k_size, EO.size_way, _, rfl, iteF ⟨_, rfl, e, _, _, _, _, rfl, relRef, he2 _, EO.k_size, EO.size_apart, _, rfl, iteF ?_⟩⟩⟩
  refine ⟨_, rfl, e, _, _, _, _, rfl, relRef, he2 _, EO.k_size, EO.size_mark, _, rfl, iteF ⟨_, rfl, e, _, _, _, _, rfl, relRef, he2 _, EO.k_size, EO.size_text, _, rfl, iteF ⟨_, rfl, e, _, _, _, _, rfl, relRef, he2 _, EO.k_size, EO.size_broken, _, rfl, iteF ?_⟩⟩⟩
  refine ⟨_, rfl, e, _, _, _, _, rfl, relTy, he2 _, EO.k_size, EO.size_value, _, rfl, iteF ⟨_, rfl, q p _ (s2 _) hp upd_same⟩⟩
 ·refine ⟨_, rfl, e, _, _, _, _, rfl, relRef, he1, EO.k_number, EO.number_size, _, rfl, iteF ?_⟩
  refine ⟨_, rfl, e, _, _, _, _, rfl, relRef, he1, EO.k_number, EO.number_number, _, rfl, iteT ⟨_, rfl, .inl ⟨rfl, _, SqL.of upd_same⟩, p, _, _, rfl, rfl, upd_same, l0, ?_⟩⟩
  refine ⟨_, rfl, e, _, _, _, _, rfl, relRef, he2 _, EO.k_number, EO.number_thing, _, rfl, iteF ?_⟩
  refine ⟨_, rfl, e, _, _, _, _, rfl, relRef, he2 _, EO.k_number, EO.number_family, _, rfl, iteF ⟨_, rfl, e, _, _, _, _, rfl, relRef, he2 _, EO.k_number, EO.number_way, _, rfl, iteF ⟨_, rfl, e, _, _, _, _, rfl, relRef, he2 _, EO.k_number, EO.number_apart, _, rfl, iteF ?_⟩⟩⟩
  refine ⟨_, rfl, e, _, _, _, _, rfl, relRef, he2 _, EO.k_number, EO.number_mark, _, rfl, iteF ⟨_, rfl, e, _, _, _, _, rfl, relRef, he2 _, EO.k_number, EO.number_text, _, rfl, iteF ⟨_, rfl, e, _, _, _, _, rfl, relRef, he2 _, EO.k_number, EO.number_broken, _, rfl, iteF ?_⟩⟩⟩
  refine ⟨_, rfl, e, _, _, _, _, rfl, relTy, he2 _, EO.k_number, EO.number_value, _, rfl, iteF ⟨_, rfl, q p _ (s2 _) hp upd_same⟩⟩
 ·refine ⟨_, rfl, e, _, _, _, _, rfl, relRef, he1, EO.k_thing, EO.thing_size, _, rfl, iteF ?_⟩
  refine ⟨_, rfl, e, _, _, _, _, rfl, relRef, he1, EO.k_thing, EO.thing_number, _, rfl, iteF ?_⟩
  refine ⟨_, rfl, e, _, _, _, _, rfl, relRef, he1, EO.k_thing, EO.thing_thing, _, rfl, iteT ⟨_, rfl, .inl ⟨rfl, _, SqL.of upd_same⟩, p, _, _, rfl, rfl, upd_same, l0, ?_⟩⟩
  refine ⟨_, rfl, e, _, _, _, _, rfl, relRef, he2 _, EO.k_thing, EO.thing_family, _, rfl, iteF ⟨_, rfl, e, _, _, _, _, rfl, relRef, he2 _, EO.k_thing, EO.thing_way, _, rfl, iteF ⟨_, rfl, e, _, _, _, _, rfl, relRef, he2 _, EO.k_thing, EO.thing_apart, _, rfl, iteF ?_⟩⟩⟩
  refine ⟨_, rfl, e, _, _, _, _, rfl, relRef, he2 _, EO.k_thing, EO.thing_mark, _, rfl, iteF ⟨_, rfl, e, _, _, _, _, rfl, relRef, he2 _, EO.k_thing, EO.thing_text, _, rfl, iteF ⟨_, rfl, e, _, _, _, _, rfl, relRef, he2 _, EO.k_thing, EO.thing_broken, _, rfl, iteF ?_⟩⟩⟩
  refine ⟨_, rfl, e, _, _, _, _, rfl, relTy, he2 _, EO.k_thing, EO.thing_value, _, rfl, iteF ⟨_, rfl, q p _ (s2 _) hp upd_same⟩⟩
theorem ok_u36 {er : Errs} (EO : ErrOk K mg er) {ca : ClA} (CA : ClOk K mg ca) {f : Addr} {fd : FuncData} (F : Fun K "_law_thing_refused" "_law_thing_refused" s_u36 f fd) {f0 : Addr} {fd0 : FuncData} (d_u78 : Def P w K mg base "_law_kin" ["_law_way"] 7 (sp_u78 K ca) f0 fd0) {fd1 : FuncData} (d_u30 : MDef P w K mg base ["self", "size", "number"] 45 (sp_u30 K ca er) ca.f_u30 fd1) {fd2 : FuncData} (d_u26 : MDef P w K mg base ["self", "size", "number"] 46 (sp_u26 K ca er) ca.f_u26 fd2) {fd3 : FuncData} (d_u23 : MDef P w K mg base ["self", "size", "number"] 45 (sp_u23 K ca er) ca.f_u23 fd3) {f4 : Addr} {fd4 : FuncData} (d_u63 : Def P w K mg base "_law_classes" ["_law_error"] 1 (sp_u63 K ca er) f4 fd4) : FnOk P w K mg base CX0 47 f fd ["_law_way", "_law_size", "_law_number"] (sp_u36 K ca er) := by
 refine F.ok sc_u36 (fun vs H Q E h => ?_) (fun cdv A outer s H vs Q E hr h => ?_)
 ·obtain ⟨w, n, m, t, rfl, hw, hn, q⟩ := h
  rfl
 obtain ⟨w, n, m, t, rfl, hw, hn, q⟩ := h
 refine ⟨_, pss_cons (ps_set (i := 3) sc_u36.nd rfl (Or.inl rfl) pe_non)
  (pss_cons (ps_tryAs (i := 4) rfl rfl rfl sc_u36.nd rfl rfl rfl EO.m_kin (px_eit (px_meth (fun _ _ => (pcall d_u78 hr (pa_cons (pv 0) pa_nil))) CA.c_Brackets CA.mt_Brackets_thing_of d_u23 hr (fun _ _ => (pa_cons (pv 1) (pa_cons (pv 2) pa_nil)))) (px_eit (px_meth (fun _ _ => (pcall d_u78 hr (pa_cons (pv 0) pa_nil))) CA.c_Stairs CA.mt_Stairs_thing_of d_u26 hr (fun _ _ => (pa_cons (pv 1) (pa_cons (pv 2) pa_nil)))) (px_meth (fun _ _ => (pcall d_u78 hr (pa_cons (pv 0) pa_nil))) CA.c_Twins CA.mt_Twins_thing_of d_u30 hr (fun _ _ => (pa_cons (pv 1) (pa_cons (pv 2) pa_nil)))))) (fun _ => (pss_one (ps_set (i := 3) sc_u36.nd rfl (Or.inl rfl) (pv 4)))))
  (pss_one (ps_ret (pcall d_u63 hr (pa_cons (pv 3) pa_nil))))), ?_⟩
 have go : ∀ (x dx : Addr) (fs : List (Str × V)) (wd : Str) (H1 : Hp), True := fun _ _ _ _ _ => trivial
 rcases (by omega : w = 0 ∨ w = 1 ∨ w = 2) with rfl | rfl | rfl
 ·skip
  rcases hn with ⟨hn, rfl⟩ | ⟨n1, n40, hm, rfl⟩
  ·refine (.inl ⟨_, rfl, 0, rfl, by decide, fun x dx fs wd H1 s1 k0 k1 k2 fl => ?_⟩)
   have hx := k0 rfl
   refine ⟨x, dx, fs, rfl, hx, fl.no "thing_of" (by decide) (by decide), _, rfl, _, rfl, x, dx, fs, wd, n, m, rfl, hx, fl, .inl ⟨hn, EO.c_size, fun e he => ⟨_, rfl, ?_⟩⟩⟩
   refine ⟨_, rfl, e, er.size, _, rfl, upd_same, .inl ⟨rfl, rfl⟩, fun p H' sm fp hp => ?_⟩
   have s2 := Same.new s1 he (excO e (.ref er.size))
   exact q p H' (s2.trans sm) (s2.free fp) hp
  ·refine (.inl ⟨_, rfl, 0, rfl, by decide, fun x dx fs wd H1 s1 k0 k1 k2 fl => ?_⟩)
   have hx := k0 rfl
   refine ⟨x, dx, fs, rfl, hx, fl.no "thing_of" (by decide) (by decide), _, rfl, _, rfl, x, dx, fs, wd, n, m, rfl, hx, fl, .inr (.inl ⟨n1, n40, hm, EO.c_number, fun e he => ⟨_, rfl, ?_⟩⟩)⟩
   refine ⟨_, rfl, e, er.number, _, rfl, upd_same, .inr (.inl ⟨rfl, rfl⟩), fun p H' sm fp hp => ?_⟩
   have s2 := Same.new s1 he (excO e (.ref er.number))
   exact q p H' (s2.trans sm) (s2.free fp) hp
 ·skip
  rcases hn with ⟨hn, rfl⟩ | ⟨n1, n40, hm, rfl⟩
  ·refine (.inr (.inl ⟨_, rfl, 1, rfl, by decide, fun x dx fs wd H1 s1 k0 k1 k2 fl => ?_⟩))
   have hx := k1 rfl
   refine ⟨x, dx, fs, rfl, hx, fl.no "thing_of" (by decide) (by decide), _, rfl, _, rfl, x, dx, fs, wd, n, m, rfl, hx, fl, .inl ⟨hn, EO.c_size, fun e he => ⟨_, rfl, ?_⟩⟩⟩
   refine ⟨_, rfl, e, er.size, _, rfl, upd_same, .inl ⟨rfl, rfl⟩, fun p H' sm fp hp => ?_⟩
   have s2 := Same.new s1 he (excO e (.ref er.size))
   exact q p H' (s2.trans sm) (s2.free fp) hp
  ·refine (.inr (.inl ⟨_, rfl, 1, rfl, by decide, fun x dx fs wd H1 s1 k0 k1 k2 fl => ?_⟩))
   have hx := k1 rfl
   refine ⟨x, dx, fs, rfl, hx, fl.no "thing_of" (by decide) (by decide), _, rfl, _, rfl, x, dx, fs, wd, n, m, rfl, hx, fl, .inr (.inl ⟨n1, n40, hm, EO.c_number, fun e he => ⟨_, rfl, ?_⟩⟩)⟩
   refine ⟨_, rfl, e, er.number, _, rfl, upd_same, .inr (.inl ⟨rfl, rfl⟩), fun p H' sm fp hp => ?_⟩
   have s2 := Same.new s1 he (excO e (.ref er.number))
   exact q p H' (s2.trans sm) (s2.free fp) hp
 ·skip
  rcases hn with ⟨hn, rfl⟩ | ⟨n1, n40, hm, rfl⟩
  ·refine (.inr (.inr ⟨_, rfl, 2, rfl, by decide, fun x dx fs wd H1 s1 k0 k1 k2 fl => ?_⟩))
   have hx := k2 rfl
   refine ⟨x, dx, fs, rfl, hx, fl.no "thing_of" (by decide) (by decide), _, rfl, _, rfl, x, dx, fs, wd, n, m, rfl, hx, fl, .inl ⟨hn, EO.c_size, fun e he => ⟨_, rfl, ?_⟩⟩⟩
   refine ⟨_, rfl, e, er.size, _, rfl, upd_same, .inl ⟨rfl, rfl⟩, fun p H' sm fp hp => ?_⟩
   have s2 := Same.new s1 he (excO e (.ref er.size))
   exact q p H' (s2.trans sm) (s2.free fp) hp
  ·refine (.inr (.inr ⟨_, rfl, 2, rfl, by decide, fun x dx fs wd H1 s1 k0 k1 k2 fl => ?_⟩))
   have hx := k2 rfl
   refine ⟨x, dx, fs, rfl, hx, fl.no "thing_of" (by decide) (by decide), _, rfl, _, rfl, x, dx, fs, wd, n, m, rfl, hx, fl, .inr (.inl ⟨n1, n40, hm, EO.c_number, fun e he => ⟨_, rfl, ?_⟩⟩)⟩
   refine ⟨_, rfl, e, er.number, _, rfl, upd_same, .inr (.inl ⟨rfl, rfl⟩), fun p H' sm fp hp => ?_⟩
   have s2 := Same.new s1 he (excO e (.ref er.number))
   exact q p H' (s2.trans sm) (s2.free fp) hp
theorem ok_u42 {er : Errs} (EO : ErrOk K mg er) {ca : ClA} (CA : ClOk K mg ca) {f : Addr} {fd : FuncData} (F : Fun K "_law_many_refused" "_law_many_refused" s_u42 f fd) {f0 : Addr} {fd0 : FuncData} (d_u78 : Def P w K mg base "_law_kin" ["_law_way"] 7 (sp_u78 K ca) f0 fd0) {fd1 : FuncData} (d_u38 : MDef P w K mg base ["self", "size"] 3 (sp_u38 K ca er) ca.f_u38 fd1) {fd2 : FuncData} (d_u35 : MDef P w K mg base ["self", "size"] 3 (sp_u35 K ca er) ca.f_u35 fd2) {fd3 : FuncData} (d_u33 : MDef P w K mg base ["self", "size"] 3 (sp_u33 K ca er) ca.f_u33 fd3) {f4 : Addr} {fd4 : FuncData} (d_u63 : Def P w K mg base "_law_classes" ["_law_error"] 1 (sp_u63 K ca er) f4 fd4) : FnOk P w K mg base CX0 8 f fd ["_law_way", "_law_size"] (sp_u42 K ca er) := by
 refine F.ok sc_u42 (fun vs H Q E h => ?_) (fun cdv A outer s H vs Q E hr h => ?_)
 ·obtain ⟨w, n, rfl, hw, hn, q⟩ := h
  rfl
 obtain ⟨w, n, rfl, hw, hn, q⟩ := h
 refine ⟨_, pss_cons (ps_set (i := 2) sc_u42.nd rfl (Or.inl rfl) pe_non)
  (pss_cons (ps_tryAs (i := 3) rfl rfl rfl sc_u42.nd rfl rfl rfl EO.m_kin (px_eit (px_meth (fun _ _ => (pcall d_u78 hr (pa_cons (pv 0) pa_nil))) CA.c_Brackets CA.mt_Brackets_many d_u33 hr (fun _ _ => (pa_cons (pv 1) pa_nil))) (px_eit (px_meth (fun _ _ => (pcall d_u78 hr (pa_cons (pv 0) pa_nil))) CA.c_Stairs CA.mt_Stairs_many d_u35 hr (fun _ _ => (pa_cons (pv 1) pa_nil))) (px_meth (fun _ _ => (pcall d_u78 hr (pa_cons (pv 0) pa_nil))) CA.c_Twins CA.mt_Twins_many d_u38 hr (fun _ _ => (pa_cons (pv 1) pa_nil))))) (fun _ => (pss_one (ps_set (i := 2) sc_u42.nd rfl (Or.inl rfl) (pv 3)))))
  (pss_one (ps_ret (pcall d_u63 hr (pa_cons (pv 2) pa_nil))))), ?_⟩
 rcases (by omega : w = 0 ∨ w = 1 ∨ w = 2) with rfl | rfl | rfl
 ·skip
  refine (.inl ⟨_, rfl, 0, rfl, by decide, fun x dx fs wd H1 s1 k0 k1 k2 fl => ?_⟩)
  have hx := k0 rfl
  refine ⟨x, dx, fs, rfl, hx, fl.no "many" (by decide) (by decide), _, rfl, x, dx, fs, wd, n, rfl, hx, fl, .inl ⟨hn, EO.c_size, fun e he => ⟨_, rfl, ?_⟩⟩⟩
  refine ⟨_, rfl, e, er.size, _, rfl, upd_same, .inl ⟨rfl, rfl⟩, fun p H' sm fp hp => ?_⟩
  have s2 := Same.new s1 he (excO e (.ref er.size))
  exact q p H' (s2.trans sm) (s2.free fp) hp
 ·skip
  refine (.inr (.inl ⟨_, rfl, 1, rfl, by decide, fun x dx fs wd H1 s1 k0 k1 k2 fl => ?_⟩))
  have hx := k1 rfl
  refine ⟨x, dx, fs, rfl, hx, fl.no "many" (by decide) (by decide), _, rfl, x, dx, fs, wd, n, rfl, hx, fl, .inl ⟨hn, EO.c_size, fun e he => ⟨_, rfl, ?_⟩⟩⟩
  refine ⟨_, rfl, e, er.size, _, rfl, upd_same, .inl ⟨rfl, rfl⟩, fun p H' sm fp hp => ?_⟩
  have s2 := Same.new s1 he (excO e (.ref er.size))
  exact q p H' (s2.trans sm) (s2.free fp) hp
 ·skip
  refine (.inr (.inr ⟨_, rfl, 2, rfl, by decide, fun x dx fs wd H1 s1 k0 k1 k2 fl => ?_⟩))
  have hx := k2 rfl
  refine ⟨x, dx, fs, rfl, hx, fl.no "many" (by decide) (by decide), _, rfl, x, dx, fs, wd, n, rfl, hx, fl, .inl ⟨hn, EO.c_size, fun e he => ⟨_, rfl, ?_⟩⟩⟩
  refine ⟨_, rfl, e, er.size, _, rfl, upd_same, .inl ⟨rfl, rfl⟩, fun p H' sm fp hp => ?_⟩
  have s2 := Same.new s1 he (excO e (.ref er.size))
  exact q p H' (s2.trans sm) (s2.free fp) hp
theorem ok_u37 {er : Errs} (EO : ErrOk K mg er) {ca : ClA} (CA : ClOk K mg ca) {f : Addr} {fd : FuncData} (F : Fun K "_law_sizes_refused" "_law_sizes_refused" s_u37 f fd) {f0 : Addr} {fd0 : FuncData} (d_u42 : Def P w K mg base "_law_many_refused" ["_law_way", "_law_size"] 8 (sp_u42 K ca er) f0 fd0) {f1 : Addr} {fd1 : FuncData} (d_u36 : Def P w K mg base "_law_thing_refused" ["_law_way", "_law_size", "_law_number"] 47 (sp_u36 K ca er) f1 fd1) : FnOk P w K mg base CX0 48 f fd ["_law_way", "_law_size", "_law_number"] (sp_u37 K ca er) := by
 refine F.ok sc_u37 (fun vs H Q E h => ?_) (fun cdv A outer s H vs Q E hr h => ?_)
 ·obtain ⟨w, n, m, rfl, hw, hn, q⟩ := h
  rfl
 obtain ⟨w, n, m, rfl, hw, hn, q⟩ := h
 refine ⟨_, pss_cons (ps_if (pt_cmpR (op_ne_list (hu0 hr)) (pcall d_u42 hr (pa_cons (pv 0) (pa_cons (pv 1) pa_nil))) (pe_lst (pa_cons pe_str pa_nil)) (nomark _)) (pss_one (ps_ret pe_bl)) pss_nil)
  (pss_one (ps_ret (pe_cmpR (op_eq_list (hu0 hr)) (pcall d_u36 hr (pa_cons (pv 0) (pa_cons (pv 1) (pa_cons (pv 2) pa_nil)))) (pe_lst (pa_cons pe_str pa_nil)) (nomark _)))), ?_⟩
 refine ⟨_, rfl, _, rfl, w, n, rfl, hw, hn, fun p H1 s1 f1 h1 => ne_told h1 fun H2 s2 => ⟨_, rfl, iteF ?_⟩⟩
 refine ⟨_, rfl, _, rfl, _, rfl, w, n, m, _, rfl, hw, .inl ⟨hn, rfl⟩, fun p H3 s3 f3 h3 => eq_told h3 fun H4 s4 => q _ (((s1.trans s2).trans s3).trans s4)⟩
theorem ok_u79 {er : Errs} (EO : ErrOk K mg er) {ca : ClA} (CA : ClOk K mg ca) {f : Addr} {fd : FuncData} (F : Fun K "_law_mix" "_law_mix" s_u79 f fd) : FnOk P w K mg base CX0 1 f fd ["_law_cell", "_law_turn"] (sp_u79 K ca) := by
 refine F.ok sc_u79 (fun vs H Q E h => ?_) (fun cdv A outer s H vs Q E hr h => ?_)
 ·obtain ⟨c, t, rfl, h0, h1, q⟩ := h
  rfl
 obtain ⟨c, t, rfl, h0, h1, q⟩ := h
 refine ⟨_, pss_cons (ps_set (i := 2) sc_u79.nd rfl (Or.inl rfl) (pe_op op_mod (pe_op op_mul (pe_op op_add (pe_op op_add (pe_op op_mod (pv 0) pe_int) (pe_op op_mul (pe_op op_mul (pv 1) (pv 1)) pe_int)) pe_int) pe_int) pe_int))
  (pss_one (ps_ret (pe_op op_mod (pe_op op_add (pe_op op_mul (pv 2) (pv 2)) (pe_op op_mul pe_int (pv 1))) pe_int))), ?_⟩
 refine ⟨_, rfl, _, _, rfl, rfl, pm (by decide), _, rfl, _, rfl, _, _, rfl, rfl, .inl ⟨by omega, by omega⟩, _, _, rfl, rfl, .inr ⟨by decide, by decide⟩, _, _, rfl, rfl, _, _, rfl, rfl, _, _, rfl, rfl, .inr ⟨by decide, by decide⟩, _, _, rfl, rfl, pm (by decide), ?_⟩
 have b0 := Int.emod_nonneg ((c % 2147483647 + t * t * 7919 + 104729) * 48271) (show (2147483647 : Int) ≠ 0 by decide)
 have b1 := Int.emod_lt_of_pos ((c % 2147483647 + t * t * 7919 + 104729) * 48271) (show (0 : Int) < 2147483647 by decide)
 try dsimp only
 generalize (c % 2147483647 + t * t * 7919 + 104729) * 48271 % 2147483647 = n at *
 exact ⟨_, rfl, _, rfl, _, _, rfl, rfl, .inl ⟨by omega, by omega⟩, _, rfl, _, _, rfl, rfl, .inl ⟨by decide, by decide⟩, _, _, rfl, rfl, _, _, rfl, rfl, pm (by decide), q _ (Int.emod_nonneg _ (by decide)) (Int.emod_lt_of_pos _ (by decide))⟩
theorem ok_u73 {er : Errs} (EO : ErrOk K mg er) {ca : ClA} (CA : ClOk K mg ca) {f : Addr} {fd : FuncData} (F : Fun K "_law_draws" "_law_draws" s_u73 f fd) {f0 : Addr} {fd0 : FuncData} (d_u79 : Def P w K mg base "_law_mix" ["_law_cell", "_law_turn"] 1 (sp_u79 K ca) f0 fd0) (m_range : mg "range" = none) (m_len : mg "len" = none) : FnOk P w K mg base CX0 2 f fd ["_law_script", "_law_turn", "_law_many"] (sp_u73 K ca) := by
 refine F.ok sc_u73 (fun vs H Q E h => ?_) (fun cdv A outer s H vs Q E hr h => ?_)
 ·obtain ⟨a, ns, t, m, rfl, hS, h63, t0, t1, m0, m1, q⟩ := h
  rfl
 obtain ⟨a, ns, t, m, rfl, hS, h63, t0, t1, m0, m1, q⟩ := h
 refine ⟨_, pss_cons (ps_set (i := 3) sc_u73.nd rfl (Or.inl rfl) (pe_op op_cat (pe_slice sl_list (pv 0) po_none (po_some pe_int)) (pe_lst (pa_cons (pv 1) pa_nil))))
  (pss_cons (ps_set (i := 4) sc_u73.nd rfl (Or.inl rfl) (pe_lst pa_nil))
  (pss_cons (ps_if (pt_cmpR op_eq (pe_op op_mod (pe_op op_fdivL (pe_ix ix_list (pv 3) pe_int (fun _ _ => rfl)) pe_int) pe_int) pe_int (nomark _)) (pss_cons (ps_setComp (i := 5) sc_u73.nd rfl (Or.inl rfl) rfl rfl (pi_list (pv 3)) rfl rfl rfl rfl (N := ["_law_cell"]) (.own .nil) (fun _ _ _ _ _ _ => (pg_name (i := 0) (by show List.Nodup (["_law_cell"] : List Str); decide +kernel) rfl (Or.inl rfl))) (fun _ _ _ _ _ _ => pts_nil) (fun _ _ _ _ _ _ => (pe_op op_fdivL (pv 0) pe_int)))
  (pss_cons (ps_for PassesOwn.never rfl (pi_range1 rfl m_range (pa_cons (pe_op op_add (pv 1) (pv 2)) pa_nil)) (pg_name (i := 6) sc_u73.nd rfl (Or.inl rfl)) (pss_cons (ps_set (i := 7) sc_u73.nd rfl (Or.inl rfl) (pe_op op_mod (pv 6) (pe_callB call_len_seq rfl m_len bb_len (pa_cons (pv 5) pa_nil))))
  (pss_cons (ps_expr (pe_bm PySem.F.plainAttrs_list PySem.F.slot_list_append PySem.F.type_list_append mt_append (pv 4) (pa_cons (pe_op op_mod (pe_ix ix_list (pv 5) (pv 7) (fun _ _ => rfl)) pe_int) pa_nil)))
  (pss_one (ps_asg (pe_op op_fdivL (pe_ix ix_list (pv 5) (pv 7) (fun _ _ => rfl)) pe_int) (pg_sub (pv 5) (pv 7) set_list))))))
  (pss_one (ps_ret (pe_slice sl_list (pv 4) (po_some (pv 1)) po_none))))) pss_nil)
  (pss_cons (ps_for PassesOwn.never rfl (pi_range1 rfl m_range (pa_cons (pv 2) pa_nil)) (pg_name (i := 6) sc_u73.nd rfl (Or.inl rfl)) (pss_cons (ps_set (i := 8) sc_u73.nd rfl (Or.inl rfl) (pcall d_u79 hr (pa_cons (pe_ix ix_list (pv 3) (pe_op op_mod (pv 6) (pe_callB call_len_seq rfl m_len bb_len (pa_cons (pv 3) pa_nil))) (fun _ _ => rfl)) (pa_cons (pe_op op_add (pv 6) (pv 1)) pa_nil))))
  (pss_one (ps_expr (pe_bm PySem.F.plainAttrs_list PySem.F.slot_list_append PySem.F.type_list_append mt_append (pv 4) (pa_cons (pe_op op_mod (pe_op op_add (pe_op op_mul (pv 8) (pv 8)) (pe_op op_mul pe_int (pv 6))) pe_int) pa_nil))))))
  (pss_one (ps_ret (pv 4)))))), ?_⟩
 have M : ∀ x : Int, 0 ≤ x % 2147483587 ∧ x % 2147483587 < 2147483587 := fun x => ⟨Int.emod_nonneg x (by decide), Int.emod_lt_of_pos x (by decide)⟩
 refine ⟨_, rfl, _, rfl, a, _, rfl, hS, fun p1 hp1 => ⟨_, rfl, (by show 1 ≤ sizeLine; decide), fun p2 hp2 => ?_⟩⟩
 have n12 : p1 ≠ p2 := ne_of_none upd_same hp2
 have s1 := Same.new (Same.refl H) hp1 (.lst (cutV (ns.map V.int) none (some 63)))
 have s2 := Same.new s1 hp2 (.lst [.int t])
 have lc : (cutI ns none (some 63)).length ≤ 63 := Nat.le_trans (cutI_length _ _ _) h63
 refine ⟨p1, p2, _, _, rfl, rfl, (upd_ne n12).trans upd_same, upd_same, ?_, fun pc hpc => ?_⟩
 ·rw [cutV_map, List.length_map]; exact sz (by simp; omega)
 have s3 := Same.new s2 hpc (.lst (cutV (ns.map V.int) none (some 63) ++ [.int t]))
 have ecs : cutV (ns.map V.int) none (some 63) ++ [.int t] = (cutI ns none (some 63) ++ [t]).map V.int := by rw [cutV_map, List.map_append]; rfl
 have lcs : 1 ≤ (cutI ns none (some 63) ++ [t]).length ∧ (cutI ns none (some 63) ++ [t]).length ≤ 64 := by rw [List.length_append]; constructor <;> simp <;> omega
 rw [ecs] at s3 ⊢
 generalize hH3 : upd (upd (upd H p1 (.lst (cutV (ns.map V.int) none (some 63)))) p2 (.lst [.int t])) pc (.lst ((cutI ns none (some 63) ++ [t]).map V.int)) = H3 at s3 ⊢
 have hc3 : H3 pc = some (.lst ((cutI ns none (some 63) ++ [t]).map V.int)) := by rw [← hH3]; exact upd_same
 generalize cutI ns none (some 63) ++ [t] = cs at hc3 lcs ⊢
 refine ⟨Nat.zero_le _, fun pf hpf => ?_⟩
 have s4 := Same.new s3 hpf (.lst [])
 have fpf : H pf = none := s3.free hpf
 have ncf : pc ≠ pf := ne_of_none hc3 hpf
 have hc4 : upd H3 pf (.lst []) pc = some (.lst (cs.map V.int)) := (upd_ne ncf).trans hc3
 have hf4 : upd H3 pf (.lst []) pf = some (.lst (([] : List Int).map V.int)) := upd_same
 generalize upd H3 pf (.lst []) = H4 at s4 hc4 hf4 ⊢
 have at0 := atI_int (ns := cs) (i := 0) (by decide) (by omega)
 have lm : (cs.map V.int).length = cs.length := List.length_map _
 refine ⟨_, rfl, pc, _, _, _, rfl, rfl, SqL.of hc4, at0, _, _, rfl, rfl, ⟨by decide, by decide +kernel⟩, _, _, rfl, rfl, pm (by decide), rfl, _, rfl, ite2 (fun _ => ?_) (fun _ => ?_)⟩
 ·refine ⟨_, rfl, pc, rfl, ⟨_, SqL.of hc4⟩, fun D hD => comp_list (fun v => match v with | .int c => .int (c / 100000) | v => v) (by rw [lm]; exact sz (by omega)) (SqL.of hc4) hD (fun i x H' R R0 hx hb hR => ?_) ?_⟩
  ·obtain ⟨c, rfl⟩ := get_int hx
   exact ⟨Ext.set rfl, ttN (iteT ⟨_, rfl, _, _, rfl, rfl, ⟨by decide, by decide +kernel⟩, hR⟩)⟩
  ·have fD : H D = none := s4.free hD
   have nfD : pf ≠ D := ne_of_none hf4 hD
   have el : (cs.map V.int).map (fun v => match v with | .int c => V.int (c / 100000) | v => v) = (cs.map (· / 100000)).map V.int := by rw [List.map_map, List.map_map]; rfl
   rw [el]
   refine ⟨_, rfl, _, rfl, _, _, rfl, rfl, _, rfl, by omega, by omega, for_range (lo := 0) (n := (t + m).toNat) (fun i σ H' => ∃ (o1 o2 o3 : Option V) (ls fs : List Int), σ = [some (.ref a), some (.int t), some (.int m), some (.ref pc), some (.ref pf), some (.ref D), o1, o2, o3] ∧ Same H H' ∧ H' D = some (.lst (ls.map V.int)) ∧ ls.length = cs.length ∧ H' pf = some (.lst (fs.map V.int)) ∧ fs.length = i ∧ ∀ x ∈ fs, 0 ≤ x ∧ x < 2147483587)
    ⟨_, _, _, _, [], rfl, Same.new s4 hD _, upd_same, by simp, (upd_ne nfD).trans hf4, rfl, by simp⟩ ?_ ?_⟩
   ·rintro i σ H5 hi ⟨o1, o2, o3, ls, fs, rfl, sm, hl, ll, hf, lf, bf⟩
    have lml : (ls.map V.int).length = ls.length := List.length_map _
    have pos : (0 : Int) < (((ls.map V.int).length : Nat) : Int) := by rw [lml]; omega
    have k0 := Int.emod_nonneg ((0 : Int) + (i : Int)) (show (((ls.map V.int).length : Nat) : Int) ≠ 0 by omega)
    have k1 := Int.emod_lt_of_pos ((0 : Int) + (i : Int)) pos
    refine ⟨_, rfl, _, rfl, D, _, rfl, .inl (SqL.of hl), _, _, rfl, rfl, pos, ?_⟩
    try dsimp only
    generalize ((0 : Int) + (i : Int)) % (((ls.map V.int).length : Nat) : Int) = k at k0 k1 ⊢
    rw [lml] at k1
    have atk := atI_int (ns := ls) (i := k) k0 k1
    refine ⟨_, rfl, .inl ⟨rfl, _, SqL.of hf⟩, _, rfl, _, rfl, D, _, _, _, rfl, rfl, SqL.of hl, atk, _, _, rfl, rfl, pm (by decide), pf, _, _, rfl, rfl, hf, by rw [List.length_map]; exact sz' (by omega), ?_⟩
    have hl6 : upd H5 pf (.lst (fs.map V.int ++ [.int (ls.getD k.toNat 0 % 2147483587)])) D = some (.lst (ls.map V.int)) := (upd_ne (Ne.symm nfD)).trans hl
    refine ⟨_, rfl, _, rfl, D, _, _, _, rfl, rfl, SqL.of hl6, atk, _, _, rfl, rfl, ⟨by decide, by decide +kernel⟩, _, rfl, _, rfl, D, _, _, _, rfl, rfl, hl6, ixN_nat k0 (by rw [lml]; exact k1), ?_⟩
    refine ⟨_, _, _, ls.set k.toNat (ls.getD k.toNat 0 / 2147483587), fs ++ [ls.getD k.toNat 0 % 2147483587], rfl, (sm.upd fpf _).upd fD _, ?_, by simpa using ll, ?_, by simp [lf], ?_⟩
    ·rw [upd_same, List.map_set]
    ·rw [upd_ne nfD, upd_same, List.map_append]; rfl
    ·intro x hx
     rcases List.mem_append.mp hx with z | z
     ·exact bf x z
     ·have : x = ls.getD k.toNat 0 % 2147483587 := by simpa using z
      rw [this]; exact M _
   ·rintro σ H5 ⟨o1, o2, o3, ls, fs, rfl, sm, hl, ll, hf, lf, bf⟩
    refine ⟨_, rfl, _, rfl, _, rfl, pf, _, rfl, SqL.of hf, fun pr hpr => ?_⟩
    rw [cutV_map, cutI_from fs t0]
    refine q pr (fs.drop t.toNat) _ (Same.new sm hpr _) (sm.free hpr) upd_same ?_ fun x hx => bf x (List.mem_of_mem_drop hx)
    rw [List.length_drop, lf]; omega
 ·refine ⟨_, rfl, _, rfl, by omega, by omega, for_range (lo := 0) (n := m.toNat) (fun i σ H' => ∃ (o1 o2 o3 o4 : Option V) (fs : List Int), σ = [some (.ref a), some (.int t), some (.int m), some (.ref pc), some (.ref pf), o1, o2, o3, o4] ∧ Same H H' ∧ H' pc = some (.lst (cs.map V.int)) ∧ H' pf = some (.lst (fs.map V.int)) ∧ fs.length = i ∧ ∀ x ∈ fs, 0 ≤ x ∧ x < 2147483587)
   ⟨_, _, _, _, [], rfl, s4, hc4, hf4, rfl, by simp⟩ ?_ ?_⟩
  ·rintro i σ H5 hi ⟨o1, o2, o3, o4, fs, rfl, sm, hc, hf, lf, bf⟩
   have pos : (0 : Int) < (((cs.map V.int).length : Nat) : Int) := by rw [lm]; omega
   have k0 := Int.emod_nonneg ((0 : Int) + (i : Int)) (show (((cs.map V.int).length : Nat) : Int) ≠ 0 by omega)
   have k1 := Int.emod_lt_of_pos ((0 : Int) + (i : Int)) pos
   have atk := atI_int (ns := cs) (i := ((0 : Int) + (i : Int)) % (((cs.map V.int).length : Nat) : Int)) k0 (by rw [← lm]; exact k1)
   refine ⟨_, rfl, _, rfl, _, rfl, pc, _, rfl, .inl (SqL.of hc), _, _, rfl, rfl, pos, pc, _, _, _, rfl, rfl, SqL.of hc, atk, _, rfl, _, rfl, _, _, rfl, rfl, _, _, rfl, by omega, by omega, fun x x0 x1 => ?_⟩
   refine ⟨_, rfl, .inl ⟨rfl, _, SqL.of hf⟩, _, rfl, _, rfl, _, _, rfl, rfl, .inl ⟨by omega, by omega⟩, _, rfl, _, _, rfl, rfl, .inl ⟨by decide, by decide⟩, _, _, rfl, rfl, _, _, rfl, rfl, pm (by decide), pf, _, _, rfl, rfl, hf, by rw [List.length_map]; exact sz' (by omega), ?_⟩
   refine ⟨_, _, _, _, fs ++ [(x * x + 7 * ((0 : Int) + (i : Int))) % 2147483587], rfl, sm.upd fpf _, (upd_ne ncf).trans hc, ?_, by simp [lf], ?_⟩
   ·rw [upd_same, List.map_append]; rfl
   ·intro y hy
    rcases List.mem_append.mp hy with z | z
    ·exact bf y z
    ·have : y = (x * x + 7 * ((0 : Int) + (i : Int))) % 2147483587 := by simpa using z
     rw [this]; exact M _
  ·rintro σ H5 ⟨o1, o2, o3, o4, fs, rfl, sm, hc, hf, lf, bf⟩
   exact ⟨_, rfl, q pf fs H5 sm fpf hf lf bf⟩
theorem ok_u54 {er : Errs} (EO : ErrOk K mg er) {ca : ClA} (CA : ClOk K mg ca) {f : Addr} {fd : FuncData} (F : Fun K "_law_stairs_by" "_law_stairs_by" s_u54 f fd) {f0 : Addr} {fd0 : FuncData} (d_u73 : Def P w K mg base "_law_draws" ["_law_script", "_law_turn", "_law_many"] 2 (sp_u73 K ca) f0 fd0) (m_enumerate : mg "enumerate" = none) : FnOk P w K mg base CX0 3 f fd ["_law_script", "_law_size", "_law_turn"] (sp_u54 K ca) := by
 refine F.ok sc_u54 (fun vs H Q E h => ?_) (fun cdv A outer s H vs Q E hr h => ?_)
 ·obtain ⟨a, ns, n, t, rfl, hS, h63, hn, t0, t1, q⟩ := h
  rfl
 obtain ⟨a, ns, n, t, rfl, hS, h63, hn, t0, t1, q⟩ := h
 refine ⟨_, pss_cons (ps_set (i := 3) sc_u54.nd rfl (Or.inl rfl) (pe_lst pa_nil))
  (pss_cons (ps_set (i := 4) sc_u54.nd rfl (Or.inl rfl) pe_int)
  (pss_cons (ps_for PassesOwn.never rfl (pi_enum rfl m_enumerate (pa_cons (pcall d_u73 hr (pa_cons (pv 0) (pa_cons (pv 2) (pa_cons (pv 1) pa_nil)))) pa_nil)) (pg_tup rfl (pgs_cons (pg_name (i := 5) sc_u54.nd rfl (Or.inl rfl)) (pgs_cons (pg_name (i := 6) sc_u54.nd rfl (Or.inl rfl)) pgs_nil))) (pss_cons (ps_set (i := 4) sc_u54.nd rfl (Or.inl rfl) (pe_op op_add (pv 4) (pe_op op_mul (pe_op op_mod (pv 6) (pe_op op_add (pe_op op_sub (pv 5) (pv 4)) pe_int)) (pe_op op_mod (pe_op op_fdivL (pv 6) pe_int) pe_int))))
  (pss_one (ps_expr (pe_bm PySem.F.plainAttrs_list PySem.F.slot_list_append PySem.F.type_list_append mt_append (pv 3) (pa_cons (pv 4) pa_nil))))))
  (pss_one (ps_ret (pv 3))))), ?_⟩
 refine ⟨Nat.zero_le _, fun pr hpr => ?_⟩
 have s1 := Same.new (Same.refl H) hpr (.lst [])
 have hr1 : upd H pr (.lst []) pr = some (.lst []) := upd_same
 generalize upd H pr (.lst []) = H1 at s1 hr1 ⊢
 refine ⟨_, rfl, _, rfl, _, rfl, a, ns, t, (n : Int), rfl, s1.seq hS, h63, t0, by omega, by omega, by omega, fun pd xs H2 sm2 fd hd lx bx => ?_⟩
 have s2 := s1.trans sm2
 have lm : (xs.map V.int).length = xs.length := List.length_map _
 have nrd : pr ≠ pd := ne_of_none hr1 fd
 refine ⟨pd, rfl, ⟨_, SqL.of hd⟩, for_enum (xs := xs.map V.int) (fun i σ H' => ∃ (o1 o2 : Option V) (rs : List Int) (b : Int), σ = [some (.ref a), some (.int n), some (.int t), some (.ref pr), some (.int b), o1, o2] ∧ Same H H' ∧ H' pd = some (.lst (xs.map V.int)) ∧ H' pr = some (.lst (rs.map V.int)) ∧ rs.length = i ∧ St rs b) ⟨_, _, [], 0, rfl, s2, hd, sm2 _ _ hr1, rfl, .nil⟩ (fun i σ H' _ h => SqL.of h.choose_spec.choose_spec.choose_spec.choose_spec.2.2.1) ?_ ?_⟩
 ·rintro i v σ H5 T hv ⟨o1, o2, rs, b, rfl, sm, hd5, hr5, lr, st⟩ hT
  obtain ⟨c, rfl⟩ := get_int hv
  have hi : i < xs.length := by rw [← lm]; exact (List.getElem?_eq_some_iff.mp hv).1
  have b0 := st.low
  have b1 := st.top
  have nT1 : pd ≠ T := ne_of_none hd5 hT
  have nT2 : pr ≠ T := ne_of_none hr5 hT
  refine ⟨T, _, rfl, SqT.of upd_same, rfl, _, _, rfl, _, _, rfl, rfl, ?_⟩
  have e0 := Int.emod_nonneg c (show (i : Int) - b + 1 ≠ 0 by omega)
  have e1 := Int.emod_lt_of_pos c (show 0 < (i : Int) - b + 1 by omega)
  have f0 := Int.emod_nonneg (c / 97) (show (2 : Int) ≠ 0 by decide)
  have f1 := Int.emod_lt_of_pos (c / 97) (show (0 : Int) < 2 by decide)
  refine ⟨_, rfl, _, rfl, _, rfl, _, rfl, _, _, rfl, rfl, _, _, rfl, rfl, _, _, rfl, rfl, by omega, _, rfl, _, _, rfl, rfl, ⟨by decide, by decide +kernel⟩, _, _, rfl, rfl, pm (by decide), ?_⟩
  try dsimp only
  generalize c % ((i : Int) - b + 1) = u at e0 e1 ⊢
  generalize c / 97 % 2 = g at f0 f1 ⊢
  have hu : 0 ≤ u * g ∧ u * g ≤ (i : Int) - b := by
   rcases (by omega : g = 0 ∨ g = 1) with rfl | rfl
   ·rw [Int.mul_zero]; omega
   ·rw [Int.mul_one]; omega
  refine ⟨_, _, rfl, rfl, .inl ⟨by omega, by omega⟩, _, _, rfl, rfl, ?_⟩
  try dsimp only
  generalize u * g = w at hu ⊢
  have hr6 := (upd_ne (o := .tup [.int (i : Int), .int c]) nT2).trans hr5
  refine ⟨_, rfl, .inl ⟨rfl, _, SqL.of hr6⟩, _, rfl, pr, _, _, rfl, rfl, hr6, by rw [List.length_map]; exact sz' (by omega), ?_⟩
  refine ⟨_, _, rs ++ [b + w], b + w, rfl, (Same.new sm hT _).upd hpr _, (upd_ne (Ne.symm nrd)).trans ((upd_ne nT1).trans hd5), by rw [upd_same, List.map_append]; rfl, by simp [lr], st.snoc (by omega) (by omega)⟩
 ·rintro σ H5 ⟨o1, o2, rs, b, rfl, sm, hd5, hr5, lr, st⟩
  exact ⟨_, rfl, q pr rs b H5 sm hpr hr5 (by omega) st⟩
theorem ok_u43 {er : Errs} (EO : ErrOk K mg er) {ca : ClA} (CA : ClOk K mg ca) {f : Addr} {fd : FuncData} (F : Fun K "_law_spoiled_text" "_law_spoiled_text" s_u43 f fd) {f0 : Addr} {fd0 : FuncData} (d_u79 : Def P w K mg base "_law_mix" ["_law_cell", "_law_turn"] 1 (sp_u79 K ca) f0 fd0) (m_len : mg "len" = none) (m_list : mg "list" = none) : FnOk P w K mg base CX0 2 f fd ["_law_text", "_law_cell"] (sp_u43 K ca) := by
 refine F.ok sc_u43 (fun vs H Q E h => ?_) (fun cdv A outer s H vs Q E hr h => ?_)
 ·obtain ⟨t, c, rfl, h0, hz, q⟩ := h
  rfl
 obtain ⟨t, c, rfl, h0, hz, q⟩ := h
 refine ⟨_, pss_cons (ps_set (i := 2) sc_u43.nd rfl (Or.inl rfl) (pcall d_u79 hr (pa_cons (pv 1) (pa_cons pe_int pa_nil))))
  (pss_cons (ps_set (i := 3) sc_u43.nd rfl (Or.inl rfl) (pe_op op_mod (pv 2) (pe_callB call_len_str rfl m_len bb_len (pa_cons (pv 0) pa_nil))))
  (pss_cons (ps_set (i := 4) sc_u43.nd rfl (Or.inl rfl) (pe_op op_mod (pe_op op_fdivL (pv 2) pe_int) (pe_callB call_len_str rfl m_len bb_len (pa_cons (pv 0) pa_nil))))
  (pss_cons (ps_set (i := 5) sc_u43.nd rfl (Or.inl rfl) (pe_op op_mod (pv 1) pe_int))
  (pss_cons (ps_if (pt_cmpR op_eq (pv 5) pe_int (nomark _)) (pss_one (ps_ret (pe_op op_add_str (pe_op op_add_str (pe_slice sl_str (pv 0) po_none (po_some (pv 3))) (pe_ix ix_str pe_str (pe_op op_mod (pe_op op_fdivL (pv 2) pe_int) pe_int) (fun _ _ => rfl))) (pe_slice sl_str (pv 0) (po_some (pv 3)) po_none)))) pss_nil)
  (pss_cons (ps_if (pt_cmpR op_eq (pv 5) pe_int (nomark _)) (pss_one (ps_ret (pe_op op_add_str (pe_op op_add_str (pe_slice sl_str (pv 0) po_none (po_some (pv 3))) (pe_ix ix_str pe_str (pe_op op_mod (pe_op op_fdivL (pv 2) pe_int) pe_int) (fun _ _ => rfl))) (pe_slice sl_str (pv 0) (po_some (pe_op op_add (pv 3) pe_int)) po_none)))) pss_nil)
  (pss_cons (ps_if (pt_cmpR op_eq (pv 5) pe_int (nomark _)) (pss_one (ps_ret (pe_op op_add_str (pe_op op_add_str (pe_slice sl_str (pv 0) po_none (po_some (pv 3))) pe_str) (pe_slice sl_str (pv 0) (po_some (pv 3)) po_none)))) pss_nil)
  (pss_cons (ps_set (i := 6) sc_u43.nd rfl (Or.inl rfl) (pe_callTy (call_listS rfl) rfl m_list bb_list (pa_cons (pv 0) pa_nil)))
  (pss_cons (ps_asg (pe_ix ix_str (pv 0) (pv 4) (fun _ _ => rfl)) (pg_sub (pv 6) (pv 3) set_list))
  (pss_cons (ps_asg (pe_ix ix_str (pv 0) (pv 3) (fun _ _ => rfl)) (pg_sub (pv 6) (pv 4) set_list))
  (pss_one (ps_ret (pe_bm PySem.F.plainAttrs_str PySem.F.slot_str_join PySem.F.type_str_join mt_join pe_str (pa_cons (pv 6) pa_nil))))))))))))), ?_⟩
 have lz : t.length ≤ sizeLine := sz (by omega)
 refine ⟨_, rfl, c, 61, rfl, by decide, by decide, fun m m0 m1 => ?_⟩
 refine ⟨_, rfl, _, rfl, t, rfl, lz, _, _, rfl, rfl, by omega, ?_⟩
 have a0 := Int.emod_nonneg m (show (t.length : Int) ≠ 0 by omega)
 have a1 := Int.emod_lt_of_pos m (show (0 : Int) < (t.length : Int) by omega)
 try dsimp only
 generalize m % (t.length : Int) = k at a0 a1 ⊢
 refine ⟨_, rfl, _, _, rfl, rfl, ⟨by decide, by decide +kernel⟩, _, rfl, t, rfl, lz, _, _, rfl, rfl, by omega, ?_⟩
 have b0 := Int.emod_nonneg (m / 97) (show (t.length : Int) ≠ 0 by omega)
 have b1 := Int.emod_lt_of_pos (m / 97) (show (0 : Int) < (t.length : Int) by omega)
 try dsimp only
 generalize m / 97 % (t.length : Int) = j at b0 b1 ⊢
 refine ⟨_, rfl, _, _, rfl, rfl, pm (by decide), ?_⟩
 try dsimp only
 generalize c % 4 = w
 have l1 := Txt.slice_le t none (some k)
 have l2 := Txt.slice_le t (some k) none
 have l3 := Txt.slice_le t (some (k + 1)) none
 have g1 : (Txt.slice t none (some k)).length = k.toNat := by rw [← cps_len, slice_to a0, List.length_take, cps_len]; omega
 have g2 : (Txt.slice t (some k) none).length = t.length - k.toNat := by rw [← cps_len, slice_from a0, List.length_drop, cps_len]
 have g3 : (Txt.slice t (some (k + 1)) none).length = t.length - (k + 1).toNat := by rw [← cps_len, slice_from (by omega), List.length_drop, cps_len]
 have four : ∀ z : Str, z.length = 4 → ∃ d, atI z.cps.toList (m / 9973 % 4) = some d := fun z hz => by
  obtain ⟨d, hd⟩ := at_text (z := z) (m := m / 9973) (by omega)
  rw [hz] at hd
  exact ⟨d, hd⟩
 obtain ⟨d1, hd1⟩ := four (Str.ofString "()x ") (by decide +kernel)
 obtain ⟨d2, hd2⟩ := four (Str.ofString "x )(") (by decide +kernel)
 refine ⟨_, rfl, rfl, _, rfl, ite2 (fun _ => ?_) (fun _ => ?_)⟩
 ·refine ⟨_, rfl, _, rfl, _, rfl, t, rfl, lz, _, rfl, _, _, rfl, rfl, ⟨by decide, by decide +kernel⟩, _, _, rfl, rfl, pm (by decide), _, _, d1, rfl, rfl, by decide +kernel, hd1, _, _, rfl, rfl, ?_, _, rfl, _, rfl, _, rfl, t, rfl, lz, _, _, rfl, rfl, ?_, q _ _ (Same.refl H) ?_⟩
  ·show (Txt.slice t none (some k)).length + 1 ≤ sizeLine
   exact sz (by omega)
  ·rw [app_length]
   show (Txt.slice t none (some k)).length + 1 + (Txt.slice t (some k) none).length ≤ sizeLine
   exact sz (by omega)
  ·rw [app_length, app_length]
   show (Txt.slice t none (some k)).length + 1 + (Txt.slice t (some k) none).length ≤ t.length + 2
   omega
 refine ⟨_, rfl, rfl, _, rfl, ite2 (fun _ => ?_) (fun _ => ?_)⟩
 ·refine ⟨_, rfl, _, rfl, _, rfl, t, rfl, lz, _, rfl, _, _, rfl, rfl, ⟨by decide, by decide +kernel⟩, _, _, rfl, rfl, pm (by decide), _, _, d2, rfl, rfl, by decide +kernel, hd2, _, _, rfl, rfl, ?_, _, rfl, _, rfl, _, _, rfl, rfl, _, rfl, t, rfl, lz, _, _, rfl, rfl, ?_, q _ _ (Same.refl H) ?_⟩
  ·show (Txt.slice t none (some k)).length + 1 ≤ sizeLine
   exact sz (by omega)
  ·rw [app_length]
   show (Txt.slice t none (some k)).length + 1 + (Txt.slice t (some (k + 1)) none).length ≤ sizeLine
   exact sz (by omega)
  ·rw [app_length, app_length]
   show (Txt.slice t none (some k)).length + 1 + (Txt.slice t (some (k + 1)) none).length ≤ t.length + 2
   omega
 refine ⟨_, rfl, rfl, _, rfl, ite2 (fun _ => ?_) (fun _ => ?_)⟩
 ·have e2 : (Str.ofString ")(").length = 2 := by decide +kernel
  refine ⟨_, rfl, _, rfl, _, rfl, t, rfl, lz, _, _, rfl, rfl, ?_, _, rfl, _, rfl, _, rfl, t, rfl, lz, _, _, rfl, rfl, ?_, q _ _ (Same.refl H) ?_⟩
  ·rw [e2]; exact sz (by omega)
  ·rw [app_length, e2]; exact sz (by omega)
  ·rw [app_length, app_length, e2]; omega
 refine ⟨_, rfl, t, rfl, lz, fun p hp => ?_⟩
 have s1 := Same.new (Same.refl H) hp (.lst (t.cps.toList.map sgn))
 have ha : ∀ i : Int, 0 ≤ i → i < (t.length : Int) → atI t.cps.toList i = some (t.cps.toList.getD i.toNat 0) := fun i h1 h2 => by
  have hk : i.toNat < t.cps.toList.length := by rw [cps_len]; omega
  refine at_code h1 ?_
  rw [List.getD_eq_getElem?_getD, List.getElem?_eq_getElem hk]; rfl
 have e1 : (t.cps.toList.map sgn).length = t.length := by rw [List.length_map, cps_len]
 have ms : ∀ (l : List Nat) (i d : Nat), (l.map sgn).set i (.str ⟨#[d]⟩) = (l.set i d).map sgn := fun l i d => by rw [List.map_set]; rfl
 refine ⟨_, rfl, _, rfl, t, _, _, rfl, rfl, lz, ha j b0 b1, _, rfl, _, rfl, p, _, _, _, rfl, rfl, upd_same, ixN_nat a0 (by rw [e1]; exact a1), ?_⟩
 rw [ms, upd_upd]
 have e3 : ((t.cps.toList.set k.toNat (t.cps.toList.getD j.toNat 0)).map sgn).length = t.length := by rw [List.length_map, List.length_set, cps_len]
 refine ⟨_, rfl, _, rfl, t, _, _, rfl, rfl, lz, ha k a0 a1, _, rfl, _, rfl, p, _, _, _, rfl, rfl, upd_same, ixN_nat b0 (by rw [e3]; exact b1), ?_⟩
 rw [ms, upd_upd]
 generalize hls : (t.cps.toList.set k.toNat (t.cps.toList.getD j.toNat 0)).set j.toNat (t.cps.toList.getD k.toNat 0) = ls
 have lls : ls.length = t.length := by rw [← hls, List.length_set, List.length_set, cps_len]
 refine ⟨rfl, _, rfl, _, p, ls.map mkS, rfl, rfl, SqL.of (by rw [upd_same, map_sgn]), ?_, ?_⟩
 ·rw [sum_mkS]
  have e0 : (Str.ofString "").length = 0 := by decide +kernel
  show ls.length + (ls.map mkS).length * (Str.ofString "").length ≤ 16777216
  rw [e0, Nat.mul_zero]
  omega
 ·exact q _ _ (Same.new (Same.refl H) hp _) (by rw [len_of_codes (join_sgn ls)]; omega)
theorem ok_u64 {er : Errs} (EO : ErrOk K mg er) {ca : ClA} (CA : ClOk K mg ca) {f : Addr} {fd : FuncData} (F : Fun K "_law_text_by" "_law_text_by" s_u64 f fd) {f0 : Addr} {fd0 : FuncData} (d_u73 : Def P w K mg base "_law_draws" ["_law_script", "_law_turn", "_law_many"] 2 (sp_u73 K ca) f0 fd0) (m_range : mg "range" = none) : FnOk P w K mg base CX0 3 f fd ["_law_script", "_law_size", "_law_turn"] (sp_u64 K ca) := by
 refine F.ok sc_u64 (fun vs H Q E h => ?_) (fun cdv A outer s H vs Q E hr h => ?_)
 ·obtain ⟨a, ns, n, t, rfl, hS, h63, n0, n1, t0, t1, q⟩ := h
  rfl
 obtain ⟨a, ns, n, t, rfl, hS, h63, n0, n1, t0, t1, q⟩ := h
 refine ⟨_, pss_cons (ps_set (i := 3) sc_u64.nd rfl (Or.inl rfl) (pcall d_u73 hr (pa_cons (pv 0) (pa_cons (pv 2) (pa_cons pe_int pa_nil)))))
  (pss_cons (ps_set (i := 4) sc_u64.nd rfl (Or.inl rfl) (pe_op op_mod (pe_ix ix_list (pv 3) pe_int (fun _ _ => rfl)) pe_int))
  (pss_cons (ps_set (i := 5) sc_u64.nd rfl (Or.inl rfl) (pe_lst pa_nil))
  (pss_cons (ps_set (i := 6) sc_u64.nd rfl (Or.inl rfl) pe_int)
  (pss_cons (ps_for PassesOwn.never rfl (pi_range1 rfl m_range (pa_cons (pe_op op_mul pe_int (pv 1)) pa_nil)) (pg_name (i := 7) sc_u64.nd rfl (Or.inl rfl)) (pss_cons (ps_set (i := 8) sc_u64.nd rfl (Or.inl rfl) (pe_op op_sub (pe_op op_mul pe_int (pv 6)) (pv 7)))
  (pss_cons (ps_set (i := 9) sc_u64.nd rfl (Or.inl rfl) (pe_cmpR op_eq (pe_op op_mod (pe_ix ix_list (pv 3) (pv 7) (fun _ _ => rfl)) pe_int) pe_int (nomark _)))
  (pss_cons (ps_if (pt_cmpR op_eq (pv 4) pe_int (nomark _)) (pss_one (ps_set (i := 9) sc_u64.nd rfl (Or.inl rfl) (pe_cmpR op_gt (pe_op op_mod (pe_ix ix_list (pv 3) (pv 7) (fun _ _ => rfl)) pe_int) pe_int (nomark _)))) pss_nil)
  (pss_cut (ps_if (pt_cmpR op_eq (pv 4) pe_int (nomark _)) (pss_one (ps_set (i := 9) sc_u64.nd rfl (Or.inl rfl) (pe_cmpR op_eq (pe_op op_mod (pe_ix ix_list (pv 3) (pv 7) (fun _ _ => rfl)) pe_int) pe_int (nomark _)))) pss_nil)
  (pss_one (ps_if (PW.pt (pw_and (pt_cmpR op_lt (pv 6) (pv 1) (nomark _)) (pw_and1 (PW.pt (pw_or (pt_cmpR op_eq (pv 8) pe_int (nomark _)) (pw_or1 (pt_val (pv 9)))))))) (pss_cons (ps_expr (pe_bm PySem.F.plainAttrs_list PySem.F.slot_list_append PySem.F.type_list_append mt_append (pv 5) (pa_cons pe_str pa_nil)))
  (pss_one (ps_set (i := 6) sc_u64.nd rfl (Or.inl rfl) (pe_op op_add (pv 6) pe_int)))) (pss_one (ps_expr (pe_bm PySem.F.plainAttrs_list PySem.F.slot_list_append PySem.F.type_list_append mt_append (pv 5) (pa_cons pe_str pa_nil)))))))))))
  (pss_one (ps_ret (pe_bm PySem.F.plainAttrs_str PySem.F.slot_str_join PySem.F.type_str_join mt_join pe_str (pa_cons (pv 5) pa_nil)))))))), ?_⟩
 refine ⟨_, rfl, _, rfl, a, ns, t, 81, rfl, hS, h63, t0, t1, by decide, by decide, fun pd xs H1 sm1 fd hd lx bx => ?_⟩
 have lx' : xs.length = 81 := lx
 have at80 := atI_int (ns := xs) (i := 80) (by decide) (by omega)
 refine ⟨_, rfl, pd, _, _, _, rfl, rfl, SqL.of hd, at80, _, _, rfl, rfl, pm (by decide), ?_⟩
 try dsimp only
 generalize xs.getD (80 : Int).toNat 0 % 4 = e
 refine ⟨Nat.zero_le _, fun ps hps => ?_⟩
 have nps : pd ≠ ps := ne_of_none hd hps
 have fps : H ps = none := sm1.free hps
 refine ⟨_, rfl, _, _, rfl, rfl, .inl ⟨by decide, by decide⟩, _, rfl, by omega, by omega, for_range (lo := 0) (n := (2 * n).toNat) (fun i σ H' => ∃ (o1 o2 o3 : Option V) (l : List Nat) (u h : Nat), σ = [some (.ref a), some (.int n), some (.int t), some (.ref pd), some (.int e), some (.ref ps), some (.int u), o1, o2, o3] ∧ Same H H' ∧ H' pd = some (.lst (xs.map V.int)) ∧ H' ps = some (.lst (l.map sgn)) ∧ Beg n.toNat l i u h)
  ⟨_, _, _, [], 0, 0, rfl, Same.new sm1 hps _, (upd_ne nps).trans hd, upd_same, ⟨rfl, rfl, Nat.zero_le _, fun t => rfl⟩⟩ ?_ ?_⟩
 ·rintro i σ H5 hi ⟨o1, o2, o3, l, u, h, rfl, sm, hd5, hl, bg⟩
  have atk := atI_int (ns := xs) (i := (0 : Int) + (i : Int)) (by omega) (by omega)
  have bal := bg.bal
  have le := bg.le
  have ll := bg.len
  have lmap : (l.map sgn).length < sizeLine := by rw [List.length_map]; exact sz' (by omega)
  refine ⟨_, rfl, _, _, rfl, rfl, .inl ⟨by decide, by decide⟩, _, rfl, _, _, rfl, rfl, ?_⟩
  refine ⟨_, rfl, _, rfl, pd, _, _, _, rfl, rfl, SqL.of hd5, atk, _, _, rfl, rfl, pm (by decide), rfl, ?_⟩
  -- what the turn goes on with
  let P : L2.St → Hp → Prop := fun σ' H' => H' = H5 ∧ ∃ b : Bool, σ' = [some (.ref a), some (.int n), some (.int t), some (.ref pd), some (.int e), some (.ref ps), some (.int u), some (.int ((0 : Int) + (i : Int))), some (.int (2 * (u : Int) - ((0 : Int) + (i : Int)))), some (.bl b)]
  refine ⟨_, rfl, rfl, _, rfl, ite2 (fun _ => ⟨_, rfl, _, rfl, pd, _, _, _, rfl, rfl, SqL.of hd5, atk, _, _, rfl, rfl, pm (by decide), _, _, rfl, rfl, P, ?_, ?_⟩) (fun _ => ⟨P, ?_, ?_⟩)⟩
  case refine_1 => exact ⟨_, rfl, rfl, _, rfl, ite2 (fun _ => ⟨_, rfl, _, rfl, pd, _, _, _, rfl, rfl, SqL.of hd5, atk, _, _, rfl, rfl, pm (by decide), rfl, rfl, _, rfl⟩) (fun _ => ⟨rfl, _, rfl⟩)⟩
  case refine_3 => exact ⟨_, rfl, rfl, _, rfl, ite2 (fun _ => ⟨_, rfl, _, rfl, pd, _, _, _, rfl, rfl, SqL.of hd5, atk, _, _, rfl, rfl, pm (by decide), rfl, rfl, _, rfl⟩) (fun _ => ⟨rfl, _, rfl⟩)⟩
  all_goals
   rintro σ' H' ⟨rfl, b, rfl⟩
   refine ⟨_, rfl, _, rfl, _, _, rfl, rfl, _, rfl, ?_⟩
   by_cases hu : (u : Int) < n
   ·refine iteP hu ⟨_, rfl, rfl, _, rfl, ?_⟩
    by_cases hh : h = 0
    ·refine iteP (congrArg V.int (by omega)) (iteT ⟨_, rfl, .inl ⟨rfl, _, SqL.of hl⟩, ps, _, _, rfl, rfl, hl, lmap, _, rfl, _, _, rfl, rfl, ?_⟩)
     exact ⟨_, _, _, l ++ [40], u + 1, h + 1, rfl, sm.upd fps _, (upd_ne nps).trans hd5, by rw [upd_same, List.map_append, sgn40]; rfl, bg.up (by omega)⟩
    ·obtain ⟨h', rfl⟩ : ∃ h', h = h' + 1 := ⟨h - 1, by omega⟩
     refine iteN (fun z => by injection z with z; omega) ⟨_, rfl, _, rfl, ?_⟩
     cases b with
     | true =>
      refine iteT ⟨_, rfl, .inl ⟨rfl, _, SqL.of hl⟩, ps, _, _, rfl, rfl, hl, lmap, _, rfl, _, _, rfl, rfl, ?_⟩
      exact ⟨_, _, _, l ++ [40], u + 1, h' + 1 + 1, rfl, sm.upd fps _, (upd_ne nps).trans hd5, by rw [upd_same, List.map_append, sgn40]; rfl, bg.up (by omega)⟩
     | false =>
      refine iteF ⟨_, rfl, .inl ⟨rfl, _, SqL.of hl⟩, ps, _, _, rfl, rfl, hl, lmap, ?_⟩
      exact ⟨_, _, _, l ++ [41], u, h', rfl, sm.upd fps _, (upd_ne nps).trans hd5, by rw [upd_same, List.map_append, sgn41]; rfl, bg.down⟩
   ·obtain ⟨h', rfl⟩ : ∃ h', h = h' + 1 := ⟨h - 1, by omega⟩
    refine iteN hu (iteF ⟨_, rfl, .inl ⟨rfl, _, SqL.of hl⟩, ps, _, _, rfl, rfl, hl, lmap, ?_⟩)
    exact ⟨_, _, _, l ++ [41], u, h', rfl, sm.upd fps _, (upd_ne nps).trans hd5, by rw [upd_same, List.map_append, sgn41]; rfl, bg.down⟩
 ·rintro σ H5 ⟨o1, o2, o3, l, u, h, rfl, sm, hd5, hl, bg⟩
  have bal := bg.bal
  have le := bg.le
  have ll := bg.len
  have hz : h = 0 := by omega
  subst hz
  refine ⟨rfl, _, rfl, _, ps, l.map mkS, rfl, rfl, SqL.of (by rw [hl, map_sgn]), ?_, ?_⟩
  ·rw [sum_mkS]
   have e0 : (Str.ofString "").length = 0 := by decide +kernel
   show l.length + (l.map mkS).length * (Str.ofString "").length ≤ 16777216
   rw [e0, Nat.mul_zero]
   omega
  ·refine q _ H5 sm ?_ ?_
   ·rw [join_sgn]
    have := bg.clo []
    rw [List.append_nil] at this
    rw [this]; rfl
   ·rw [len_of_codes (join_sgn l), ll]; omega
theorem ok_u34 {er : Errs} (EO : ErrOk K mg er) {ca : ClA} (CA : ClOk K mg ca) {f : Addr} {fd : FuncData} (F : Fun K "_law_number_refused" "_law_number_refused" s_u34 f fd) {f0 : Addr} {fd0 : FuncData} (d_u78 : Def P w K mg base "_law_kin" ["_law_way"] 7 (sp_u78 K ca) f0 fd0) {fd1 : FuncData} (d_u28 : MDef P w K mg base ["self", "thing"] 45 (sp_u28 K ca er) ca.f_u28 fd1) {fd2 : FuncData} (d_u25 : MDef P w K mg base ["self", "thing"] 46 (sp_u25 K ca er) ca.f_u25 fd2) {fd3 : FuncData} (d_u20 : MDef P w K mg base ["self", "thing"] 46 (sp_u20 K ca er) ca.f_u20 fd3) {f4 : Addr} {fd4 : FuncData} (d_u63 : Def P w K mg base "_law_classes" ["_law_error"] 1 (sp_u63 K ca er) f4 fd4) : FnOk P w K mg base CX0 47 f fd ["_law_way", "_law_thing"] (sp_u34 K ca er) := by
 refine F.ok sc_u34 (fun vs H Q E h => ?_) (fun cdv A outer s H vs Q E hr h => ?_)
 ·obtain ⟨w, v, rfl, bad, q⟩ := h
  rfl
 obtain ⟨w, v, rfl, bad, q⟩ := h
 refine ⟨_, pss_cons (ps_set (i := 2) sc_u34.nd rfl (Or.inl rfl) pe_non)
  (pss_cons (ps_tryAs (i := 3) rfl rfl rfl sc_u34.nd rfl rfl rfl EO.m_kin (px_eit (px_meth (fun _ _ => (pcall d_u78 hr (pa_cons (pv 0) pa_nil))) CA.c_Brackets CA.mt_Brackets_number_of d_u20 hr (fun _ _ => (pa_cons (pv 1) pa_nil))) (px_eit (px_meth (fun _ _ => (pcall d_u78 hr (pa_cons (pv 0) pa_nil))) CA.c_Stairs CA.mt_Stairs_number_of d_u25 hr (fun _ _ => (pa_cons (pv 1) pa_nil))) (px_meth (fun _ _ => (pcall d_u78 hr (pa_cons (pv 0) pa_nil))) CA.c_Twins CA.mt_Twins_number_of d_u28 hr (fun _ _ => (pa_cons (pv 1) pa_nil))))) (fun _ => (pss_one (ps_set (i := 2) sc_u34.nd rfl (Or.inl rfl) (pv 3)))))
  (pss_one (ps_ret (pcall d_u63 hr (pa_cons (pv 2) pa_nil))))), ?_⟩
 rcases bad with ⟨rfl, bad⟩ | ⟨rfl, bad⟩
 ·skip
  refine (.inl ⟨_, rfl, 0, rfl, by decide, fun x dx fs wd H1 s1 k0 k1 k2 fl => ?_⟩)
  have hx := k0 rfl
  refine ⟨x, dx, fs, rfl, hx, fl.no "number_of" (by decide) (by decide), _, rfl, x, dx, fs, wd, v, rfl, hx, fl, .inr ⟨bad, fun H2 s2 => ⟨EO.c_thing, fun e he => ⟨_, rfl, ?_⟩⟩⟩⟩
  refine ⟨_, rfl, e, er.thing, _, rfl, upd_same, .inr (.inr ⟨rfl, rfl⟩), fun p H' sm fp hp => ?_⟩
  have s3 := Same.new (s1.trans s2) he (excO e (.ref er.thing))
  exact q p H' (s3.trans sm) (s3.free fp) hp
 ·skip
  refine (.inr (.inl ⟨_, rfl, 1, rfl, by decide, fun x dx fs wd H1 s1 k0 k1 k2 fl => ?_⟩))
  have hx := k1 rfl
  refine ⟨x, dx, fs, rfl, hx, fl.no "number_of" (by decide) (by decide), _, rfl, x, dx, fs, wd, v, rfl, hx, fl, .inr ⟨(by obtain ⟨p, rs, e, hp, b⟩ := bad; exact ⟨p, rs, e, s1 _ _ hp, b⟩), fun H2 s2 => ⟨EO.c_thing, fun e he => ⟨_, rfl, ?_⟩⟩⟩⟩
  refine ⟨_, rfl, e, er.thing, _, rfl, upd_same, .inr (.inr ⟨rfl, rfl⟩), fun p H' sm fp hp => ?_⟩
  have s3 := Same.new (s1.trans s2) he (excO e (.ref er.thing))
  exact q p H' (s3.trans sm) (s3.free fp) hp
theorem ok_u40 {er : Errs} (EO : ErrOk K mg er) {ca : ClA} (CA : ClOk K mg ca) {f : Addr} {fd : FuncData} (F : Fun K "_law_next_refused" "_law_next_refused" s_u40 f fd) {f0 : Addr} {fd0 : FuncData} (d_u78 : Def P w K mg base "_law_kin" ["_law_way"] 7 (sp_u78 K ca) f0 fd0) {fd1 : FuncData} (d_u32 : MDef P w K mg base ["self", "thing"] 46 (sp_u32 K ca er) ca.f_u32 fd1) {fd2 : FuncData} (d_u29 : MDef P w K mg base ["self", "thing"] 47 (sp_u29 K ca er) ca.f_u29 fd2) {fd3 : FuncData} (d_u24 : MDef P w K mg base ["self", "thing"] 47 (sp_u24 K ca er) ca.f_u24 fd3) {f4 : Addr} {fd4 : FuncData} (d_u63 : Def P w K mg base "_law_classes" ["_law_error"] 1 (sp_u63 K ca er) f4 fd4) : FnOk P w K mg base CX0 48 f fd ["_law_way", "_law_thing"] (sp_u40 K ca er) := by
 refine F.ok sc_u40 (fun vs H Q E h => ?_) (fun cdv A outer s H vs Q E hr h => ?_)
 ·obtain ⟨w, v, rfl, bad, q⟩ := h
  rfl
 obtain ⟨w, v, rfl, bad, q⟩ := h
 refine ⟨_, pss_cons (ps_set (i := 2) sc_u40.nd rfl (Or.inl rfl) pe_non)
  (pss_cons (ps_tryAs (i := 3) rfl rfl rfl sc_u40.nd rfl rfl rfl EO.m_kin (px_eit (px_meth (fun _ _ => (pcall d_u78 hr (pa_cons (pv 0) pa_nil))) CA.c_Brackets CA.mt_Brackets_next_of d_u24 hr (fun _ _ => (pa_cons (pv 1) pa_nil))) (px_eit (px_meth (fun _ _ => (pcall d_u78 hr (pa_cons (pv 0) pa_nil))) CA.c_Stairs CA.mt_Stairs_next_of d_u29 hr (fun _ _ => (pa_cons (pv 1) pa_nil))) (px_meth (fun _ _ => (pcall d_u78 hr (pa_cons (pv 0) pa_nil))) CA.c_Twins CA.mt_Twins_next_of d_u32 hr (fun _ _ => (pa_cons (pv 1) pa_nil))))) (fun _ => (pss_one (ps_set (i := 2) sc_u40.nd rfl (Or.inl rfl) (pv 3)))))
  (pss_one (ps_ret (pcall d_u63 hr (pa_cons (pv 2) pa_nil))))), ?_⟩
 rcases bad with ⟨rfl, bad⟩ | ⟨rfl, bad⟩
 ·skip
  refine (.inl ⟨_, rfl, 0, rfl, by decide, fun x dx fs wd H1 s1 k0 k1 k2 fl => ?_⟩)
  have hx := k0 rfl
  refine ⟨x, dx, fs, rfl, hx, fl.no "next_of" (by decide) (by decide), _, rfl, x, dx, fs, wd, v, rfl, hx, fl, .inr ⟨bad, fun H2 s2 => ⟨EO.c_thing, fun e he => ⟨_, rfl, ?_⟩⟩⟩⟩
  refine ⟨_, rfl, e, er.thing, _, rfl, upd_same, .inr (.inr ⟨rfl, rfl⟩), fun p H' sm fp hp => ?_⟩
  have s3 := Same.new (s1.trans s2) he (excO e (.ref er.thing))
  exact q p H' (s3.trans sm) (s3.free fp) hp
 ·skip
  refine (.inr (.inl ⟨_, rfl, 1, rfl, by decide, fun x dx fs wd H1 s1 k0 k1 k2 fl => ?_⟩))
  have hx := k1 rfl
  refine ⟨x, dx, fs, rfl, hx, fl.no "next_of" (by decide) (by decide), _, rfl, x, dx, fs, wd, v, rfl, hx, fl, .inr ⟨(by obtain ⟨p, rs, e, hp, b⟩ := bad; exact ⟨p, rs, e, s1 _ _ hp, b⟩), fun H2 s2 => ⟨EO.c_thing, fun e he => ⟨_, rfl, ?_⟩⟩⟩⟩
  refine ⟨_, rfl, e, er.thing, _, rfl, upd_same, .inr (.inr ⟨rfl, rfl⟩), fun p H' sm fp hp => ?_⟩
  have s3 := Same.new (s1.trans s2) he (excO e (.ref er.thing))
  exact q p H' (s3.trans sm) (s3.free fp) hp
theorem ok_u58 {er : Errs} (EO : ErrOk K mg er) {ca : ClA} (CA : ClOk K mg ca) {f : Addr} {fd : FuncData} (F : Fun K "_law_no_thing" "_law_no_thing" s_u58 f fd) {f0 : Addr} {fd0 : FuncData} (d_u61 : Def P w K mg base "_law_cell_at" ["_law_script", "_law_k"] 1 (sp_u61 K ca) f0 fd0) {f1 : Addr} {fd1 : FuncData} (d_u54 : Def P w K mg base "_law_stairs_by" ["_law_script", "_law_size", "_law_turn"] 3 (sp_u54 K ca) f1 fd1) {f2 : Addr} {fd2 : FuncData} (d_u79 : Def P w K mg base "_law_mix" ["_law_cell", "_law_turn"] 1 (sp_u79 K ca) f2 fd2) {f3 : Addr} {fd3 : FuncData} (d_u43 : Def P w K mg base "_law_spoiled_text" ["_law_text", "_law_cell"] 2 (sp_u43 K ca) f3 fd3) {f4 : Addr} {fd4 : FuncData} (d_u64 : Def P w K mg base "_law_text_by" ["_law_script", "_law_size", "_law_turn"] 3 (sp_u64 K ca) f4 fd4) {f5 : Addr} {fd5 : FuncData} (d_u66 : Def P w K mg base "_law_closes" ["_law_text"] 1 (sp_u66 K ca) f5 fd5) {f6 : Addr} {fd6 : FuncData} (d_u74 : Def P w K mg base "_law_told" ["_law_way", "_law_size", "_law_number"] 48 (sp_u74 K ca) f6 fd6) {fd7 : FuncData} (d_u39 : MDef P w K mg base ["self"] 5 (sp_u39 K ca) ca.f_u39 fd7) {fd8 : FuncData} (d_u20 : MDef P w K mg base ["self", "thing"] 46 (sp_u20 K ca er) ca.f_u20 fd8) {f9 : Addr} {fd9 : FuncData} (d_u34 : Def P w K mg base "_law_number_refused" ["_law_way", "_law_thing"] 47 (sp_u34 K ca er) f9 fd9) {f10 : Addr} {fd10 : FuncData} (d_u40 : Def P w K mg base "_law_next_refused" ["_law_way", "_law_thing"] 48 (sp_u40 K ca er) f10 fd10) (m_len : mg "len" = none) : FnOk P w K mg base CX0 49 f fd ["_law_way", "_law_script"] (sp_u58 K ca er) := by
 refine F.ok sc_u58 (fun vs H Q E h => ?_) (fun cdv A outer s H vs Q E hr h => ?_)
 ·obtain ⟨w, a, ns, rfl, hw, hS, h63, q⟩ := h
  rfl
 obtain ⟨w, a, ns, rfl, hw, hS, h63, q⟩ := h
 refine ⟨_, pss_cons (ps_set (i := 2) sc_u58.nd rfl (Or.inl rfl) (pe_op op_add pe_int (pe_op op_mod (pcall d_u61 hr (pa_cons (pv 1) (pa_cons pe_int pa_nil))) pe_int)))
  (pss_cons (ps_if (pt_cmpR op_eq (pv 0) pe_int (nomark _)) (pss_cons (ps_set (i := 3) sc_u58.nd rfl (Or.inl rfl) (pcall d_u54 hr (pa_cons (pv 1) (pa_cons (pv 2) (pa_cons pe_int pa_nil)))))
  (pss_cons (ps_set (i := 4) sc_u58.nd rfl (Or.inl rfl) (pe_op op_mod (pcall d_u61 hr (pa_cons (pv 1) (pa_cons pe_int pa_nil))) (pe_op op_pow pe_int pe_int)))
  (pss_cons (ps_set (i := 5) sc_u58.nd rfl (Or.inl rfl) (pe_op op_mod (pcall d_u79 hr (pa_cons (pcall d_u61 hr (pa_cons (pv 1) (pa_cons pe_int pa_nil))) (pa_cons pe_int pa_nil))) (pv 2)))
  (pss_one (ps_set (i := 6) sc_u58.nd rfl (Or.inl rfl) (pe_op op_cat (pe_op op_cat (pe_slice sl_list (pv 3) po_none (po_some (pv 5))) (pe_lst (pa_cons (pe_ix ix_list (pe_lst (pa_cons (pe_op op_add (pv 2) (pv 4)) (pa_cons (pe_op op_sub (pe_un un_neg pe_int) (pv 4)) (pa_cons (pe_op op_add (pv 5) pe_int) pa_nil)))) (pe_op op_mod (pcall d_u61 hr (pa_cons (pv 1) (pa_cons pe_int pa_nil))) pe_int) (fun _ _ => rfl)) pa_nil))) (pe_slice sl_list (pv 3) (po_some (pe_op op_add (pv 5) pe_int)) po_none))))))) (pss_cons (ps_set (i := 6) sc_u58.nd rfl (Or.inl rfl) (pcall d_u43 hr (pa_cons (pcall d_u64 hr (pa_cons (pv 1) (pa_cons (pv 2) (pa_cons pe_int pa_nil)))) (pa_cons (pcall d_u61 hr (pa_cons (pv 1) (pa_cons pe_int pa_nil))) pa_nil))))
  (pss_one (ps_if (pt_val (pcall d_u66 hr (pa_cons (pv 6) pa_nil))) (pss_one (ps_ret (pcall d_u74 hr (pa_cons pe_int (pa_cons (pe_op op_fdivL (pe_callB call_len_str rfl m_len bb_len (pa_cons (pv 6) pa_nil)) pe_int) (pa_cons (pmeth (pmake0 CA.mk_Brackets CA.m_Brackets d_u39 hr) CA.c_Brackets CA.mt_Brackets_number_of d_u20 hr (pa_cons (pv 6) pa_nil)) pa_nil)))))) pss_nil))))
  (pss_one (ps_ret (pe_and (pe_cmpR (op_eq_list (hu0 hr)) (pcall d_u34 hr (pa_cons (pv 0) (pa_cons (pv 6) pa_nil))) (pe_lst (pa_cons pe_str pa_nil)) (nomark _)) (pe_one (pe_cmpR (op_eq_list (hu0 hr)) (pcall d_u40 hr (pa_cons (pv 0) (pa_cons (pv 6) pa_nil))) (pe_lst (pa_cons pe_str pa_nil)) (nomark _))))))), ?_⟩
 have z0 := Int.emod_nonneg (ns.getD (3 : Int).toNat 0) (show (39 : Int) ≠ 0 by decide)
 have z1 := Int.emod_lt_of_pos (ns.getD (3 : Int).toNat 0) (show (0 : Int) < 39 by decide)
 refine ⟨_, rfl, a, ns, 3, rfl, hS, by decide, _, _, rfl, rfl, pm (by decide), _, _, rfl, rfl, ?_⟩
 try dsimp only
 obtain ⟨n, en⟩ : ∃ n : Nat, 1 + ns.getD (3 : Int).toNat 0 % 39 = (n : Int) := ⟨(1 + ns.getD (3 : Int).toNat 0 % 39).toNat, by omega⟩
 rw [en]
 have n1 : 1 ≤ n := by omega
 have n39 : n ≤ 39 := by omega
 clear z0 z1 en
 refine ⟨_, rfl, rfl, _, rfl, ?_⟩
 rcases (by omega : w = 0 ∨ w = 1) with rfl | rfl
 ·refine iteN (by decide) ?_
  refine ⟨_, rfl, _, rfl, a, ns, (n : Int), 3, rfl, hS, h63, by omega, by omega, by decide, by decide, fun y H1 s1 cy ly => ?_⟩
  have ly : y.length = 2 * n := by omega
  refine ⟨_, rfl, a, ns, 4, rfl, s1.seq hS, by decide, y, _, rfl, by omega, by omega, fun x2 H2 s2 l2 => ?_⟩
  refine ⟨_, rfl, x2, rfl, _, rfl, ?_⟩
  cases hb : clo 0 x2.cps.toList with
  | true =>
   obtain ⟨t, ht⟩ := brk_all x2.cps.toList.length x2.cps.toList (Nat.le_refl _) hb
   have lt : x2.length = 2 * t.size := by rw [← cps_len, ← ht, brk_len]
   have h40 : t.size ≤ 40 := by omega
   refine iteT ⟨_, rfl, x2, rfl, sz (by omega), _, _, rfl, rfl, ⟨by decide, by decide +kernel⟩, ?_⟩
   intro x dx nx ndx nex
   refine ⟨x, dx, rfl, upd_same, fun fs H3 e3 fl => ⟨rfl, ?_⟩⟩
   have hx : H3 x = some (.ins ca.C_Brackets dx fs) := by rw [e3]; exact upd_same
   refine ⟨x, dx, fs, rfl, hx, fl.no "number_of" (by decide) (by decide), _, rfl, x, dx, fs, _, .str x2, rfl, hx, fl, .inl ⟨t, ⟨x2, rfl, ht.symm⟩, h40, fun H4 s4 => ?_⟩⟩
   exact ⟨0, t, congrArg (fun k : Int => [V.int ((0 : Nat) : Int), V.int k, V.int (bnum t)]) (show ((x2.length : Nat) : Int) / 2 = (t.size : Int) by omega), by decide, h40, q⟩
  | false =>
   refine iteF ⟨_, rfl, _, rfl, 0, .str x2, rfl, .inl ⟨rfl, x2, rfl, hb⟩, fun p H3 s3 f3 h3 => eq_told h3 fun H4 s4 => ⟨_, rfl, iteT ?_⟩⟩
   exact ⟨_, rfl, _, rfl, 0, .str x2, rfl, .inl ⟨rfl, x2, rfl, hb⟩, fun p H3 s3 f3 h3 => eq_told h3 fun H4 s4 => q _⟩
 ·refine iteP rfl ?_
  refine ⟨_, rfl, _, rfl, a, ns, n, 3, rfl, hS, h63, by omega, by decide, by decide, fun p rs b H1 s1 f1 hp lr st => ?_⟩
  have lm : (rs.map V.int).length = rs.length := List.length_map _
  refine ⟨_, rfl, a, ns, 4, rfl, s1.seq hS, by decide, _, _, rfl, rfl, ⟨by decide, by decide, by decide⟩, _, _, rfl, rfl, (by show (0 : Int) < 10 ^ 59; decide), ?_⟩
  have g0 := Int.emod_nonneg (ns.getD (4 : Int).toNat 0) (show (10 : Int) ^ 59 ≠ 0 by decide)
  refine ⟨_, rfl, a, ns, 4, rfl, s1.seq hS, by decide, _, 19, rfl, by decide, by decide, fun m m0 m1 => ⟨_, rfl, _, _, rfl, rfl, by omega, ?_⟩⟩
  have e0 := Int.emod_nonneg m (show (n : Int) ≠ 0 by omega)
  have e1 := Int.emod_lt_of_pos m (show (0 : Int) < (n : Int) by omega)
  try dsimp only
  obtain ⟨k, ek⟩ : ∃ k : Nat, m % (n : Int) = (k : Int) := ⟨(m % (n : Int)).toNat, by omega⟩
  rw [ek] at e0 e1 ⊢
  obtain ⟨g, eg⟩ : ∃ g : Int, ns.getD (4 : Int).toNat 0 % 10 ^ Int.toNat 59 = g := ⟨_, rfl⟩
  have g0 : 0 ≤ g := by rw [← eg]; exact g0
  rw [eg]
  clear eg ek m0 m1
  refine ⟨_, rfl, _, rfl, _, rfl, p, _, rfl, SqL.of hp, fun p1 hp1 => ?_⟩
  have c1 : cutV (rs.map V.int) none (some (k : Int)) = (rs.take k).map V.int := by
   rw [cutV_to, List.map_take]
  rw [c1]
  have s2 := Same.new s1 hp1 (.lst ((rs.take k).map V.int))
  have h1 : upd H1 p1 (.lst ((rs.take k).map V.int)) p1 = some (.lst ((rs.take k).map V.int)) := upd_same
  have hp2 := Same.new (Same.refl H1) hp1 (.lst ((rs.take k).map V.int)) _ _ hp
  generalize upd H1 p1 (.lst ((rs.take k).map V.int)) = H2 at s2 h1 hp2 ⊢
  refine ⟨_, rfl, _, rfl, _, _, rfl, rfl, _, rfl, _, rfl, _, _, rfl, rfl, _, rfl, _, _, rfl, rfl, (by show 3 ≤ sizeLine; decide), fun l hl => ?_⟩
  try dsimp only
  have s3 := Same.new s2 hl (.lst [.int ((n : Int) + g), .int (-1 - g), .int ((k : Int) + 1)])
  have k3 := Same.new (Same.refl H2) hl (.lst [.int ((n : Int) + g), .int (-1 - g), .int ((k : Int) + 1)])
  have hl3 : upd H2 l (.lst [.int ((n : Int) + g), .int (-1 - g), .int ((k : Int) + 1)]) l = some (.lst [.int ((n : Int) + g), .int (-1 - g), .int ((k : Int) + 1)]) := upd_same
  generalize upd H2 l (.lst [.int ((n : Int) + g), .int (-1 - g), .int ((k : Int) + 1)]) = H3 at s3 k3 hl3 ⊢
  obtain ⟨f, hf, hbad⟩ : ∃ f, atI [V.int ((n : Int) + g), V.int (-1 - g), V.int ((k : Int) + 1)] (ns.getD (5 : Int).toNat 0 % 3) = some (.int f) ∧ (f < 0 ∨ (k : Int) < f) := by
   have j0 := Int.emod_nonneg (ns.getD (5 : Int).toNat 0) (show (3 : Int) ≠ 0 by decide)
   have j1 := Int.emod_lt_of_pos (ns.getD (5 : Int).toNat 0) (show (0 : Int) < 3 by decide)
   generalize ns.getD (5 : Int).toNat 0 % 3 = j at j0 j1
   rcases (by omega : j = 0 ∨ j = 1 ∨ j = 2) with rfl | rfl | rfl
   ·exact ⟨_, rfl, .inr (by omega)⟩
   ·exact ⟨_, rfl, .inl (by omega)⟩
   ·exact ⟨_, rfl, .inr (by omega)⟩
  refine ⟨_, rfl, a, ns, 5, rfl, s3.seq hS, by decide, _, _, rfl, rfl, pm (by decide), l, _, _, _, rfl, rfl, SqL.of hl3, hf, (by show 1 ≤ sizeLine; decide), fun p4 hp4 => ?_⟩
  have s4 := Same.new s3 hp4 (.lst [.int f])
  have h4 := (upd_ne (o := .lst [.int f]) (ne_of_none (k3 _ _ h1) hp4)).trans (k3 _ _ h1)
  have hq4 := Same.new k3 hp4 (.lst [.int f]) _ _ hp2
  refine ⟨p1, p4, _, _, rfl, rfl, h4, upd_same, by rw [List.length_map, List.length_take]; exact sz (by simp; omega), fun p5 hp5 => ?_⟩
  generalize upd H3 p4 (.lst [.int f]) = H4 at s4 hq4 hp5 ⊢
  have s5 := Same.new s4 hp5 (.lst ((rs.take k).map V.int ++ [.int f]))
  have h5 : upd H4 p5 (.lst ((rs.take k).map V.int ++ [.int f])) p5 = some (.lst ((rs.take k).map V.int ++ [.int f])) := upd_same
  have hq5 := Same.new (Same.refl H4) hp5 (.lst ((rs.take k).map V.int ++ [.int f])) _ _ hq4
  generalize upd H4 p5 (.lst ((rs.take k).map V.int ++ [.int f])) = H5 at s5 h5 hq5 ⊢
  refine ⟨_, rfl, _, rfl, _, _, rfl, rfl, _, rfl, p, _, rfl, SqL.of hq5, fun p6 hp6 => ?_⟩
  try dsimp only
  have c2 : cutV (rs.map V.int) (some ((k : Int) + 1)) none = (rs.drop (k + 1)).map V.int := by
   rw [show (k : Int) + 1 = ((k + 1 : Nat) : Int) by omega, cutV_from, List.map_drop]
  rw [c2]
  have s6 := Same.new s5 hp6 (.lst ((rs.drop (k + 1)).map V.int))
  have h6 := (upd_ne (o := .lst ((rs.drop (k + 1)).map V.int)) (ne_of_none h5 hp6)).trans h5
  refine ⟨p5, p6, _, _, rfl, rfl, h6, upd_same, by simp only [List.length_append, List.length_map, List.length_take, List.length_drop]; exact sz (by simp; omega), fun r hr => ?_⟩
  have er : (rs.take k).map V.int ++ [.int f] ++ (rs.drop (k + 1)).map V.int = (rs.take k ++ f :: rs.drop (k + 1)).map V.int := by simp
  rw [er]
  have hr7 : ∀ (M : Hp), upd M r (.lst ((rs.take k ++ f :: rs.drop (k + 1)).map V.int)) r = some (.lst ((rs.take k ++ f :: rs.drop (k + 1)).map V.int)) := fun M => upd_same
  have hr7 := hr7 (upd H5 p6 (.lst ((rs.drop (k + 1)).map V.int)))
  generalize upd (upd H5 p6 (.lst ((rs.drop (k + 1)).map V.int))) r (.lst ((rs.take k ++ f :: rs.drop (k + 1)).map V.int)) = H7 at hr7 ⊢
  have hb : stF 0 0 (rs.take k ++ f :: rs.drop (k + 1)) = false := stF_far _ 0 0 (Int.le_refl _) (by rw [List.length_take]; omega)
  refine ⟨_, rfl, _, rfl, 1, .ref r, rfl, .inr ⟨rfl, r, _, rfl, hr7, hb⟩, fun p H3 s3 f3 h3 => eq_told h3 fun H4 s4 => ⟨_, rfl, iteT ?_⟩⟩
  exact ⟨_, rfl, _, rfl, 1, .ref r, rfl, .inr ⟨rfl, r, _, rfl, (s3.trans s4) _ _ hr7, hb⟩, fun p H3 s3 f3 h3 => eq_told h3 fun H4 s4 => q _⟩
theorem ok_u83 {er : Errs} (EO : ErrOk K mg er) {ca : ClA} (CA : ClOk K mg ca) {f : Addr} {fd : FuncData} (F : Fun K "law" "law" s_u83 f fd) {f0 : Addr} {fd0 : FuncData} (d_u61 : Def P w K mg base "_law_cell_at" ["_law_script", "_law_k"] 1 (sp_u61 K ca) f0 fd0) {f1 : Addr} {fd1 : FuncData} (d_u71 : Def P w K mg base "_law_share" ["_law_size"] 1 (sp_u71 K ca) f1 fd1) {f2 : Addr} {fd2 : FuncData} (d_u74 : Def P w K mg base "_law_told" ["_law_way", "_law_size", "_law_number"] 48 (sp_u74 K ca) f2 fd2) {f3 : Addr} {fd3 : FuncData} (d_u36 : Def P w K mg base "_law_thing_refused" ["_law_way", "_law_size", "_law_number"] 47 (sp_u36 K ca er) f3 fd3) {f4 : Addr} {fd4 : FuncData} (d_u37 : Def P w K mg base "_law_sizes_refused" ["_law_way", "_law_size", "_law_number"] 48 (sp_u37 K ca er) f4 fd4) {f5 : Addr} {fd5 : FuncData} (d_u58 : Def P w K mg base "_law_no_thing" ["_law_way", "_law_script"] 49 (sp_u58 K ca er) f5 fd5) : FnOk P w K mg base CX0 50 f fd ["_law_script"] (sp_u83 K ca er) := by
 refine F.ok sc_u83 (fun vs H Q E h => ?_) (fun cdv A outer s H vs Q E hr h => ?_)
 ·obtain ⟨a, ns, rfl, hS, h63, q⟩ := h
  rfl
 obtain ⟨a, ns, rfl, hS, h63, q⟩ := h
 refine ⟨_, pss_cons (ps_set (i := 1) sc_u83.nd rfl (Or.inl rfl) (pe_op op_mod (pcall d_u61 hr (pa_cons (pv 0) (pa_cons pe_int pa_nil))) pe_int))
  (pss_cons (ps_set (i := 2) sc_u83.nd rfl (Or.inl rfl) (pe_op op_mod (pcall d_u61 hr (pa_cons (pv 0) (pa_cons pe_int pa_nil))) pe_int))
  (pss_cons (ps_set (i := 3) sc_u83.nd rfl (Or.inl rfl) (pe_op op_mod (pcall d_u61 hr (pa_cons (pv 0) (pa_cons pe_int pa_nil))) (pe_op op_pow pe_int pe_int)))
  (pss_cons (ps_set (i := 4) sc_u83.nd rfl (Or.inl rfl) (pcall d_u71 hr (pa_cons (pv 2) pa_nil)))
  (pss_cons (ps_set (i := 5) sc_u83.nd rfl (Or.inl rfl) (pe_op op_mod (pcall d_u61 hr (pa_cons (pv 0) (pa_cons pe_int pa_nil))) pe_int))
  (pss_cons (ps_if (pt_cmpR op_eq (pv 5) pe_int (nomark _)) (pss_one (ps_ret (pcall d_u74 hr (pa_cons (pv 1) (pa_cons (pv 2) (pa_cons pe_int pa_nil)))))) pss_nil)
  (pss_cons (ps_if (pt_cmpR op_eq (pv 5) pe_int (nomark _)) (pss_one (ps_ret (pcall d_u74 hr (pa_cons (pv 1) (pa_cons (pv 2) (pa_cons (pe_op op_sub (pv 4) pe_int) pa_nil)))))) pss_nil)
  (pss_cons (ps_if (pt_cmpR op_eq (pv 5) pe_int (nomark _)) (pss_one (ps_ret (pe_cmpR (op_eq_list (hu0 hr)) (pcall d_u36 hr (pa_cons (pv 1) (pa_cons (pv 2) (pa_cons (pe_op op_add (pv 4) (pv 3)) pa_nil)))) (pe_lst (pa_cons pe_str pa_nil)) (nomark _)))) pss_nil)
  (pss_cons (ps_if (pt_cmpR op_eq (pv 5) pe_int (nomark _)) (pss_cons (ps_if (pt_cmpR (op_ne_list (hu0 hr)) (pcall d_u36 hr (pa_cons (pv 1) (pa_cons (pv 2) (pa_cons (pv 4) pa_nil)))) (pe_lst (pa_cons pe_str pa_nil)) (nomark _)) (pss_one (ps_ret pe_bl)) pss_nil)
  (pss_one (ps_ret (pe_cmpR (op_eq_list (hu0 hr)) (pcall d_u36 hr (pa_cons (pv 1) (pa_cons (pv 2) (pa_cons (pe_op op_sub (pe_un un_neg pe_int) (pv 3)) pa_nil)))) (pe_lst (pa_cons pe_str pa_nil)) (nomark _))))) pss_nil)
  (pss_cons (ps_if (pt_cmpR op_eq (pv 5) pe_int (nomark _)) (pss_cons (ps_set (i := 6) sc_u83.nd rfl (Or.inl rfl) (pe_ix ix_list (pe_lst (pa_cons pe_int (pa_cons (pe_op op_sub (pe_un un_neg pe_int) (pv 3)) (pa_cons (pv 4) (pa_cons (pv 3) pa_nil))))) (pe_op op_mod (pcall d_u61 hr (pa_cons (pv 0) (pa_cons pe_int pa_nil))) pe_int) (fun _ _ => rfl)))
  (pss_cons (ps_if (PW.pt (pw_or (pt_not (pt_val (pcall d_u37 hr (pa_cons (pv 1) (pa_cons (pe_op op_add pe_int (pv 3)) (pa_cons (pv 6) pa_nil)))))) (pw_or1 (pt_not (pt_val (pcall d_u37 hr (pa_cons (pv 1) (pa_cons (pe_op op_sub (pe_un un_neg pe_int) (pv 3)) (pa_cons (pv 6) pa_nil))))))))) (pss_one (ps_ret pe_bl)) pss_nil)
  (pss_one (ps_ret (pe_and (pcall d_u37 hr (pa_cons (pv 1) (pa_cons pe_int (pa_cons (pv 6) pa_nil)))) (pe_one (pcall d_u37 hr (pa_cons (pv 1) (pa_cons (pe_un un_neg pe_int) (pa_cons (pv 6) pa_nil)))))))))) pss_nil)
  (pss_cons (ps_if (PW.pt (pw_and (pt_cmpR op_eq (pv 5) pe_int (nomark _)) (pw_and1 (pt_cmpR op_lt (pv 1) pe_int (nomark _))))) (pss_one (ps_ret (pcall d_u58 hr (pa_cons (pv 1) (pa_cons (pv 0) pa_nil))))) pss_nil)
  (pss_cons (ps_for PassesOwn.never rfl (pi_list (pe_slice sl_list (pv 0) (po_some pe_int) (po_some pe_int))) (pg_name (i := 7) sc_u83.nd rfl (Or.inl rfl)) (pss_one (ps_set (i := 3) sc_u83.nd rfl (Or.inl rfl) (pe_op op_mod (pe_op op_add (pe_op op_mulB (pv 3) pe_int) (pe_op op_mod (pv 7) (pe_op op_pow pe_int pe_int))) (pe_op op_pow pe_int pe_int)))))
  (pss_one (ps_ret (pcall d_u74 hr (pa_cons (pv 1) (pa_cons (pv 2) (pa_cons (pe_op op_mod (pv 3) (pv 4)) pa_nil))))))))))))))))), ?_⟩
 have w0 := Int.emod_nonneg (ns.getD (0 : Int).toNat 0) (show (3 : Int) ≠ 0 by decide)
 have w3 := Int.emod_lt_of_pos (ns.getD (0 : Int).toNat 0) (show (0 : Int) < 3 by decide)
 have z0 := Int.emod_nonneg (ns.getD (1 : Int).toNat 0) (show (41 : Int) ≠ 0 by decide)
 have z1 := Int.emod_lt_of_pos (ns.getD (1 : Int).toNat 0) (show (0 : Int) < 41 by decide)
 have y0 := Int.emod_nonneg (ns.getD (2 : Int).toNat 0) (show (10 : Int) ^ 60 ≠ 0 by decide)
 have y1 := Int.emod_lt_of_pos (ns.getD (2 : Int).toNat 0) (show (0 : Int) < (10 : Int) ^ 60 by decide)
 refine ⟨_, rfl, a, ns, 0, rfl, hS, by decide, _, _, rfl, rfl, pm (by decide), ?_⟩
 refine ⟨_, rfl, a, ns, 1, rfl, hS, by decide, _, _, rfl, rfl, pm (by decide), ?_⟩
 refine ⟨_, rfl, a, ns, 2, rfl, hS, by decide, _, _, rfl, rfl, ⟨by decide, by decide, by decide⟩, _, _, rfl, rfl, (by show (0 : Int) < 10 ^ 60; decide), ?_⟩
 try dsimp only
 obtain ⟨w, ew⟩ : ∃ w : Nat, ns.getD (0 : Int).toNat 0 % 3 = (w : Int) := ⟨(ns.getD (0 : Int).toNat 0 % 3).toNat, by omega⟩
 obtain ⟨n, en⟩ : ∃ n : Nat, ns.getD (1 : Int).toNat 0 % 41 = (n : Int) := ⟨(ns.getD (1 : Int).toNat 0 % 41).toNat, by omega⟩
 obtain ⟨f, ef⟩ : ∃ f : Int, ns.getD (2 : Int).toNat 0 % 10 ^ Int.toNat 60 = f := ⟨_, rfl⟩
 have f0 : 0 ≤ f := by rw [← ef]; exact y0
 have f1 : f < 10 ^ 60 := by rw [← ef]; exact y1
 rw [ew] at w3 ⊢
 rw [en] at z1 ⊢
 rw [ef]
 have hw : w ≤ 2 := by omega
 have hn : n ≤ 40 := by omega
 clear ew en ef w0 z0 y0 y1
 refine ⟨_, rfl, _, rfl, by omega, by omega, ?_⟩
 rw [Int.toNat_natCast]
 have sp1 := sh_pos n
 have ecR : cR n = sh n := (sh_cR (by omega)).symm
 have told : ∀ m : Int, 0 ≤ m → m < sh n → ∃ t : Bt, t.size = n ∧ bnum t = m := fun m h0 h1 => bnum_all n m h0 h1
 refine ⟨_, rfl, a, ns, 6, rfl, hS, by decide, _, _, rfl, rfl, pm (by decide), ?_⟩
 try dsimp only
 generalize ns.getD (6 : Int).toNat 0 % 9 = kd
 rw [ecR]
 refine ⟨_, rfl, rfl, _, rfl, ite2 (fun _ => ?_) (fun _ => ?_)⟩
 ·obtain ⟨t, rfl, et⟩ := told 0 (Int.le_refl _) (by omega)
  exact ⟨_, rfl, _, rfl, w, t, (by rw [et] <;> rfl), hw, hn, q⟩
 refine ⟨_, rfl, rfl, _, rfl, ite2 (fun _ => ?_) (fun _ => ?_)⟩
 ·obtain ⟨t, rfl, et⟩ := told (sh n - 1) (by omega) (by omega)
  exact ⟨_, rfl, _, rfl, _, rfl, _, _, rfl, rfl, w, t, (by rw [et] <;> rfl), hw, hn, q⟩
 refine ⟨_, rfl, rfl, _, rfl, ite2 (fun _ => ?_) (fun _ => ?_)⟩
 ·exact ⟨_, rfl, _, rfl, _, rfl, _, rfl, _, _, rfl, rfl, w, (n : Int), sh n + f, _, rfl, hw, .inr ⟨by omega, by omega, .inr (by rw [Int.toNat_natCast]; omega), rfl⟩, fun p H1 s1 f1 h1 => eq_told h1 fun H2 s2 => q _⟩
 refine ⟨_, rfl, rfl, _, rfl, ite2 (fun _ => ?_) (fun _ => ?_)⟩
 ·refine ⟨_, rfl, _, rfl, _, rfl, w, (n : Int), sh n, _, rfl, hw, .inr ⟨by omega, by omega, .inr (by rw [Int.toNat_natCast]; omega), rfl⟩, fun p H1 s1 f1 h1 => ne_told h1 fun H2 s2 => ⟨_, rfl, iteF ?_⟩⟩
  exact ⟨_, rfl, _, rfl, _, rfl, _, rfl, _, _, rfl, rfl, w, (n : Int), -1 - f, _, rfl, hw, .inr ⟨by omega, by omega, .inl (by omega), rfl⟩, fun p H1 s1 f1 h1 => eq_told h1 fun H2 s2 => q _⟩
 refine ⟨_, rfl, rfl, _, rfl, ite2 (fun _ => ?_) (fun _ => ?_)⟩
 ·refine ⟨_, rfl, _, rfl, _, _, rfl, rfl, _, rfl, _, rfl, (by show 4 ≤ sizeLine; decide), fun l hl => ?_⟩
  have s1 := Same.new (Same.refl H) hl (.lst [.int 0, .int (-1 - f), .int (sh n), .int f])
  obtain ⟨m, hm⟩ : ∃ m, atI [V.int 0, V.int (-1 - f), V.int (sh n), V.int f] (ns.getD (3 : Int).toNat 0 % 4) = some (.int m) := by
   have j0 := Int.emod_nonneg (ns.getD (3 : Int).toNat 0) (show (4 : Int) ≠ 0 by decide)
   have j1 := Int.emod_lt_of_pos (ns.getD (3 : Int).toNat 0) (show (0 : Int) < 4 by decide)
   generalize ns.getD (3 : Int).toNat 0 % 4 = j at j0 j1
   rcases (by omega : j = 0 ∨ j = 1 ∨ j = 2 ∨ j = 3) with rfl | rfl | rfl | rfl <;> exact ⟨_, rfl⟩
  refine ⟨_, rfl, a, ns, 3, rfl, s1.seq hS, by decide, _, _, rfl, rfl, pm (by decide), l, _, _, _, rfl, rfl, SqL.of upd_same, hm, ?_⟩
  refine ⟨_, rfl, _, rfl, _, _, rfl, rfl, _, rfl, w, 41 + f, m, rfl, hw, .inr (by omega), fun H2 s2 => ⟨_, rfl, iteF ?_⟩⟩
  refine ⟨_, rfl, _, rfl, _, rfl, _, _, rfl, rfl, _, rfl, w, -1 - f, m, rfl, hw, .inl (by omega), fun H3 s3 => ⟨_, rfl, iteF ?_⟩⟩
  refine ⟨_, rfl, _, rfl, w, 41, m, rfl, hw, .inr (by omega), fun H4 s4 => ⟨_, rfl, iteT ?_⟩⟩
  exact ⟨_, rfl, _, rfl, _, rfl, w, -1, m, rfl, hw, .inl (by omega), fun H5 s5 => q _⟩
 have last : True := trivial
 refine ⟨_, rfl, rfl, _, rfl, ite2 (fun _ => ⟨_, rfl, _, _, rfl, rfl, _, rfl, ite2 (fun c2 => ?_) (fun _ => ?_)⟩) (fun _ => iteF ?_)⟩
 ·have c2 : (w : Int) < 2 := of_decide_eq_true c2
  exact ⟨_, rfl, _, rfl, w, a, ns, rfl, by omega, hS, h63, q⟩
 all_goals
  refine ⟨_, rfl, _, rfl, _, rfl, a, _, rfl, hS, fun p hp => ⟨p, rfl, ⟨_, SqL.of upd_same⟩, ?_⟩⟩
  rw [cutV_map]
  have s1 := Same.new (Same.refl H) hp (.lst ((cutI ns (some 7) (some 63)).map V.int))
  refine for_list (xs := (cutI ns (some 7) (some 63)).map V.int) (fun i σ H' => ∃ (o1 o2 : Option V) (m : Int), σ = [some (.ref a), some (.int (w : Int)), some (.int (n : Int)), some (.int m), some (.int (sh n)), some (.int kd), o1, o2] ∧ Same H H' ∧ H' p = some (.lst ((cutI ns (some 7) (some 63)).map V.int)) ∧ 0 ≤ m ∧ m < 10 ^ 60) ⟨_, _, f, rfl, s1, upd_same, f0, f1⟩ (fun i σ H' _ h => by obtain ⟨_, _, _, _, _, h, _⟩ := h; exact SqL.of h) ?_ ?_
  ·rintro i x σ H' hx ⟨o1, o2, m, rfl, sm, hp', m0, m1⟩
   obtain ⟨c, rfl⟩ := get_int hx
   refine ⟨_, rfl, _, _, rfl, rfl, ⟨Nat.lt_of_lt_of_le (show m.natAbs < 10 ^ 60 by omega) (by decide), by decide⟩, _, rfl, _, _, rfl, rfl, ⟨by decide, by decide, by decide⟩, _, _, rfl, rfl, (by show (0 : Int) < 10 ^ 20; decide), _, _, rfl, rfl, _, _, rfl, rfl, ⟨by decide, by decide, by decide⟩, _, _, rfl, rfl, (by show (0 : Int) < 10 ^ 60; decide), ?_⟩
   exact ⟨_, _, _, rfl, sm, hp', Int.emod_nonneg _ (by decide), Int.emod_lt_of_pos _ (by decide)⟩
  ·rintro σ H1 ⟨o1, o2, m, rfl, sm, _, m0, m1⟩
   obtain ⟨t, rfl, et⟩ := told (m % sh n) (Int.emod_nonneg _ (by omega)) (Int.emod_lt_of_pos _ (by omega))
   exact ⟨_, rfl, _, rfl, _, rfl, _, rfl, _, _, rfl, rfl, by omega, w, t, (by rw [et] <;> rfl), hw, hn, q⟩
end
noncomputable def spL (K : PySem.W.Frag) : Sp := fun vs H Q _ => ∃ (a : Addr) (ns : List Int), vs = [.ref a] ∧ SqL K H a (ns.map V.int) ∧ ns.length ≤ 63 ∧ ∀ H', Q (.bl true) H'
theorem lenAll1 {P : List Value → Prop} (h : ∀ a0 : Value, P [a0]) : ∀ us : List Value, us.length = 1 → P us
 | [a0], _ => h a0
theorem lenAll2 {P : List Value → Prop} (h : ∀ a0 a1 : Value, P [a0, a1]) : ∀ us : List Value, us.length = 2 → P us
 | [a0, a1], _ => h a0 a1
theorem lenAll3 {P : List Value → Prop} (h : ∀ a0 a1 a2 : Value, P [a0, a1, a2]) : ∀ us : List Value, us.length = 3 → P us
 | [a0, a1, a2], _ => h a0 a1 a2
theorem lenAll4 {P : List Value → Prop} (h : ∀ a0 a1 a2 a3 : Value, P [a0, a1, a2, a3]) : ∀ us : List Value, us.length = 4 → P us
 | [a0, a1, a2, a3], _ => h a0 a1 a2 a3
theorem all_mk {l : PySem.W.OpenLaw} {w : World} {K : PySem.W.Frag} {h : Heap} {mg : Str → Option Value} {fa : Addr} (X : K.In h) (G : h.Ns mainGlobals mg) (hfa : mg "law" = some (.ref fa)) {C_Brackets : Addr} {C_Stairs : Addr} {C_Twins : Addr} {C_Family : Addr} {C_SplitFamily : Addr}
 {f1 f2 f3 f4 f5 f6 f7 f8 f9 f10 f11 f12 f13 f14 f15 f16 f17 f18 f19 f20 f21 f22 f23 f24 f25 f26 f27 f28 f29 f30 f31 f32 f33 f34 f35 f36 f37 f38 f39 f40 f41 f42 f43 f44 f45 f46 f47 f48 f49 f50 f51 f52 f53 f54 f55 f56 f57 f58 f59 f60 f61 f62 f63 f64 f65 f66 f67 f68 f69 f70 f71 f72 f73 f74 f75 f76 f77 f78 f79 f80 f81 f82 f83 f84 : Addr} {od1 an1 od2 an2 od3 an3 od4 an4 od5 an5 od6 an6 od7 an7 od8 an8 od9 an9 od10 an10 od11 an11 od12 an12 od13 an13 od14 an14 od15 an15 od16 an16 od17 an17 od18 an18 od19 an19 od20 an20 od21 an21 od22 an22 od23 an23 od24 an24 od25 an25 od26 an26 od27 an27 od28 an28 od29 an29 od30 an30 od31 an31 od32 an32 od33 an33 od34 an34 od35 an35 od36 an36 od37 an37 od38 an38 od39 an39 od40 an40 od41 an41 od42 an42 od43 an43 od44 an44 od45 an45 od46 an46 od47 an47 od48 an48 od49 an49 od50 an50 od51 an51 od52 an52 od53 an53 od54 an54 od55 an55 od56 an56 od57 an57 od58 an58 od59 an59 od60 an60 od61 an61 od62 an62 od63 an63 od64 an64 od65 an65 od66 an66 od67 an67 od68 an68 od69 an69 od70 an70 od71 an71 od72 an72 od73 an73 od74 an74 od75 an75 od76 an76 od77 an77 od78 an78 od79 an79 od80 an80 od81 an81 od82 an82 od83 an83 od84 an84 : Option Addr} {sl1 sl2 sl3 sl4 sl5 sl6 sl7 sl8 sl9 sl10 sl11 sl12 sl13 sl14 sl15 sl16 sl17 sl18 sl19 sl20 sl21 sl22 sl23 sl24 sl25 sl26 sl27 sl28 sl29 sl30 sl31 sl32 sl33 sl34 sl35 sl36 sl37 sl38 sl39 sl40 sl41 sl42 sl43 sl44 sl45 sl46 sl47 sl48 sl49 sl50 sl51 sl52 sl53 sl54 sl55 sl56 sl57 sl58 sl59 sl60 sl61 sl62 sl63 sl64 sl65 sl66 sl67 sl68 sl69 sl70 sl71 sl72 sl73 sl74 sl75 sl76 sl77 sl78 sl79 sl80 sl81 sl82 sl83 sl84 : Array (Option Value)} {oc1 kV1 dc1 pm1 cd1 ct1 oc2 kV2 dc2 pm2 cd2 ct2 oc3 kV3 dc3 pm3 cd3 ct3 oc4 kV4 dc4 pm4 cd4 ct4 oc5 kV5 dc5 pm5 cd5 ct5 oc6 kV6 dc6 pm6 cd6 ct6 oc7 kV7 dc7 pm7 cd7 ct7 oc8 kV8 dc8 pm8 cd8 ct8 oc9 kV9 dc9 pm9 cd9 ct9 oc10 kV10 dc10 pm10 cd10 ct10 oc11 kV11 dc11 pm11 cd11 ct11 oc12 kV12 dc12 pm12 cd12 ct12 oc13 kV13 dc13 pm13 cd13 ct13 oc14 kV14 dc14 pm14 cd14 ct14 oc15 kV15 dc15 pm15 cd15 ct15 oc16 kV16 dc16 pm16 cd16 ct16 oc17 kV17 dc17 pm17 cd17 ct17 oc18 kV18 dc18 pm18 cd18 ct18 oc19 kV19 dc19 pm19 cd19 ct19 oc20 kV20 dc20 pm20 cd20 ct20 oc21 kV21 dc21 pm21 cd21 ct21 oc22 kV22 dc22 pm22 cd22 ct22 oc23 kV23 dc23 pm23 cd23 ct23 oc24 kV24 dc24 pm24 cd24 ct24 oc25 kV25 dc25 pm25 cd25 ct25 oc26 kV26 dc26 pm26 cd26 ct26 oc27 kV27 dc27 pm27 cd27 ct27 oc28 kV28 dc28 pm28 cd28 ct28 oc29 kV29 dc29 pm29 cd29 ct29 oc30 kV30 dc30 pm30 cd30 ct30 oc31 kV31 dc31 pm31 cd31 ct31 oc32 kV32 dc32 pm32 cd32 ct32 oc33 kV33 dc33 pm33 cd33 ct33 oc34 kV34 dc34 pm34 cd34 ct34 oc35 kV35 dc35 pm35 cd35 ct35 oc36 kV36 dc36 pm36 cd36 ct36 oc37 kV37 dc37 pm37 cd37 ct37 oc38 kV38 dc38 pm38 cd38 ct38 oc39 kV39 dc39 pm39 cd39 ct39 oc40 kV40 dc40 pm40 cd40 ct40 oc41 kV41 dc41 pm41 cd41 ct41 oc42 kV42 dc42 pm42 cd42 ct42 oc43 kV43 dc43 pm43 cd43 ct43 oc44 kV44 dc44 pm44 cd44 ct44 oc45 kV45 dc45 pm45 cd45 ct45 oc46 kV46 dc46 pm46 cd46 ct46 oc47 kV47 dc47 pm47 cd47 ct47 oc48 kV48 dc48 pm48 cd48 ct48 oc49 kV49 dc49 pm49 cd49 ct49 oc50 kV50 dc50 pm50 cd50 ct50 oc51 kV51 dc51 pm51 cd51 ct51 oc52 kV52 dc52 pm52 cd52 ct52 oc53 kV53 dc53 pm53 cd53 ct53 oc54 kV54 dc54 pm54 cd54 ct54 oc55 kV55 dc55 pm55 cd55 ct55 oc56 kV56 dc56 pm56 cd56 ct56 oc57 kV57 dc57 pm57 cd57 ct57 oc58 kV58 dc58 pm58 cd58 ct58 oc59 kV59 dc59 pm59 cd59 ct59 oc60 kV60 dc60 pm60 cd60 ct60 oc61 kV61 dc61 pm61 cd61 ct61 oc62 kV62 dc62 pm62 cd62 ct62 oc63 kV63 dc63 pm63 cd63 ct63 oc64 kV64 dc64 pm64 cd64 ct64 oc65 kV65 dc65 pm65 cd65 ct65 oc66 kV66 dc66 pm66 cd66 ct66 oc67 kV67 dc67 pm67 cd67 ct67 oc68 kV68 dc68 pm68 cd68 ct68 oc69 kV69 dc69 pm69 cd69 ct69 oc70 kV70 dc70 pm70 cd70 ct70 oc71 kV71 dc71 pm71 cd71 ct71 oc72 kV72 dc72 pm72 cd72 ct72 oc73 kV73 dc73 pm73 cd73 ct73 oc74 kV74 dc74 pm74 cd74 ct74 oc75 kV75 dc75 pm75 cd75 ct75 oc76 kV76 dc76 pm76 cd76 ct76 oc77 kV77 dc77 pm77 cd77 ct77 oc78 kV78 dc78 pm78 cd78 ct78 oc79 kV79 dc79 pm79 cd79 ct79 oc80 kV80 dc80 pm80 cd80 ct80 oc81 kV81 dc81 pm81 cd81 ct81 oc82 kV82 dc82 pm82 cd82 ct82 oc83 kV83 dc83 pm83 cd83 ct83 oc84 kV84 dc84 pm84 cd84 ct84 : Value}
  (nc_Family : PySem.W.nsIn K mainGlobals "Family" = some (some (.ref C_Family)))
  (nc_Brackets : PySem.W.nsIn K mainGlobals "Brackets" = some (some (.ref C_Brackets)))
  (nc_Stairs : PySem.W.nsIn K mainGlobals "Stairs" = some (some (.ref C_Stairs)))
  (nc_Twins : PySem.W.nsIn K mainGlobals "Twins" = some (some (.ref C_Twins)))
  (nc_SplitFamily : PySem.W.nsIn K mainGlobals "SplitFamily" = some (some (.ref C_SplitFamily)))
  (a_Brackets_many : PySem.W.findIn K (.ref C_Brackets) "many" = some (some (.ref f15)))
  (a_Stairs_many : PySem.W.findIn K (.ref C_Stairs) "many" = some (some (.ref f23)))
  (a_Twins_many : PySem.W.findIn K (.ref C_Twins) "many" = some (some (.ref f31)))
  (a_Brackets_thing_of : PySem.W.findIn K (.ref C_Brackets) "thing_of" = some (some (.ref f21)))
  (a_Stairs_thing_of : PySem.W.findIn K (.ref C_Stairs) "thing_of" = some (some (.ref f29)))
  (a_Twins_thing_of : PySem.W.findIn K (.ref C_Twins) "thing_of" = some (some (.ref f36)))
  (a_Brackets_number_of : PySem.W.findIn K (.ref C_Brackets) "number_of" = some (some (.ref f50)))
  (a_Stairs_number_of : PySem.W.findIn K (.ref C_Stairs) "number_of" = some (some (.ref f58)))
  (a_Twins_number_of : PySem.W.findIn K (.ref C_Twins) "number_of" = some (some (.ref f65)))
  (a_Brackets_next_of : PySem.W.findIn K (.ref C_Brackets) "next_of" = some (some (.ref f68)))
  (a_Stairs_next_of : PySem.W.findIn K (.ref C_Stairs) "next_of" = some (some (.ref f69)))
  (a_Twins_next_of : PySem.W.findIn K (.ref C_Twins) "next_of" = some (some (.ref f70)))
  (a_Brackets_unchecked_thing : PySem.W.findIn K (.ref C_Brackets) "unchecked_thing" = some (some (.ref f20)))
  (a_Brackets_unchecked_many : PySem.W.findIn K (.ref C_Brackets) "unchecked_many" = some (some (.ref f14)))
  (a_Brackets_thing_by_parts : PySem.W.findIn K (.ref C_Brackets) "thing_by_parts" = some (some (.ref f18)))
  (a_Brackets_bare : PySem.W.findIn K (.ref C_Brackets) "bare" = some (some (.ref f16)))
  (a_Brackets_joined : PySem.W.findIn K (.ref C_Brackets) "joined" = some (some (.ref f17)))
  (a_Stairs_unchecked_thing : PySem.W.findIn K (.ref C_Stairs) "unchecked_thing" = some (some (.ref f28)))
  (a_Stairs_unchecked_many : PySem.W.findIn K (.ref C_Stairs) "unchecked_many" = some (some (.ref f22)))
  (a_Stairs_thing_by_parts : PySem.W.findIn K (.ref C_Stairs) "thing_by_parts" = some (some (.ref f27)))
  (a_Stairs_bare : PySem.W.findIn K (.ref C_Stairs) "bare" = some (some (.ref f24)))
  (a_Stairs_joined : PySem.W.findIn K (.ref C_Stairs) "joined" = some (some (.ref f26)))
  (a_Twins_unchecked_thing : PySem.W.findIn K (.ref C_Twins) "unchecked_thing" = some (some (.ref f35)))
  (a_Twins_unchecked_many : PySem.W.findIn K (.ref C_Twins) "unchecked_many" = some (some (.ref f30)))
  (a_Twins_thing_by_parts : PySem.W.findIn K (.ref C_Twins) "thing_by_parts" = some (some (.ref f34)))
  (a_Twins_bare : PySem.W.findIn K (.ref C_Twins) "bare" = some (some (.ref f32)))
  (a_Twins_joined : PySem.W.findIn K (.ref C_Twins) "joined" = some (some (.ref f33)))
  (a_Brackets_refuse_other : PySem.W.findIn K (.ref C_Brackets) "refuse_other" = some (some (.ref f44)))
  (a_Brackets_unchecked_number : PySem.W.findIn K (.ref C_Brackets) "unchecked_number" = some (some (.ref f49)))
  (a_Brackets_is_one : PySem.W.findIn K (.ref C_Brackets) "is_one" = some (some (.ref f43)))
  (a_Brackets_number_by_parts : PySem.W.findIn K (.ref C_Brackets) "number_by_parts" = some (some (.ref f48)))
  (a_Brackets_size_of : PySem.W.findIn K (.ref C_Brackets) "size_of" = some (some (.ref f45)))
  (a_Brackets_parted : PySem.W.findIn K (.ref C_Brackets) "parted" = some (some (.ref f47)))
  (a_Stairs_refuse_other : PySem.W.findIn K (.ref C_Stairs) "refuse_other" = some (some (.ref f52)))
  (a_Stairs_unchecked_number : PySem.W.findIn K (.ref C_Stairs) "unchecked_number" = some (some (.ref f57)))
  (a_Stairs_is_one : PySem.W.findIn K (.ref C_Stairs) "is_one" = some (some (.ref f51)))
  (a_Stairs_number_by_parts : PySem.W.findIn K (.ref C_Stairs) "number_by_parts" = some (some (.ref f56)))
  (a_Stairs_size_of : PySem.W.findIn K (.ref C_Stairs) "size_of" = some (some (.ref f53)))
  (a_Stairs_parted : PySem.W.findIn K (.ref C_Stairs) "parted" = some (some (.ref f55)))
  (a_Twins_refuse_other : PySem.W.findIn K (.ref C_Twins) "refuse_other" = some (some (.ref f60)))
  (a_Twins_unchecked_number : PySem.W.findIn K (.ref C_Twins) "unchecked_number" = some (some (.ref f64)))
  (a_Twins_is_one : PySem.W.findIn K (.ref C_Twins) "is_one" = some (some (.ref f59)))
  (a_Twins_number_by_parts : PySem.W.findIn K (.ref C_Twins) "number_by_parts" = some (some (.ref f63)))
  (a_Twins_size_of : PySem.W.findIn K (.ref C_Twins) "size_of" = some (some (.ref f61)))
  (a_Twins_parted : PySem.W.findIn K (.ref C_Twins) "parted" = some (some (.ref f62)))
  (ai_Brackets : PySem.W.findIn K (.ref C_Brackets) "__init__" = some (some (.ref f5)))
  (ai_Stairs : PySem.W.findIn K (.ref C_Stairs) "__init__" = some (some (.ref f8)))
  (ai_Twins : PySem.W.findIn K (.ref C_Twins) "__init__" = some (some (.ref f11)))
  (ch_SplitFamily___init___Brackets : PySem.W.findCls K (.ref C_SplitFamily) (.type "type") "__init__" = some (.val (.ref f4)))
  (cg_SplitFamily___init___Brackets : PySem.W.specialIn K (.ref C_SplitFamily) "__getattribute__" = some (some (.builtin "type.__getattribute__")))
  (cr_SplitFamily___init___Brackets : PySem.W.readsIn K C_SplitFamily (.type "type") = true)
  (ch_Family___init___Brackets : PySem.W.findCls K (.ref C_Family) (.type "type") "__init__" = some (.val (.ref f3)))
  (cg_Family___init___Brackets : PySem.W.specialIn K (.ref C_Family) "__getattribute__" = some (some (.builtin "type.__getattribute__")))
  (cr_Family___init___Brackets : PySem.W.readsIn K C_Family (.type "type") = true)
  (ch_SplitFamily___init___Stairs : PySem.W.findCls K (.ref C_SplitFamily) (.type "type") "__init__" = some (.val (.ref f7)))
  (cg_SplitFamily___init___Stairs : PySem.W.specialIn K (.ref C_SplitFamily) "__getattribute__" = some (some (.builtin "type.__getattribute__")))
  (cr_SplitFamily___init___Stairs : PySem.W.readsIn K C_SplitFamily (.type "type") = true)
  (ch_Family___init___Stairs : PySem.W.findCls K (.ref C_Family) (.type "type") "__init__" = some (.val (.ref f6)))
  (cg_Family___init___Stairs : PySem.W.specialIn K (.ref C_Family) "__getattribute__" = some (some (.builtin "type.__getattribute__")))
  (cr_Family___init___Stairs : PySem.W.readsIn K C_Family (.type "type") = true)
  (ch_SplitFamily___init___Twins : PySem.W.findCls K (.ref C_SplitFamily) (.type "type") "__init__" = some (.val (.ref f10)))
  (cg_SplitFamily___init___Twins : PySem.W.specialIn K (.ref C_SplitFamily) "__getattribute__" = some (some (.builtin "type.__getattribute__")))
  (cr_SplitFamily___init___Twins : PySem.W.readsIn K C_SplitFamily (.type "type") = true)
  (ch_Family___init___Twins : PySem.W.findCls K (.ref C_Family) (.type "type") "__init__" = some (.val (.ref f9)))
  (cg_Family___init___Twins : PySem.W.specialIn K (.ref C_Family) "__getattribute__" = some (some (.builtin "type.__getattribute__")))
  (cr_Family___init___Twins : PySem.W.readsIn K C_Family (.type "type") = true)
  (a1 : PySem.W.nsIn K mainGlobals "_law_cell_at" = some (some (.ref f1)))
  (l1 : K.lookup f1 = some ⟨oc1, od1, .func (PySem.W.fnOf "_law_cell_at" "_law_cell_at" (defArgs s_u61) (defBody s_u61) (defScope s_u61) .none kV1 dc1 pm1 an1 cd1 ct1), sl1⟩)
  (c1 : PySem.W.codeIn K cd1 "_law_cell_at" = true)
  (k1 : PySem.W.keepIn K (.ref f1) = true)
  (a2 : PySem.W.nsIn K mainGlobals "_law_share" = some (some (.ref f2)))
  (l2 : K.lookup f2 = some ⟨oc2, od2, .func (PySem.W.fnOf "_law_share" "_law_share" (defArgs s_u71) (defBody s_u71) (defScope s_u71) .none kV2 dc2 pm2 an2 cd2 ct2), sl2⟩)
  (c2 : PySem.W.codeIn K cd2 "_law_share" = true)
  (k2 : PySem.W.keepIn K (.ref f2) = true)
  (l3 : K.lookup f3 = some ⟨oc3, od3, .func (PySem.W.fnOf "__init__" "Family.__init__" (defArgs s_u22) (defBody s_u22) (defScope s_u22) .none kV3 dc3 pm3 an3 cd3 ct3), sl3⟩)
  (c3 : PySem.W.codeIn K cd3 "Family.__init__" = true)
  (k3 : PySem.W.keepIn K (.ref f3) = true)
  (i3 : PySem.W.isFn K (.ref f3) = true)
  (l4 : K.lookup f4 = some ⟨oc4, od4, .func (PySem.W.fnOf "__init__" "SplitFamily.__init__" (defArgs s_u15) (defBody s_u15) (defScope s_u15) .none kV4 dc4 pm4 an4 cd4 ct4), sl4⟩)
  (c4 : PySem.W.codeIn K cd4 "SplitFamily.__init__" = true)
  (k4 : PySem.W.keepIn K (.ref f4) = true)
  (i4 : PySem.W.isFn K (.ref f4) = true)
  (l5 : K.lookup f5 = some ⟨oc5, od5, .func (PySem.W.fnOf "__init__" "Brackets.__init__" (defArgs s_u39) (defBody s_u39) (defScope s_u39) .none kV5 dc5 pm5 an5 cd5 ct5), sl5⟩)
  (c5 : PySem.W.codeIn K cd5 "Brackets.__init__" = true)
  (k5 : PySem.W.keepIn K (.ref f5) = true)
  (i5 : PySem.W.isFn K (.ref f5) = true)
  (l6 : K.lookup f6 = some ⟨oc6, od6, .func (PySem.W.fnOf "__init__" "Family.__init__" (defArgs s_u27) (defBody s_u27) (defScope s_u27) .none kV6 dc6 pm6 an6 cd6 ct6), sl6⟩)
  (c6 : PySem.W.codeIn K cd6 "Family.__init__" = true)
  (k6 : PySem.W.keepIn K (.ref f6) = true)
  (i6 : PySem.W.isFn K (.ref f6) = true)
  (l7 : K.lookup f7 = some ⟨oc7, od7, .func (PySem.W.fnOf "__init__" "SplitFamily.__init__" (defArgs s_u17) (defBody s_u17) (defScope s_u17) .none kV7 dc7 pm7 an7 cd7 ct7), sl7⟩)
  (c7 : PySem.W.codeIn K cd7 "SplitFamily.__init__" = true)
  (k7 : PySem.W.keepIn K (.ref f7) = true)
  (i7 : PySem.W.isFn K (.ref f7) = true)
  (l8 : K.lookup f8 = some ⟨oc8, od8, .func (PySem.W.fnOf "__init__" "Stairs.__init__" (defArgs s_u47) (defBody s_u47) (defScope s_u47) .none kV8 dc8 pm8 an8 cd8 ct8), sl8⟩)
  (c8 : PySem.W.codeIn K cd8 "Stairs.__init__" = true)
  (k8 : PySem.W.keepIn K (.ref f8) = true)
  (i8 : PySem.W.isFn K (.ref f8) = true)
  (l9 : K.lookup f9 = some ⟨oc9, od9, .func (PySem.W.fnOf "__init__" "Family.__init__" (defArgs s_u31) (defBody s_u31) (defScope s_u31) .none kV9 dc9 pm9 an9 cd9 ct9), sl9⟩)
  (c9 : PySem.W.codeIn K cd9 "Family.__init__" = true)
  (k9 : PySem.W.keepIn K (.ref f9) = true)
  (i9 : PySem.W.isFn K (.ref f9) = true)
  (l10 : K.lookup f10 = some ⟨oc10, od10, .func (PySem.W.fnOf "__init__" "SplitFamily.__init__" (defArgs s_u18) (defBody s_u18) (defScope s_u18) .none kV10 dc10 pm10 an10 cd10 ct10), sl10⟩)
  (c10 : PySem.W.codeIn K cd10 "SplitFamily.__init__" = true)
  (k10 : PySem.W.keepIn K (.ref f10) = true)
  (i10 : PySem.W.isFn K (.ref f10) = true)
  (l11 : K.lookup f11 = some ⟨oc11, od11, .func (PySem.W.fnOf "__init__" "Twins.__init__" (defArgs s_u49) (defBody s_u49) (defScope s_u49) .none kV11 dc11 pm11 an11 cd11 ct11), sl11⟩)
  (c11 : PySem.W.codeIn K cd11 "Twins.__init__" = true)
  (k11 : PySem.W.keepIn K (.ref f11) = true)
  (i11 : PySem.W.isFn K (.ref f11) = true)
  (a12 : PySem.W.nsIn K mainGlobals "_law_kin" = some (some (.ref f12)))
  (l12 : K.lookup f12 = some ⟨oc12, od12, .func (PySem.W.fnOf "_law_kin" "_law_kin" (defArgs s_u78) (defBody s_u78) (defScope s_u78) .none kV12 dc12 pm12 an12 cd12 ct12), sl12⟩)
  (c12 : PySem.W.codeIn K cd12 "_law_kin" = true)
  (k12 : PySem.W.keepIn K (.ref f12) = true)
  (a13 : PySem.W.nsIn K mainGlobals "by_rule" = some (some (.ref f13)))
  (l13 : K.lookup f13 = some ⟨oc13, od13, .func (PySem.W.fnOf "by_rule" "by_rule" (defArgs s_u80) (defBody s_u80) (defScope s_u80) .none kV13 dc13 pm13 an13 cd13 ct13), sl13⟩)
  (c13 : PySem.W.codeIn K cd13 "by_rule" = true)
  (k13 : PySem.W.keepIn K (.ref f13) = true)
  (l14 : K.lookup f14 = some ⟨oc14, od14, .func (PySem.W.fnOf "unchecked_many" "SplitFamily.unchecked_many" (defArgs s_u4) (defBody s_u4) (defScope s_u4) .none kV14 dc14 pm14 an14 cd14 ct14), sl14⟩)
  (c14 : PySem.W.codeIn K cd14 "SplitFamily.unchecked_many" = true)
  (k14 : PySem.W.keepIn K (.ref f14) = true)
  (i14 : PySem.W.isFn K (.ref f14) = true)
  (l15 : K.lookup f15 = some ⟨oc15, od15, .func (PySem.W.fnOf "many" "Family.many" (defArgs s_u33) (defBody s_u33) (defScope s_u33) .none kV15 dc15 pm15 an15 cd15 ct15), sl15⟩)
  (c15 : PySem.W.codeIn K cd15 "Family.many" = true)
  (k15 : PySem.W.keepIn K (.ref f15) = true)
  (i15 : PySem.W.isFn K (.ref f15) = true)
  (l16 : K.lookup f16 = some ⟨oc16, od16, .func (PySem.W.fnOf "bare" "Brackets.bare" (defArgs s_u56) (defBody s_u56) (defScope s_u56) .none kV16 dc16 pm16 an16 cd16 ct16), sl16⟩)
  (c16 : PySem.W.codeIn K cd16 "Brackets.bare" = true)
  (k16 : PySem.W.keepIn K (.ref f16) = true)
  (i16 : PySem.W.isFn K (.ref f16) = true)
  (l17 : K.lookup f17 = some ⟨oc17, od17, .func (PySem.W.fnOf "joined" "Brackets.joined" (defArgs s_u46) (defBody s_u46) (defScope s_u46) .none kV17 dc17 pm17 an17 cd17 ct17), sl17⟩)
  (c17 : PySem.W.codeIn K cd17 "Brackets.joined" = true)
  (k17 : PySem.W.keepIn K (.ref f17) = true)
  (i17 : PySem.W.isFn K (.ref f17) = true)
  (l18 : K.lookup f18 = some ⟨oc18, od18, .func (PySem.W.fnOf "thing_by_parts" "SplitFamily.thing_by_parts" (defArgs s_u5) (defBody s_u5) (defScope s_u5) .none kV18 dc18 pm18 an18 cd18 ct18), sl18⟩)
  (c18 : PySem.W.codeIn K cd18 "SplitFamily.thing_by_parts" = true)
  (k18 : PySem.W.keepIn K (.ref f18) = true)
  (i18 : PySem.W.isFn K (.ref f18) = true)
  (a19 : PySem.W.nsIn K mainGlobals "shares" = some (some (.ref f19)))
  (l19 : K.lookup f19 = some ⟨oc19, od19, .func (PySem.W.fnOf "shares" "shares" (defArgs s_u82) (defBody s_u82) (defScope s_u82) .none kV19 dc19 pm19 an19 cd19 ct19), sl19⟩)
  (c19 : PySem.W.codeIn K cd19 "shares" = true)
  (k19 : PySem.W.keepIn K (.ref f19) = true)
  (l20 : K.lookup f20 = some ⟨oc20, od20, .func (PySem.W.fnOf "unchecked_thing" "SplitFamily.unchecked_thing" (defArgs s_u1) (defBody s_u1) (defScope s_u1) .none kV20 dc20 pm20 an20 cd20 ct20), sl20⟩)
  (c20 : PySem.W.codeIn K cd20 "SplitFamily.unchecked_thing" = true)
  (k20 : PySem.W.keepIn K (.ref f20) = true)
  (i20 : PySem.W.isFn K (.ref f20) = true)
  (l21 : K.lookup f21 = some ⟨oc21, od21, .func (PySem.W.fnOf "thing_of" "Family.thing_of" (defArgs s_u23) (defBody s_u23) (defScope s_u23) .none kV21 dc21 pm21 an21 cd21 ct21), sl21⟩)
  (c21 : PySem.W.codeIn K cd21 "Family.thing_of" = true)
  (k21 : PySem.W.keepIn K (.ref f21) = true)
  (i21 : PySem.W.isFn K (.ref f21) = true)
  (l22 : K.lookup f22 = some ⟨oc22, od22, .func (PySem.W.fnOf "unchecked_many" "SplitFamily.unchecked_many" (defArgs s_u11) (defBody s_u11) (defScope s_u11) .none kV22 dc22 pm22 an22 cd22 ct22), sl22⟩)
  (c22 : PySem.W.codeIn K cd22 "SplitFamily.unchecked_many" = true)
  (k22 : PySem.W.keepIn K (.ref f22) = true)
  (i22 : PySem.W.isFn K (.ref f22) = true)
  (l23 : K.lookup f23 = some ⟨oc23, od23, .func (PySem.W.fnOf "many" "Family.many" (defArgs s_u35) (defBody s_u35) (defScope s_u35) .none kV23 dc23 pm23 an23 cd23 ct23), sl23⟩)
  (c23 : PySem.W.codeIn K cd23 "Family.many" = true)
  (k23 : PySem.W.keepIn K (.ref f23) = true)
  (i23 : PySem.W.isFn K (.ref f23) = true)
  (l24 : K.lookup f24 = some ⟨oc24, od24, .func (PySem.W.fnOf "bare" "Stairs.bare" (defArgs s_u62) (defBody s_u62) (defScope s_u62) .none kV24 dc24 pm24 an24 cd24 ct24), sl24⟩)
  (c24 : PySem.W.codeIn K cd24 "Stairs.bare" = true)
  (k24 : PySem.W.keepIn K (.ref f24) = true)
  (i24 : PySem.W.isFn K (.ref f24) = true)
  (a25 : PySem.W.nsIn K mainGlobals "raised_by" = some (some (.ref f25)))
  (l25 : K.lookup f25 = some ⟨oc25, od25, .func (PySem.W.fnOf "raised_by" "raised_by" (defArgs s_u75) (defBody s_u75) (defScope s_u75) .none kV25 dc25 pm25 an25 cd25 ct25), sl25⟩)
  (c25 : PySem.W.codeIn K cd25 "raised_by" = true)
  (k25 : PySem.W.keepIn K (.ref f25) = true)
  (l26 : K.lookup f26 = some ⟨oc26, od26, .func (PySem.W.fnOf "joined" "Stairs.joined" (defArgs s_u55) (defBody s_u55) (defScope s_u55) .none kV26 dc26 pm26 an26 cd26 ct26), sl26⟩)
  (c26 : PySem.W.codeIn K cd26 "Stairs.joined" = true)
  (k26 : PySem.W.keepIn K (.ref f26) = true)
  (i26 : PySem.W.isFn K (.ref f26) = true)
  (l27 : K.lookup f27 = some ⟨oc27, od27, .func (PySem.W.fnOf "thing_by_parts" "SplitFamily.thing_by_parts" (defArgs s_u10) (defBody s_u10) (defScope s_u10) .none kV27 dc27 pm27 an27 cd27 ct27), sl27⟩)
  (c27 : PySem.W.codeIn K cd27 "SplitFamily.thing_by_parts" = true)
  (k27 : PySem.W.keepIn K (.ref f27) = true)
  (i27 : PySem.W.isFn K (.ref f27) = true)
  (l28 : K.lookup f28 = some ⟨oc28, od28, .func (PySem.W.fnOf "unchecked_thing" "SplitFamily.unchecked_thing" (defArgs s_u7) (defBody s_u7) (defScope s_u7) .none kV28 dc28 pm28 an28 cd28 ct28), sl28⟩)
  (c28 : PySem.W.codeIn K cd28 "SplitFamily.unchecked_thing" = true)
  (k28 : PySem.W.keepIn K (.ref f28) = true)
  (i28 : PySem.W.isFn K (.ref f28) = true)
  (l29 : K.lookup f29 = some ⟨oc29, od29, .func (PySem.W.fnOf "thing_of" "Family.thing_of" (defArgs s_u26) (defBody s_u26) (defScope s_u26) .none kV29 dc29 pm29 an29 cd29 ct29), sl29⟩)
  (c29 : PySem.W.codeIn K cd29 "Family.thing_of" = true)
  (k29 : PySem.W.keepIn K (.ref f29) = true)
  (i29 : PySem.W.isFn K (.ref f29) = true)
  (l30 : K.lookup f30 = some ⟨oc30, od30, .func (PySem.W.fnOf "unchecked_many" "SplitFamily.unchecked_many" (defArgs s_u13) (defBody s_u13) (defScope s_u13) .none kV30 dc30 pm30 an30 cd30 ct30), sl30⟩)
  (c30 : PySem.W.codeIn K cd30 "SplitFamily.unchecked_many" = true)
  (k30 : PySem.W.keepIn K (.ref f30) = true)
  (i30 : PySem.W.isFn K (.ref f30) = true)
  (l31 : K.lookup f31 = some ⟨oc31, od31, .func (PySem.W.fnOf "many" "Family.many" (defArgs s_u38) (defBody s_u38) (defScope s_u38) .none kV31 dc31 pm31 an31 cd31 ct31), sl31⟩)
  (c31 : PySem.W.codeIn K cd31 "Family.many" = true)
  (k31 : PySem.W.keepIn K (.ref f31) = true)
  (i31 : PySem.W.isFn K (.ref f31) = true)
  (l32 : K.lookup f32 = some ⟨oc32, od32, .func (PySem.W.fnOf "bare" "Twins.bare" (defArgs s_u65) (defBody s_u65) (defScope s_u65) .none kV32 dc32 pm32 an32 cd32 ct32), sl32⟩)
  (c32 : PySem.W.codeIn K cd32 "Twins.bare" = true)
  (k32 : PySem.W.keepIn K (.ref f32) = true)
  (i32 : PySem.W.isFn K (.ref f32) = true)
  (l33 : K.lookup f33 = some ⟨oc33, od33, .func (PySem.W.fnOf "joined" "Twins.joined" (defArgs s_u60) (defBody s_u60) (defScope s_u60) .none kV33 dc33 pm33 an33 cd33 ct33), sl33⟩)
  (c33 : PySem.W.codeIn K cd33 "Twins.joined" = true)
  (k33 : PySem.W.keepIn K (.ref f33) = true)
  (i33 : PySem.W.isFn K (.ref f33) = true)
  (l34 : K.lookup f34 = some ⟨oc34, od34, .func (PySem.W.fnOf "thing_by_parts" "SplitFamily.thing_by_parts" (defArgs s_u14) (defBody s_u14) (defScope s_u14) .none kV34 dc34 pm34 an34 cd34 ct34), sl34⟩)
  (c34 : PySem.W.codeIn K cd34 "SplitFamily.thing_by_parts" = true)
  (k34 : PySem.W.keepIn K (.ref f34) = true)
  (i34 : PySem.W.isFn K (.ref f34) = true)
  (l35 : K.lookup f35 = some ⟨oc35, od35, .func (PySem.W.fnOf "unchecked_thing" "SplitFamily.unchecked_thing" (defArgs s_u12) (defBody s_u12) (defScope s_u12) .none kV35 dc35 pm35 an35 cd35 ct35), sl35⟩)
  (c35 : PySem.W.codeIn K cd35 "SplitFamily.unchecked_thing" = true)
  (k35 : PySem.W.keepIn K (.ref f35) = true)
  (i35 : PySem.W.isFn K (.ref f35) = true)
  (l36 : K.lookup f36 = some ⟨oc36, od36, .func (PySem.W.fnOf "thing_of" "Family.thing_of" (defArgs s_u30) (defBody s_u30) (defScope s_u30) .none kV36 dc36 pm36 an36 cd36 ct36), sl36⟩)
  (c36 : PySem.W.codeIn K cd36 "Family.thing_of" = true)
  (k36 : PySem.W.keepIn K (.ref f36) = true)
  (i36 : PySem.W.isFn K (.ref f36) = true)
  (a37 : PySem.W.nsIn K mainGlobals "_law_closes" = some (some (.ref f37)))
  (l37 : K.lookup f37 = some ⟨oc37, od37, .func (PySem.W.fnOf "_law_closes" "_law_closes" (defArgs s_u66) (defBody s_u66) (defScope s_u66) .none kV37 dc37 pm37 an37 cd37 ct37), sl37⟩)
  (c37 : PySem.W.codeIn K cd37 "_law_closes" = true)
  (k37 : PySem.W.keepIn K (.ref f37) = true)
  (a38 : PySem.W.nsIn K mainGlobals "_law_pairs" = some (some (.ref f38)))
  (l38 : K.lookup f38 = some ⟨oc38, od38, .func (PySem.W.fnOf "_law_pairs" "_law_pairs" (defArgs s_u70) (defBody s_u70) (defScope s_u70) .none kV38 dc38 pm38 an38 cd38 ct38), sl38⟩)
  (c38 : PySem.W.codeIn K cd38 "_law_pairs" = true)
  (k38 : PySem.W.keepIn K (.ref f38) = true)
  (a39 : PySem.W.nsIn K mainGlobals "_law_whole" = some (some (.ref f39)))
  (l39 : K.lookup f39 = some ⟨oc39, od39, .func (PySem.W.fnOf "_law_whole" "_law_whole" (defArgs s_u72) (defBody s_u72) (defScope s_u72) .none kV39 dc39 pm39 an39 cd39 ct39), sl39⟩)
  (c39 : PySem.W.codeIn K cd39 "_law_whole" = true)
  (k39 : PySem.W.keepIn K (.ref f39) = true)
  (a40 : PySem.W.nsIn K mainGlobals "_law_is_stairs" = some (some (.ref f40)))
  (l40 : K.lookup f40 = some ⟨oc40, od40, .func (PySem.W.fnOf "_law_is_stairs" "_law_is_stairs" (defArgs s_u53) (defBody s_u53) (defScope s_u53) .none kV40 dc40 pm40 an40 cd40 ct40), sl40⟩)
  (c40 : PySem.W.codeIn K cd40 "_law_is_stairs" = true)
  (k40 : PySem.W.keepIn K (.ref f40) = true)
  (a41 : PySem.W.nsIn K mainGlobals "_law_one" = some (some (.ref f41)))
  (l41 : K.lookup f41 = some ⟨oc41, od41, .func (PySem.W.fnOf "_law_one" "_law_one" (defArgs s_u77) (defBody s_u77) (defScope s_u77) .none kV41 dc41 pm41 an41 cd41 ct41), sl41⟩)
  (c41 : PySem.W.codeIn K cd41 "_law_one" = true)
  (k41 : PySem.W.keepIn K (.ref f41) = true)
  (a42 : PySem.W.nsIn K mainGlobals "closes" = some (some (.ref f42)))
  (l42 : K.lookup f42 = some ⟨oc42, od42, .func (PySem.W.fnOf "closes" "closes" (defArgs s_u81) (defBody s_u81) (defScope s_u81) .none kV42 dc42 pm42 an42 cd42 ct42), sl42⟩)
  (c42 : PySem.W.codeIn K cd42 "closes" = true)
  (k42 : PySem.W.keepIn K (.ref f42) = true)
  (l43 : K.lookup f43 = some ⟨oc43, od43, .func (PySem.W.fnOf "is_one" "Brackets.is_one" (defArgs s_u44) (defBody s_u44) (defScope s_u44) .none kV43 dc43 pm43 an43 cd43 ct43), sl43⟩)
  (c43 : PySem.W.codeIn K cd43 "Brackets.is_one" = true)
  (k43 : PySem.W.keepIn K (.ref f43) = true)
  (i43 : PySem.W.isFn K (.ref f43) = true)
  (l44 : K.lookup f44 = some ⟨oc44, od44, .func (PySem.W.fnOf "refuse_other" "Family.refuse_other" (defArgs s_u16) (defBody s_u16) (defScope s_u16) .none kV44 dc44 pm44 an44 cd44 ct44), sl44⟩)
  (c44 : PySem.W.codeIn K cd44 "Family.refuse_other" = true)
  (k44 : PySem.W.keepIn K (.ref f44) = true)
  (i44 : PySem.W.isFn K (.ref f44) = true)
  (l45 : K.lookup f45 = some ⟨oc45, od45, .func (PySem.W.fnOf "size_of" "Brackets.size_of" (defArgs s_u41) (defBody s_u41) (defScope s_u41) .none kV45 dc45 pm45 an45 cd45 ct45), sl45⟩)
  (c45 : PySem.W.codeIn K cd45 "Brackets.size_of" = true)
  (k45 : PySem.W.keepIn K (.ref f45) = true)
  (i45 : PySem.W.isFn K (.ref f45) = true)
  (a46 : PySem.W.nsIn K mainGlobals "first_close" = some (some (.ref f46)))
  (l46 : K.lookup f46 = some ⟨oc46, od46, .func (PySem.W.fnOf "first_close" "first_close" (defArgs s_u68) (defBody s_u68) (defScope s_u68) .none kV46 dc46 pm46 an46 cd46 ct46), sl46⟩)
  (c46 : PySem.W.codeIn K cd46 "first_close" = true)
  (k46 : PySem.W.keepIn K (.ref f46) = true)
  (l47 : K.lookup f47 = some ⟨oc47, od47, .func (PySem.W.fnOf "parted" "Brackets.parted" (defArgs s_u45) (defBody s_u45) (defScope s_u45) .none kV47 dc47 pm47 an47 cd47 ct47), sl47⟩)
  (c47 : PySem.W.codeIn K cd47 "Brackets.parted" = true)
  (k47 : PySem.W.keepIn K (.ref f47) = true)
  (i47 : PySem.W.isFn K (.ref f47) = true)
  (l48 : K.lookup f48 = some ⟨oc48, od48, .func (PySem.W.fnOf "number_by_parts" "SplitFamily.number_by_parts" (defArgs s_u2) (defBody s_u2) (defScope s_u2) .none kV48 dc48 pm48 an48 cd48 ct48), sl48⟩)
  (c48 : PySem.W.codeIn K cd48 "SplitFamily.number_by_parts" = true)
  (k48 : PySem.W.keepIn K (.ref f48) = true)
  (i48 : PySem.W.isFn K (.ref f48) = true)
  (l49 : K.lookup f49 = some ⟨oc49, od49, .func (PySem.W.fnOf "unchecked_number" "SplitFamily.unchecked_number" (defArgs s_u0) (defBody s_u0) (defScope s_u0) .none kV49 dc49 pm49 an49 cd49 ct49), sl49⟩)
  (c49 : PySem.W.codeIn K cd49 "SplitFamily.unchecked_number" = true)
  (k49 : PySem.W.keepIn K (.ref f49) = true)
  (i49 : PySem.W.isFn K (.ref f49) = true)
  (l50 : K.lookup f50 = some ⟨oc50, od50, .func (PySem.W.fnOf "number_of" "Family.number_of" (defArgs s_u20) (defBody s_u20) (defScope s_u20) .none kV50 dc50 pm50 an50 cd50 ct50), sl50⟩)
  (c50 : PySem.W.codeIn K cd50 "Family.number_of" = true)
  (k50 : PySem.W.keepIn K (.ref f50) = true)
  (i50 : PySem.W.isFn K (.ref f50) = true)
  (l51 : K.lookup f51 = some ⟨oc51, od51, .func (PySem.W.fnOf "is_one" "Stairs.is_one" (defArgs s_u50) (defBody s_u50) (defScope s_u50) .none kV51 dc51 pm51 an51 cd51 ct51), sl51⟩)
  (c51 : PySem.W.codeIn K cd51 "Stairs.is_one" = true)
  (k51 : PySem.W.keepIn K (.ref f51) = true)
  (i51 : PySem.W.isFn K (.ref f51) = true)
  (l52 : K.lookup f52 = some ⟨oc52, od52, .func (PySem.W.fnOf "refuse_other" "Family.refuse_other" (defArgs s_u19) (defBody s_u19) (defScope s_u19) .none kV52 dc52 pm52 an52 cd52 ct52), sl52⟩)
  (c52 : PySem.W.codeIn K cd52 "Family.refuse_other" = true)
  (k52 : PySem.W.keepIn K (.ref f52) = true)
  (i52 : PySem.W.isFn K (.ref f52) = true)
  (l53 : K.lookup f53 = some ⟨oc53, od53, .func (PySem.W.fnOf "size_of" "Stairs.size_of" (defArgs s_u48) (defBody s_u48) (defScope s_u48) .none kV53 dc53 pm53 an53 cd53 ct53), sl53⟩)
  (c53 : PySem.W.codeIn K cd53 "Stairs.size_of" = true)
  (k53 : PySem.W.keepIn K (.ref f53) = true)
  (i53 : PySem.W.isFn K (.ref f53) = true)
  (a54 : PySem.W.nsIn K mainGlobals "right_begin" = some (some (.ref f54)))
  (l54 : K.lookup f54 = some ⟨oc54, od54, .func (PySem.W.fnOf "right_begin" "right_begin" (defArgs s_u67) (defBody s_u67) (defScope s_u67) .none kV54 dc54 pm54 an54 cd54 ct54), sl54⟩)
  (c54 : PySem.W.codeIn K cd54 "right_begin" = true)
  (k54 : PySem.W.keepIn K (.ref f54) = true)
  (l55 : K.lookup f55 = some ⟨oc55, od55, .func (PySem.W.fnOf "parted" "Stairs.parted" (defArgs s_u52) (defBody s_u52) (defScope s_u52) .none kV55 dc55 pm55 an55 cd55 ct55), sl55⟩)
  (c55 : PySem.W.codeIn K cd55 "Stairs.parted" = true)
  (k55 : PySem.W.keepIn K (.ref f55) = true)
  (i55 : PySem.W.isFn K (.ref f55) = true)
  (l56 : K.lookup f56 = some ⟨oc56, od56, .func (PySem.W.fnOf "number_by_parts" "SplitFamily.number_by_parts" (defArgs s_u6) (defBody s_u6) (defScope s_u6) .none kV56 dc56 pm56 an56 cd56 ct56), sl56⟩)
  (c56 : PySem.W.codeIn K cd56 "SplitFamily.number_by_parts" = true)
  (k56 : PySem.W.keepIn K (.ref f56) = true)
  (i56 : PySem.W.isFn K (.ref f56) = true)
  (l57 : K.lookup f57 = some ⟨oc57, od57, .func (PySem.W.fnOf "unchecked_number" "SplitFamily.unchecked_number" (defArgs s_u3) (defBody s_u3) (defScope s_u3) .none kV57 dc57 pm57 an57 cd57 ct57), sl57⟩)
  (c57 : PySem.W.codeIn K cd57 "SplitFamily.unchecked_number" = true)
  (k57 : PySem.W.keepIn K (.ref f57) = true)
  (i57 : PySem.W.isFn K (.ref f57) = true)
  (l58 : K.lookup f58 = some ⟨oc58, od58, .func (PySem.W.fnOf "number_of" "Family.number_of" (defArgs s_u25) (defBody s_u25) (defScope s_u25) .none kV58 dc58 pm58 an58 cd58 ct58), sl58⟩)
  (c58 : PySem.W.codeIn K cd58 "Family.number_of" = true)
  (k58 : PySem.W.keepIn K (.ref f58) = true)
  (i58 : PySem.W.isFn K (.ref f58) = true)
  (l59 : K.lookup f59 = some ⟨oc59, od59, .func (PySem.W.fnOf "is_one" "Twins.is_one" (defArgs s_u57) (defBody s_u57) (defScope s_u57) .none kV59 dc59 pm59 an59 cd59 ct59), sl59⟩)
  (c59 : PySem.W.codeIn K cd59 "Twins.is_one" = true)
  (k59 : PySem.W.keepIn K (.ref f59) = true)
  (i59 : PySem.W.isFn K (.ref f59) = true)
  (l60 : K.lookup f60 = some ⟨oc60, od60, .func (PySem.W.fnOf "refuse_other" "Family.refuse_other" (defArgs s_u21) (defBody s_u21) (defScope s_u21) .none kV60 dc60 pm60 an60 cd60 ct60), sl60⟩)
  (c60 : PySem.W.codeIn K cd60 "Family.refuse_other" = true)
  (k60 : PySem.W.keepIn K (.ref f60) = true)
  (i60 : PySem.W.isFn K (.ref f60) = true)
  (l61 : K.lookup f61 = some ⟨oc61, od61, .func (PySem.W.fnOf "size_of" "Twins.size_of" (defArgs s_u51) (defBody s_u51) (defScope s_u51) .none kV61 dc61 pm61 an61 cd61 ct61), sl61⟩)
  (c61 : PySem.W.codeIn K cd61 "Twins.size_of" = true)
  (k61 : PySem.W.keepIn K (.ref f61) = true)
  (i61 : PySem.W.isFn K (.ref f61) = true)
  (l62 : K.lookup f62 = some ⟨oc62, od62, .func (PySem.W.fnOf "parted" "Twins.parted" (defArgs s_u59) (defBody s_u59) (defScope s_u59) .none kV62 dc62 pm62 an62 cd62 ct62), sl62⟩)
  (c62 : PySem.W.codeIn K cd62 "Twins.parted" = true)
  (k62 : PySem.W.keepIn K (.ref f62) = true)
  (i62 : PySem.W.isFn K (.ref f62) = true)
  (l63 : K.lookup f63 = some ⟨oc63, od63, .func (PySem.W.fnOf "number_by_parts" "SplitFamily.number_by_parts" (defArgs s_u9) (defBody s_u9) (defScope s_u9) .none kV63 dc63 pm63 an63 cd63 ct63), sl63⟩)
  (c63 : PySem.W.codeIn K cd63 "SplitFamily.number_by_parts" = true)
  (k63 : PySem.W.keepIn K (.ref f63) = true)
  (i63 : PySem.W.isFn K (.ref f63) = true)
  (l64 : K.lookup f64 = some ⟨oc64, od64, .func (PySem.W.fnOf "unchecked_number" "SplitFamily.unchecked_number" (defArgs s_u8) (defBody s_u8) (defScope s_u8) .none kV64 dc64 pm64 an64 cd64 ct64), sl64⟩)
  (c64 : PySem.W.codeIn K cd64 "SplitFamily.unchecked_number" = true)
  (k64 : PySem.W.keepIn K (.ref f64) = true)
  (i64 : PySem.W.isFn K (.ref f64) = true)
  (l65 : K.lookup f65 = some ⟨oc65, od65, .func (PySem.W.fnOf "number_of" "Family.number_of" (defArgs s_u28) (defBody s_u28) (defScope s_u28) .none kV65 dc65 pm65 an65 cd65 ct65), sl65⟩)
  (c65 : PySem.W.codeIn K cd65 "Family.number_of" = true)
  (k65 : PySem.W.keepIn K (.ref f65) = true)
  (i65 : PySem.W.isFn K (.ref f65) = true)
  (a66 : PySem.W.nsIn K mainGlobals "_law_small" = some (some (.ref f66)))
  (l66 : K.lookup f66 = some ⟨oc66, od66, .func (PySem.W.fnOf "_law_small" "_law_small" (defArgs s_u69) (defBody s_u69) (defScope s_u69) .none kV66 dc66 pm66 an66 cd66 ct66), sl66⟩)
  (c66 : PySem.W.codeIn K cd66 "_law_small" = true)
  (k66 : PySem.W.keepIn K (.ref f66) = true)
  (a67 : PySem.W.nsIn K mainGlobals "_law_copy" = some (some (.ref f67)))
  (l67 : K.lookup f67 = some ⟨oc67, od67, .func (PySem.W.fnOf "_law_copy" "_law_copy" (defArgs s_u76) (defBody s_u76) (defScope s_u76) .none kV67 dc67 pm67 an67 cd67 ct67), sl67⟩)
  (c67 : PySem.W.codeIn K cd67 "_law_copy" = true)
  (k67 : PySem.W.keepIn K (.ref f67) = true)
  (l68 : K.lookup f68 = some ⟨oc68, od68, .func (PySem.W.fnOf "next_of" "Family.next_of" (defArgs s_u24) (defBody s_u24) (defScope s_u24) .none kV68 dc68 pm68 an68 cd68 ct68), sl68⟩)
  (c68 : PySem.W.codeIn K cd68 "Family.next_of" = true)
  (k68 : PySem.W.keepIn K (.ref f68) = true)
  (i68 : PySem.W.isFn K (.ref f68) = true)
  (l69 : K.lookup f69 = some ⟨oc69, od69, .func (PySem.W.fnOf "next_of" "Family.next_of" (defArgs s_u29) (defBody s_u29) (defScope s_u29) .none kV69 dc69 pm69 an69 cd69 ct69), sl69⟩)
  (c69 : PySem.W.codeIn K cd69 "Family.next_of" = true)
  (k69 : PySem.W.keepIn K (.ref f69) = true)
  (i69 : PySem.W.isFn K (.ref f69) = true)
  (l70 : K.lookup f70 = some ⟨oc70, od70, .func (PySem.W.fnOf "next_of" "Family.next_of" (defArgs s_u32) (defBody s_u32) (defScope s_u32) .none kV70 dc70 pm70 an70 cd70 ct70), sl70⟩)
  (c70 : PySem.W.codeIn K cd70 "Family.next_of" = true)
  (k70 : PySem.W.keepIn K (.ref f70) = true)
  (i70 : PySem.W.isFn K (.ref f70) = true)
  (a71 : PySem.W.nsIn K mainGlobals "_law_told" = some (some (.ref f71)))
  (l71 : K.lookup f71 = some ⟨oc71, od71, .func (PySem.W.fnOf "_law_told" "_law_told" (defArgs s_u74) (defBody s_u74) (defScope s_u74) .none kV71 dc71 pm71 an71 cd71 ct71), sl71⟩)
  (c71 : PySem.W.codeIn K cd71 "_law_told" = true)
  (k71 : PySem.W.keepIn K (.ref f71) = true)
  (a72 : PySem.W.nsIn K mainGlobals "_law_classes" = some (some (.ref f72)))
  (l72 : K.lookup f72 = some ⟨oc72, od72, .func (PySem.W.fnOf "_law_classes" "_law_classes" (defArgs s_u63) (defBody s_u63) (defScope s_u63) .none kV72 dc72 pm72 an72 cd72 ct72), sl72⟩)
  (c72 : PySem.W.codeIn K cd72 "_law_classes" = true)
  (k72 : PySem.W.keepIn K (.ref f72) = true)
  (a73 : PySem.W.nsIn K mainGlobals "_law_thing_refused" = some (some (.ref f73)))
  (l73 : K.lookup f73 = some ⟨oc73, od73, .func (PySem.W.fnOf "_law_thing_refused" "_law_thing_refused" (defArgs s_u36) (defBody s_u36) (defScope s_u36) .none kV73 dc73 pm73 an73 cd73 ct73), sl73⟩)
  (c73 : PySem.W.codeIn K cd73 "_law_thing_refused" = true)
  (k73 : PySem.W.keepIn K (.ref f73) = true)
  (a74 : PySem.W.nsIn K mainGlobals "_law_many_refused" = some (some (.ref f74)))
  (l74 : K.lookup f74 = some ⟨oc74, od74, .func (PySem.W.fnOf "_law_many_refused" "_law_many_refused" (defArgs s_u42) (defBody s_u42) (defScope s_u42) .none kV74 dc74 pm74 an74 cd74 ct74), sl74⟩)
  (c74 : PySem.W.codeIn K cd74 "_law_many_refused" = true)
  (k74 : PySem.W.keepIn K (.ref f74) = true)
  (a75 : PySem.W.nsIn K mainGlobals "_law_sizes_refused" = some (some (.ref f75)))
  (l75 : K.lookup f75 = some ⟨oc75, od75, .func (PySem.W.fnOf "_law_sizes_refused" "_law_sizes_refused" (defArgs s_u37) (defBody s_u37) (defScope s_u37) .none kV75 dc75 pm75 an75 cd75 ct75), sl75⟩)
  (c75 : PySem.W.codeIn K cd75 "_law_sizes_refused" = true)
  (k75 : PySem.W.keepIn K (.ref f75) = true)
  (a76 : PySem.W.nsIn K mainGlobals "_law_mix" = some (some (.ref f76)))
  (l76 : K.lookup f76 = some ⟨oc76, od76, .func (PySem.W.fnOf "_law_mix" "_law_mix" (defArgs s_u79) (defBody s_u79) (defScope s_u79) .none kV76 dc76 pm76 an76 cd76 ct76), sl76⟩)
  (c76 : PySem.W.codeIn K cd76 "_law_mix" = true)
  (k76 : PySem.W.keepIn K (.ref f76) = true)
  (a77 : PySem.W.nsIn K mainGlobals "_law_draws" = some (some (.ref f77)))
  (l77 : K.lookup f77 = some ⟨oc77, od77, .func (PySem.W.fnOf "_law_draws" "_law_draws" (defArgs s_u73) (defBody s_u73) (defScope s_u73) .none kV77 dc77 pm77 an77 cd77 ct77), sl77⟩)
  (c77 : PySem.W.codeIn K cd77 "_law_draws" = true)
  (k77 : PySem.W.keepIn K (.ref f77) = true)
  (a78 : PySem.W.nsIn K mainGlobals "_law_stairs_by" = some (some (.ref f78)))
  (l78 : K.lookup f78 = some ⟨oc78, od78, .func (PySem.W.fnOf "_law_stairs_by" "_law_stairs_by" (defArgs s_u54) (defBody s_u54) (defScope s_u54) .none kV78 dc78 pm78 an78 cd78 ct78), sl78⟩)
  (c78 : PySem.W.codeIn K cd78 "_law_stairs_by" = true)
  (k78 : PySem.W.keepIn K (.ref f78) = true)
  (a79 : PySem.W.nsIn K mainGlobals "_law_spoiled_text" = some (some (.ref f79)))
  (l79 : K.lookup f79 = some ⟨oc79, od79, .func (PySem.W.fnOf "_law_spoiled_text" "_law_spoiled_text" (defArgs s_u43) (defBody s_u43) (defScope s_u43) .none kV79 dc79 pm79 an79 cd79 ct79), sl79⟩)
  (c79 : PySem.W.codeIn K cd79 "_law_spoiled_text" = true)
  (k79 : PySem.W.keepIn K (.ref f79) = true)
  (a80 : PySem.W.nsIn K mainGlobals "_law_text_by" = some (some (.ref f80)))
  (l80 : K.lookup f80 = some ⟨oc80, od80, .func (PySem.W.fnOf "_law_text_by" "_law_text_by" (defArgs s_u64) (defBody s_u64) (defScope s_u64) .none kV80 dc80 pm80 an80 cd80 ct80), sl80⟩)
  (c80 : PySem.W.codeIn K cd80 "_law_text_by" = true)
  (k80 : PySem.W.keepIn K (.ref f80) = true)
  (a81 : PySem.W.nsIn K mainGlobals "_law_number_refused" = some (some (.ref f81)))
  (l81 : K.lookup f81 = some ⟨oc81, od81, .func (PySem.W.fnOf "_law_number_refused" "_law_number_refused" (defArgs s_u34) (defBody s_u34) (defScope s_u34) .none kV81 dc81 pm81 an81 cd81 ct81), sl81⟩)
  (c81 : PySem.W.codeIn K cd81 "_law_number_refused" = true)
  (k81 : PySem.W.keepIn K (.ref f81) = true)
  (a82 : PySem.W.nsIn K mainGlobals "_law_next_refused" = some (some (.ref f82)))
  (l82 : K.lookup f82 = some ⟨oc82, od82, .func (PySem.W.fnOf "_law_next_refused" "_law_next_refused" (defArgs s_u40) (defBody s_u40) (defScope s_u40) .none kV82 dc82 pm82 an82 cd82 ct82), sl82⟩)
  (c82 : PySem.W.codeIn K cd82 "_law_next_refused" = true)
  (k82 : PySem.W.keepIn K (.ref f82) = true)
  (a83 : PySem.W.nsIn K mainGlobals "_law_no_thing" = some (some (.ref f83)))
  (l83 : K.lookup f83 = some ⟨oc83, od83, .func (PySem.W.fnOf "_law_no_thing" "_law_no_thing" (defArgs s_u58) (defBody s_u58) (defScope s_u58) .none kV83 dc83 pm83 an83 cd83 ct83), sl83⟩)
  (c83 : PySem.W.codeIn K cd83 "_law_no_thing" = true)
  (k83 : PySem.W.keepIn K (.ref f83) = true)
  (a84 : PySem.W.nsIn K mainGlobals "law" = some (some (.ref f84)))
  (l84 : K.lookup f84 = some ⟨oc84, od84, .func (PySem.W.fnOf "law" "law" (defArgs s_u83) (defBody s_u83) (defScope s_u83) .none kV84 dc84 pm84 an84 cd84 ct84), sl84⟩)
  (c84 : PySem.W.codeIn K cd84 "law" = true)
  (k84 : PySem.W.keepIn K (.ref f84) = true)
  (pg_Brackets : PySem.W.plainGet K C_Brackets Str.empty = true)
  (hd_Brackets : PySem.W.hasDictIn K C_Brackets = true)
  (po_Brackets : PySem.W.plainOver K C_Brackets = true)
  (sa_Brackets : PySem.W.findIn K (.ref C_Brackets) "__setattr__" = some (some (.builtin "object.__setattr__")))
  (pg_Stairs : PySem.W.plainGet K C_Stairs Str.empty = true)
  (hd_Stairs : PySem.W.hasDictIn K C_Stairs = true)
  (po_Stairs : PySem.W.plainOver K C_Stairs = true)
  (sa_Stairs : PySem.W.findIn K (.ref C_Stairs) "__setattr__" = some (some (.builtin "object.__setattr__")))
  (pg_Twins : PySem.W.plainGet K C_Twins Str.empty = true)
  (hd_Twins : PySem.W.hasDictIn K C_Twins = true)
  (po_Twins : PySem.W.plainOver K C_Twins = true)
  (sa_Twins : PySem.W.findIn K (.ref C_Twins) "__setattr__" = some (some (.builtin "object.__setattr__")))
  (mk_Brackets : PySem.W.makesIn K C_Brackets = true)
  (kc_Brackets : PySem.W.keepIn K (.ref C_Brackets) = true)
  (mk_Stairs : PySem.W.makesIn K C_Stairs = true)
  (kc_Stairs : PySem.W.keepIn K (.ref C_Stairs) = true)
  (mk_Twins : PySem.W.makesIn K C_Twins = true)
  (kc_Twins : PySem.W.keepIn K (.ref C_Twins) = true)
  (na_Brackets_word : PySem.W.findIn K (.ref C_Brackets) "word" = some none)
  (na_Brackets_least : PySem.W.findIn K (.ref C_Brackets) "least" = some none)
  (na_Stairs_word : PySem.W.findIn K (.ref C_Stairs) "word" = some none)
  (na_Stairs_least : PySem.W.findIn K (.ref C_Stairs) "least" = some none)
  (na_Twins_word : PySem.W.findIn K (.ref C_Twins) "word" = some none)
  (na_Twins_least : PySem.W.findIn K (.ref C_Twins) "least" = some none)
  (ia_Brackets : PySem.W.findIn K (.ref C_Brackets) "__class__" = some (some (.builtin "object.__class__")))
  (im_Brackets : PySem.W.mroIn K C_Brackets (.type "object") = some true)
  (ia_Stairs : PySem.W.findIn K (.ref C_Stairs) "__class__" = some (some (.builtin "object.__class__")))
  (im_Stairs : PySem.W.mroIn K C_Stairs (.type "object") = some true)
  (ia_Twins : PySem.W.findIn K (.ref C_Twins) "__class__" = some (some (.builtin "object.__class__")))
  (im_Twins : PySem.W.mroIn K C_Twins (.type "object") = some true)
  (in_get : PySem.W.specialIn K (.builtin "object.__class__") "__get__" = some (some (.builtin "getset_descriptor.__get__")))
  (in_tk : PySem.W.takesIn K (.builtin "object.__class__") = some true)
  (ki_Brackets_Family : PySem.W.kitOne K (.ref C_Brackets) (.ref C_Family) = some true)
  (ki_Stairs_Family : PySem.W.kitOne K (.ref C_Stairs) (.ref C_Family) = some true)
  (ki_Twins_Family : PySem.W.kitOne K (.ref C_Twins) (.ref C_Family) = some true)
  (z_len : PySem.W.nsIn K mainGlobals "len" = some none)
  (z_range : PySem.W.nsIn K mainGlobals "range" = some none)
  (z_sum : PySem.W.nsIn K mainGlobals "sum" = some none)
  (z_isinstance : PySem.W.nsIn K mainGlobals "isinstance" = some none)
  (z_tuple : PySem.W.nsIn K mainGlobals "tuple" = some none)
  (z_int : PySem.W.nsIn K mainGlobals "int" = some none)
  (z_bool : PySem.W.nsIn K mainGlobals "bool" = some none)
  (z_str : PySem.W.nsIn K mainGlobals "str" = some none)
  (z_list : PySem.W.nsIn K mainGlobals "list" = some none)
  (z_enumerate : PySem.W.nsIn K mainGlobals "enumerate" = some none)
  (z_ValueError : PySem.W.nsIn K mainGlobals "ValueError" = some none) {t_GREATEST_SIZE : Tok}
  (y_GREATEST_SIZE : PySem.W.nsIn K mainGlobals "GREATEST_SIZE" = some (some (Value.int 40 t_GREATEST_SIZE)))
  {c_kin : Addr} {c_size : Addr} {c_number : Addr} {c_thing : Addr} {c_family : Addr} {c_way : Addr} {c_apart : Addr} {c_mark : Addr} {c_text : Addr} {c_broken : Addr}
  (n_kin : PySem.W.nsIn K mainGlobals "KinError" = some (some (.ref c_kin)))
  (n_size : PySem.W.nsIn K mainGlobals "NoSize" = some (some (.ref c_size)))
  (n_number : PySem.W.nsIn K mainGlobals "NoNumber" = some (some (.ref c_number)))
  (n_thing : PySem.W.nsIn K mainGlobals "NoThing" = some (some (.ref c_thing)))
  (n_family : PySem.W.nsIn K mainGlobals "NoFamily" = some (some (.ref c_family)))
  (n_way : PySem.W.nsIn K mainGlobals "NoWay" = some (some (.ref c_way)))
  (n_apart : PySem.W.nsIn K mainGlobals "Apart" = some (some (.ref c_apart)))
  (n_mark : PySem.W.nsIn K mainGlobals "NoMark" = some (some (.ref c_mark)))
  (n_text : PySem.W.nsIn K mainGlobals "NoText" = some (some (.ref c_text)))
  (n_broken : PySem.W.nsIn K mainGlobals "Broken" = some (some (.ref c_broken)))
  (t_err : errTab K ⟨c_kin, c_size, c_number, c_thing, c_family, c_way, c_apart, c_mark, c_text, c_broken⟩ = true) :
  ∃ fd : FuncData, (∀ (s : Shared) (v : Value), BindsTo s fd ⟨[v], []⟩ [("_law_script", v)]) ∧ ∀ base : Heap, K.In base → base.Ns mainGlobals mg → FnOk l.prog w K mg base CX0 50 fa fd ["_law_script"] (spL K) := by
 have e := hfa.symm.trans (PySem.W.mg_of X G a84)
 cases e
 have EO : ErrOk K mg ⟨c_kin, c_size, c_number, c_thing, c_family, c_way, c_apart, c_mark, c_text, c_broken⟩ := errOk t_err (PySem.W.mg_of X G n_kin) (PySem.W.mg_of X G n_size) (PySem.W.mg_of X G n_number) (PySem.W.mg_of X G n_thing) (PySem.W.mg_of X G n_family) (PySem.W.mg_of X G n_way) (PySem.W.mg_of X G n_apart) (PySem.W.mg_of X G n_mark) (PySem.W.mg_of X G n_text) (PySem.W.mg_of X G n_broken)
 have CA : ClOk K mg ⟨C_Brackets, C_Stairs, C_Twins, C_Family, C_SplitFamily, f3, f4, f5, f6, f7, f8, f9, f10, f11, f14, f15, f16, f17, f18, f20, f21, f22, f23, f24, f26, f27, f28, f29, f30, f31, f32, f33, f34, f35, f36, f43, f44, f45, f47, f48, f49, f50, f51, f52, f53, f55, f56, f57, f58, f59, f60, f61, f62, f63, f64, f65, f68, f69, f70⟩ := ⟨PySem.W.mg_of X G nc_Family, PySem.W.mg_of X G nc_Brackets, PySem.W.mg_of X G nc_Stairs, PySem.W.mg_of X G nc_Twins, PySem.W.mg_of X G nc_SplitFamily, ⟨pg_Brackets, hd_Brackets, po_Brackets, sa_Brackets⟩, ⟨pg_Stairs, hd_Stairs, po_Stairs, sa_Stairs⟩, ⟨pg_Twins, hd_Twins, po_Twins, sa_Twins⟩, ⟨a_Brackets_many, i15, k15⟩, ⟨a_Stairs_many, i23, k23⟩, ⟨a_Twins_many, i31, k31⟩, ⟨a_Brackets_thing_of, i21, k21⟩, ⟨a_Stairs_thing_of, i29, k29⟩, ⟨a_Twins_thing_of, i36, k36⟩, ⟨a_Brackets_number_of, i50, k50⟩, ⟨a_Stairs_number_of, i58, k58⟩, ⟨a_Twins_number_of, i65, k65⟩, ⟨a_Brackets_next_of, i68, k68⟩, ⟨a_Stairs_next_of, i69, k69⟩, ⟨a_Twins_next_of, i70, k70⟩, ⟨a_Brackets_unchecked_thing, i20, k20⟩, ⟨a_Brackets_unchecked_many, i14, k14⟩, ⟨a_Brackets_thing_by_parts, i18, k18⟩, ⟨a_Brackets_bare, i16, k16⟩, ⟨a_Brackets_joined, i17, k17⟩, ⟨a_Stairs_unchecked_thing, i28, k28⟩, ⟨a_Stairs_unchecked_many, i22, k22⟩, ⟨a_Stairs_thing_by_parts, i27, k27⟩, ⟨a_Stairs_bare, i24, k24⟩, ⟨a_Stairs_joined, i26, k26⟩, ⟨a_Twins_unchecked_thing, i35, k35⟩, ⟨a_Twins_unchecked_many, i30, k30⟩, ⟨a_Twins_thing_by_parts, i34, k34⟩, ⟨a_Twins_bare, i32, k32⟩, ⟨a_Twins_joined, i33, k33⟩, ⟨a_Brackets_refuse_other, i44, k44⟩, ⟨a_Brackets_unchecked_number, i49, k49⟩, ⟨a_Brackets_is_one, i43, k43⟩, ⟨a_Brackets_number_by_parts, i48, k48⟩, ⟨a_Brackets_size_of, i45, k45⟩, ⟨a_Brackets_parted, i47, k47⟩, ⟨a_Stairs_refuse_other, i52, k52⟩, ⟨a_Stairs_unchecked_number, i57, k57⟩, ⟨a_Stairs_is_one, i51, k51⟩, ⟨a_Stairs_number_by_parts, i56, k56⟩, ⟨a_Stairs_size_of, i53, k53⟩, ⟨a_Stairs_parted, i55, k55⟩, ⟨a_Twins_refuse_other, i60, k60⟩, ⟨a_Twins_unchecked_number, i64, k64⟩, ⟨a_Twins_is_one, i59, k59⟩, ⟨a_Twins_number_by_parts, i63, k63⟩, ⟨a_Twins_size_of, i61, k61⟩, ⟨a_Twins_parted, i62, k62⟩, ⟨mk_Brackets, ai_Brackets, i5, kc_Brackets⟩, ⟨mk_Stairs, ai_Stairs, i8, kc_Stairs⟩, ⟨mk_Twins, ai_Twins, i11, kc_Twins⟩, ⟨cg_SplitFamily___init___Brackets, cr_SplitFamily___init___Brackets, ch_SplitFamily___init___Brackets, k4⟩, ⟨cg_Family___init___Brackets, cr_Family___init___Brackets, ch_Family___init___Brackets, k3⟩, ⟨cg_SplitFamily___init___Stairs, cr_SplitFamily___init___Stairs, ch_SplitFamily___init___Stairs, k7⟩, ⟨cg_Family___init___Stairs, cr_Family___init___Stairs, ch_Family___init___Stairs, k6⟩, ⟨cg_SplitFamily___init___Twins, cr_SplitFamily___init___Twins, ch_SplitFamily___init___Twins, k10⟩, ⟨cg_Family___init___Twins, cr_Family___init___Twins, ch_Family___init___Twins, k9⟩, na_Brackets_word, na_Brackets_least, na_Stairs_word, na_Stairs_least, na_Twins_word, na_Twins_least, ⟨⟨pg_Brackets, hd_Brackets, po_Brackets, sa_Brackets⟩, ia_Brackets, in_get, in_tk, im_Brackets⟩, ⟨⟨pg_Stairs, hd_Stairs, po_Stairs, sa_Stairs⟩, ia_Stairs, in_get, in_tk, im_Stairs⟩, ⟨⟨pg_Twins, hd_Twins, po_Twins, sa_Twins⟩, ia_Twins, in_get, in_tk, im_Twins⟩, ki_Brackets_Family, ki_Stairs_Family, ki_Twins_Family⟩
 have F1 := fun_mk (st := s_u61) l1 c1 k1
 have b1 := F1.binds (ps := ["_law_script", "_law_k"]) fun _ _ _ _ _ _ => lenAll2 (fun _ _ => rfl)
 have F2 := fun_mk (st := s_u71) l2 c2 k2
 have b2 := F2.binds (ps := ["_law_size"]) fun _ _ _ _ _ _ => lenAll1 (fun _ => rfl)
 have F3 := fun_mk (st := s_u22) l3 c3 k3
 have b3 := F3.binds (ps := ["self", "word", "least"]) fun _ _ _ _ _ _ => lenAll3 (fun _ _ _ => rfl)
 have F4 := fun_mk (st := s_u15) l4 c4 k4
 have b4 := F4.binds (ps := ["self", "word"]) fun _ _ _ _ _ _ => lenAll2 (fun _ _ => rfl)
 have F5 := fun_mk (st := s_u39) l5 c5 k5
 have b5 := F5.binds (ps := ["self"]) fun _ _ _ _ _ _ => lenAll1 (fun _ => rfl)
 have F6 := fun_mk (st := s_u27) l6 c6 k6
 have b6 := F6.binds (ps := ["self", "word", "least"]) fun _ _ _ _ _ _ => lenAll3 (fun _ _ _ => rfl)
 have F7 := fun_mk (st := s_u17) l7 c7 k7
 have b7 := F7.binds (ps := ["self", "word"]) fun _ _ _ _ _ _ => lenAll2 (fun _ _ => rfl)
 have F8 := fun_mk (st := s_u47) l8 c8 k8
 have b8 := F8.binds (ps := ["self"]) fun _ _ _ _ _ _ => lenAll1 (fun _ => rfl)
 have F9 := fun_mk (st := s_u31) l9 c9 k9
 have b9 := F9.binds (ps := ["self", "word", "least"]) fun _ _ _ _ _ _ => lenAll3 (fun _ _ _ => rfl)
 have F10 := fun_mk (st := s_u18) l10 c10 k10
 have b10 := F10.binds (ps := ["self", "word"]) fun _ _ _ _ _ _ => lenAll2 (fun _ _ => rfl)
 have F11 := fun_mk (st := s_u49) l11 c11 k11
 have b11 := F11.binds (ps := ["self"]) fun _ _ _ _ _ _ => lenAll1 (fun _ => rfl)
 have F12 := fun_mk (st := s_u78) l12 c12 k12
 have b12 := F12.binds (ps := ["_law_way"]) fun _ _ _ _ _ _ => lenAll1 (fun _ => rfl)
 have F13 := fun_mk (st := s_u80) l13 c13 k13
 have b13 := F13.binds (ps := ["size"]) fun _ _ _ _ _ _ => lenAll1 (fun _ => rfl)
 have F14 := fun_mk (st := s_u4) l14 c14 k14
 have b14 := F14.binds (ps := ["self", "size"]) fun _ _ _ _ _ _ => lenAll2 (fun _ _ => rfl)
 have F15 := fun_mk (st := s_u33) l15 c15 k15
 have b15 := F15.binds (ps := ["self", "size"]) fun _ _ _ _ _ _ => lenAll2 (fun _ _ => rfl)
 have F16 := fun_mk (st := s_u56) l16 c16 k16
 have b16 := F16.binds (ps := ["self"]) fun _ _ _ _ _ _ => lenAll1 (fun _ => rfl)
 have F17 := fun_mk (st := s_u46) l17 c17 k17
 have b17 := F17.binds (ps := ["self", "left", "right"]) fun _ _ _ _ _ _ => lenAll3 (fun _ _ _ => rfl)
 have F18 := fun_mk (st := s_u5) l18 c18 k18
 have b18 := F18.binds (ps := ["self", "counts", "size", "number"]) fun _ _ _ _ _ _ => lenAll4 (fun _ _ _ _ => rfl)
 have F19 := fun_mk (st := s_u82) l19 c19 k19
 have b19 := F19.binds (ps := ["most"]) fun _ _ _ _ _ _ => lenAll1 (fun _ => rfl)
 have F20 := fun_mk (st := s_u1) l20 c20 k20
 have b20 := F20.binds (ps := ["self", "size", "number"]) fun _ _ _ _ _ _ => lenAll3 (fun _ _ _ => rfl)
 have F21 := fun_mk (st := s_u23) l21 c21 k21
 have b21 := F21.binds (ps := ["self", "size", "number"]) fun _ _ _ _ _ _ => lenAll3 (fun _ _ _ => rfl)
 have F22 := fun_mk (st := s_u11) l22 c22 k22
 have b22 := F22.binds (ps := ["self", "size"]) fun _ _ _ _ _ _ => lenAll2 (fun _ _ => rfl)
 have F23 := fun_mk (st := s_u35) l23 c23 k23
 have b23 := F23.binds (ps := ["self", "size"]) fun _ _ _ _ _ _ => lenAll2 (fun _ _ => rfl)
 have F24 := fun_mk (st := s_u62) l24 c24 k24
 have b24 := F24.binds (ps := ["self"]) fun _ _ _ _ _ _ => lenAll1 (fun _ => rfl)
 have F25 := fun_mk (st := s_u75) l25 c25 k25
 have b25 := F25.binds (ps := ["numbers", "step"]) fun _ _ _ _ _ _ => lenAll2 (fun _ _ => rfl)
 have F26 := fun_mk (st := s_u55) l26 c26 k26
 have b26 := F26.binds (ps := ["self", "left", "right"]) fun _ _ _ _ _ _ => lenAll3 (fun _ _ _ => rfl)
 have F27 := fun_mk (st := s_u10) l27 c27 k27
 have b27 := F27.binds (ps := ["self", "counts", "size", "number"]) fun _ _ _ _ _ _ => lenAll4 (fun _ _ _ _ => rfl)
 have F28 := fun_mk (st := s_u7) l28 c28 k28
 have b28 := F28.binds (ps := ["self", "size", "number"]) fun _ _ _ _ _ _ => lenAll3 (fun _ _ _ => rfl)
 have F29 := fun_mk (st := s_u26) l29 c29 k29
 have b29 := F29.binds (ps := ["self", "size", "number"]) fun _ _ _ _ _ _ => lenAll3 (fun _ _ _ => rfl)
 have F30 := fun_mk (st := s_u13) l30 c30 k30
 have b30 := F30.binds (ps := ["self", "size"]) fun _ _ _ _ _ _ => lenAll2 (fun _ _ => rfl)
 have F31 := fun_mk (st := s_u38) l31 c31 k31
 have b31 := F31.binds (ps := ["self", "size"]) fun _ _ _ _ _ _ => lenAll2 (fun _ _ => rfl)
 have F32 := fun_mk (st := s_u65) l32 c32 k32
 have b32 := F32.binds (ps := ["self"]) fun _ _ _ _ _ _ => lenAll1 (fun _ => rfl)
 have F33 := fun_mk (st := s_u60) l33 c33 k33
 have b33 := F33.binds (ps := ["self", "left", "right"]) fun _ _ _ _ _ _ => lenAll3 (fun _ _ _ => rfl)
 have F34 := fun_mk (st := s_u14) l34 c34 k34
 have b34 := F34.binds (ps := ["self", "counts", "size", "number"]) fun _ _ _ _ _ _ => lenAll4 (fun _ _ _ _ => rfl)
 have F35 := fun_mk (st := s_u12) l35 c35 k35
 have b35 := F35.binds (ps := ["self", "size", "number"]) fun _ _ _ _ _ _ => lenAll3 (fun _ _ _ => rfl)
 have F36 := fun_mk (st := s_u30) l36 c36 k36
 have b36 := F36.binds (ps := ["self", "size", "number"]) fun _ _ _ _ _ _ => lenAll3 (fun _ _ _ => rfl)
 have F37 := fun_mk (st := s_u66) l37 c37 k37
 have b37 := F37.binds (ps := ["_law_text"]) fun _ _ _ _ _ _ => lenAll1 (fun _ => rfl)
 have F38 := fun_mk (st := s_u70) l38 c38 k38
 have b38 := F38.binds (ps := ["_law_thing", "_law_deep"]) fun _ _ _ _ _ _ => lenAll2 (fun _ _ => rfl)
 have F39 := fun_mk (st := s_u72) l39 c39 k39
 have b39 := F39.binds (ps := ["_law_found"]) fun _ _ _ _ _ _ => lenAll1 (fun _ => rfl)
 have F40 := fun_mk (st := s_u53) l40 c40 k40
 have b40 := F40.binds (ps := ["_law_row"]) fun _ _ _ _ _ _ => lenAll1 (fun _ => rfl)
 have F41 := fun_mk (st := s_u77) l41 c41 k41
 have b41 := F41.binds (ps := ["_law_way", "_law_thing", "_law_size"]) fun _ _ _ _ _ _ => lenAll3 (fun _ _ _ => rfl)
 have F42 := fun_mk (st := s_u81) l42 c42 k42
 have b42 := F42.binds (ps := ["text"]) fun _ _ _ _ _ _ => lenAll1 (fun _ => rfl)
 have F43 := fun_mk (st := s_u44) l43 c43 k43
 have b43 := F43.binds (ps := ["self", "thing"]) fun _ _ _ _ _ _ => lenAll2 (fun _ _ => rfl)
 have F44 := fun_mk (st := s_u16) l44 c44 k44
 have b44 := F44.binds (ps := ["self", "thing"]) fun _ _ _ _ _ _ => lenAll2 (fun _ _ => rfl)
 have F45 := fun_mk (st := s_u41) l45 c45 k45
 have b45 := F45.binds (ps := ["self", "thing"]) fun _ _ _ _ _ _ => lenAll2 (fun _ _ => rfl)
 have F46 := fun_mk (st := s_u68) l46 c46 k46
 have b46 := F46.binds (ps := ["text"]) fun _ _ _ _ _ _ => lenAll1 (fun _ => rfl)
 have F47 := fun_mk (st := s_u45) l47 c47 k47
 have b47 := F47.binds (ps := ["self", "thing"]) fun _ _ _ _ _ _ => lenAll2 (fun _ _ => rfl)
 have F48 := fun_mk (st := s_u2) l48 c48 k48
 have b48 := F48.binds (ps := ["self", "counts", "thing"]) fun _ _ _ _ _ _ => lenAll3 (fun _ _ _ => rfl)
 have F49 := fun_mk (st := s_u0) l49 c49 k49
 have b49 := F49.binds (ps := ["self", "thing"]) fun _ _ _ _ _ _ => lenAll2 (fun _ _ => rfl)
 have F50 := fun_mk (st := s_u20) l50 c50 k50
 have b50 := F50.binds (ps := ["self", "thing"]) fun _ _ _ _ _ _ => lenAll2 (fun _ _ => rfl)
 have F51 := fun_mk (st := s_u50) l51 c51 k51
 have b51 := F51.binds (ps := ["self", "thing"]) fun _ _ _ _ _ _ => lenAll2 (fun _ _ => rfl)
 have F52 := fun_mk (st := s_u19) l52 c52 k52
 have b52 := F52.binds (ps := ["self", "thing"]) fun _ _ _ _ _ _ => lenAll2 (fun _ _ => rfl)
 have F53 := fun_mk (st := s_u48) l53 c53 k53
 have b53 := F53.binds (ps := ["self", "thing"]) fun _ _ _ _ _ _ => lenAll2 (fun _ _ => rfl)
 have F54 := fun_mk (st := s_u67) l54 c54 k54
 have b54 := F54.binds (ps := ["stairs"]) fun _ _ _ _ _ _ => lenAll1 (fun _ => rfl)
 have F55 := fun_mk (st := s_u52) l55 c55 k55
 have b55 := F55.binds (ps := ["self", "thing"]) fun _ _ _ _ _ _ => lenAll2 (fun _ _ => rfl)
 have F56 := fun_mk (st := s_u6) l56 c56 k56
 have b56 := F56.binds (ps := ["self", "counts", "thing"]) fun _ _ _ _ _ _ => lenAll3 (fun _ _ _ => rfl)
 have F57 := fun_mk (st := s_u3) l57 c57 k57
 have b57 := F57.binds (ps := ["self", "thing"]) fun _ _ _ _ _ _ => lenAll2 (fun _ _ => rfl)
 have F58 := fun_mk (st := s_u25) l58 c58 k58
 have b58 := F58.binds (ps := ["self", "thing"]) fun _ _ _ _ _ _ => lenAll2 (fun _ _ => rfl)
 have F59 := fun_mk (st := s_u57) l59 c59 k59
 have b59 := F59.binds (ps := ["self", "thing"]) fun _ _ _ _ _ _ => lenAll2 (fun _ _ => rfl)
 have F60 := fun_mk (st := s_u21) l60 c60 k60
 have b60 := F60.binds (ps := ["self", "thing"]) fun _ _ _ _ _ _ => lenAll2 (fun _ _ => rfl)
 have F61 := fun_mk (st := s_u51) l61 c61 k61
 have b61 := F61.binds (ps := ["self", "thing"]) fun _ _ _ _ _ _ => lenAll2 (fun _ _ => rfl)
 have F62 := fun_mk (st := s_u59) l62 c62 k62
 have b62 := F62.binds (ps := ["self", "thing"]) fun _ _ _ _ _ _ => lenAll2 (fun _ _ => rfl)
 have F63 := fun_mk (st := s_u9) l63 c63 k63
 have b63 := F63.binds (ps := ["self", "counts", "thing"]) fun _ _ _ _ _ _ => lenAll3 (fun _ _ _ => rfl)
 have F64 := fun_mk (st := s_u8) l64 c64 k64
 have b64 := F64.binds (ps := ["self", "thing"]) fun _ _ _ _ _ _ => lenAll2 (fun _ _ => rfl)
 have F65 := fun_mk (st := s_u28) l65 c65 k65
 have b65 := F65.binds (ps := ["self", "thing"]) fun _ _ _ _ _ _ => lenAll2 (fun _ _ => rfl)
 have F66 := fun_mk (st := s_u69) l66 c66 k66
 have b66 := F66.binds (ps := ["_law_kin_here", "_law_way", "_law_far"]) fun _ _ _ _ _ _ => lenAll3 (fun _ _ _ => rfl)
 have F67 := fun_mk (st := s_u76) l67 c67 k67
 have b67 := F67.binds (ps := ["_law_way", "_law_thing"]) fun _ _ _ _ _ _ => lenAll2 (fun _ _ => rfl)
 have F68 := fun_mk (st := s_u24) l68 c68 k68
 have b68 := F68.binds (ps := ["self", "thing"]) fun _ _ _ _ _ _ => lenAll2 (fun _ _ => rfl)
 have F69 := fun_mk (st := s_u29) l69 c69 k69
 have b69 := F69.binds (ps := ["self", "thing"]) fun _ _ _ _ _ _ => lenAll2 (fun _ _ => rfl)
 have F70 := fun_mk (st := s_u32) l70 c70 k70
 have b70 := F70.binds (ps := ["self", "thing"]) fun _ _ _ _ _ _ => lenAll2 (fun _ _ => rfl)
 have F71 := fun_mk (st := s_u74) l71 c71 k71
 have b71 := F71.binds (ps := ["_law_way", "_law_size", "_law_number"]) fun _ _ _ _ _ _ => lenAll3 (fun _ _ _ => rfl)
 have F72 := fun_mk (st := s_u63) l72 c72 k72
 have b72 := F72.binds (ps := ["_law_error"]) fun _ _ _ _ _ _ => lenAll1 (fun _ => rfl)
 have F73 := fun_mk (st := s_u36) l73 c73 k73
 have b73 := F73.binds (ps := ["_law_way", "_law_size", "_law_number"]) fun _ _ _ _ _ _ => lenAll3 (fun _ _ _ => rfl)
 have F74 := fun_mk (st := s_u42) l74 c74 k74
 have b74 := F74.binds (ps := ["_law_way", "_law_size"]) fun _ _ _ _ _ _ => lenAll2 (fun _ _ => rfl)
 have F75 := fun_mk (st := s_u37) l75 c75 k75
 have b75 := F75.binds (ps := ["_law_way", "_law_size", "_law_number"]) fun _ _ _ _ _ _ => lenAll3 (fun _ _ _ => rfl)
 have F76 := fun_mk (st := s_u79) l76 c76 k76
 have b76 := F76.binds (ps := ["_law_cell", "_law_turn"]) fun _ _ _ _ _ _ => lenAll2 (fun _ _ => rfl)
 have F77 := fun_mk (st := s_u73) l77 c77 k77
 have b77 := F77.binds (ps := ["_law_script", "_law_turn", "_law_many"]) fun _ _ _ _ _ _ => lenAll3 (fun _ _ _ => rfl)
 have F78 := fun_mk (st := s_u54) l78 c78 k78
 have b78 := F78.binds (ps := ["_law_script", "_law_size", "_law_turn"]) fun _ _ _ _ _ _ => lenAll3 (fun _ _ _ => rfl)
 have F79 := fun_mk (st := s_u43) l79 c79 k79
 have b79 := F79.binds (ps := ["_law_text", "_law_cell"]) fun _ _ _ _ _ _ => lenAll2 (fun _ _ => rfl)
 have F80 := fun_mk (st := s_u64) l80 c80 k80
 have b80 := F80.binds (ps := ["_law_script", "_law_size", "_law_turn"]) fun _ _ _ _ _ _ => lenAll3 (fun _ _ _ => rfl)
 have F81 := fun_mk (st := s_u34) l81 c81 k81
 have b81 := F81.binds (ps := ["_law_way", "_law_thing"]) fun _ _ _ _ _ _ => lenAll2 (fun _ _ => rfl)
 have F82 := fun_mk (st := s_u40) l82 c82 k82
 have b82 := F82.binds (ps := ["_law_way", "_law_thing"]) fun _ _ _ _ _ _ => lenAll2 (fun _ _ => rfl)
 have F83 := fun_mk (st := s_u58) l83 c83 k83
 have b83 := F83.binds (ps := ["_law_way", "_law_script"]) fun _ _ _ _ _ _ => lenAll2 (fun _ _ => rfl)
 have F84 := fun_mk (st := s_u83) l84 c84 k84
 have m_len := PySem.W.mg_none_of X G z_len
 have m_range := PySem.W.mg_none_of X G z_range
 have m_sum := PySem.W.mg_none_of X G z_sum
 have m_isinstance := PySem.W.mg_none_of X G z_isinstance
 have m_tuple := PySem.W.mg_none_of X G z_tuple
 have m_int := PySem.W.mg_none_of X G z_int
 have m_bool := PySem.W.mg_none_of X G z_bool
 have m_str := PySem.W.mg_none_of X G z_str
 have m_list := PySem.W.mg_none_of X G z_list
 have m_enumerate := PySem.W.mg_none_of X G z_enumerate
 have m_ValueError := PySem.W.mg_none_of X G z_ValueError
 have g_GREATEST_SIZE : mg "GREATEST_SIZE" = some (Value.int 40 t_GREATEST_SIZE) ∧ RelV (.int 40) (Value.int 40 t_GREATEST_SIZE) := ⟨PySem.W.mg_of X G y_GREATEST_SIZE, ⟨_, rfl⟩⟩
 refine ⟨PySem.W.fnOf "law" "law" (defArgs s_u83) (defBody s_u83) (defScope s_u83) .none kV84 dc84 pm84 an84 cd84 ct84, fun s v => .of_eq rfl, fun base _ _ => ?_⟩
 have d_u61 : Def l.prog w K mg base "_law_cell_at" ["_law_script", "_law_k"] 1 (sp_u61 K _) f1 _ := ⟨(ok_u61 (P := l.prog) (w := w) (base := base) EO CA F1 m_len).up, b1, k1, PySem.W.mg_of X G a1⟩
 have d_u71 : Def l.prog w K mg base "_law_share" ["_law_size"] 1 (sp_u71 K _) f2 _ := ⟨(ok_u71 (P := l.prog) (w := w) (base := base) EO CA F2 m_range).up, b2, k2, PySem.W.mg_of X G a2⟩
 have d_u22 : MDef l.prog w K mg base ["self", "word", "least"] 1 (sp_u22 K _) f3 _ := ⟨(ok_u22 (P := l.prog) (w := w) (base := base) EO CA F3).up, b3⟩
 have d_u15 : MDef l.prog w K mg base ["self", "word"] 3 (sp_u15 K _) f4 _ := ⟨(ok_u15 (P := l.prog) (w := w) (base := base) EO CA F4 d_u22).up, b4⟩
 have d_u39 : MDef l.prog w K mg base ["self"] 5 (sp_u39 K _) f5 _ := ⟨(ok_u39 (P := l.prog) (w := w) (base := base) EO CA F5 d_u15).up, b5⟩
 have d_u27 : MDef l.prog w K mg base ["self", "word", "least"] 1 (sp_u27 K _) f6 _ := ⟨(ok_u27 (P := l.prog) (w := w) (base := base) EO CA F6).up, b6⟩
 have d_u17 : MDef l.prog w K mg base ["self", "word"] 3 (sp_u17 K _) f7 _ := ⟨(ok_u17 (P := l.prog) (w := w) (base := base) EO CA F7 d_u27).up, b7⟩
 have d_u47 : MDef l.prog w K mg base ["self"] 5 (sp_u47 K _) f8 _ := ⟨(ok_u47 (P := l.prog) (w := w) (base := base) EO CA F8 d_u17).up, b8⟩
 have d_u31 : MDef l.prog w K mg base ["self", "word", "least"] 1 (sp_u31 K _) f9 _ := ⟨(ok_u31 (P := l.prog) (w := w) (base := base) EO CA F9).up, b9⟩
 have d_u18 : MDef l.prog w K mg base ["self", "word"] 3 (sp_u18 K _) f10 _ := ⟨(ok_u18 (P := l.prog) (w := w) (base := base) EO CA F10 d_u31).up, b10⟩
 have d_u49 : MDef l.prog w K mg base ["self"] 5 (sp_u49 K _) f11 _ := ⟨(ok_u49 (P := l.prog) (w := w) (base := base) EO CA F11 d_u18).up, b11⟩
 have d_u78 : Def l.prog w K mg base "_law_kin" ["_law_way"] 7 (sp_u78 K _) f12 _ := ⟨(ok_u78 (P := l.prog) (w := w) (base := base) EO CA F12 d_u39 d_u47 d_u49).up, b12, k12, PySem.W.mg_of X G a12⟩
 have d_u80 : Def l.prog w K mg base "by_rule" ["size"] 1 (sp_u80 K _) f13 _ := ⟨(ok_u80 (P := l.prog) (w := w) (base := base) EO CA F13 m_range).up, b13, k13, PySem.W.mg_of X G a13⟩
 have d_u4 : MDef l.prog w K mg base ["self", "size"] 2 (sp_u4 K _) f14 _ := ⟨(ok_u4 (P := l.prog) (w := w) (base := base) EO CA F14 d_u80).up, b14⟩
 have d_u33 : MDef l.prog w K mg base ["self", "size"] 3 (sp_u33 K _ _) f15 _ := ⟨(ok_u33 (P := l.prog) (w := w) (base := base) EO CA F15 d_u4 g_GREATEST_SIZE), b15⟩
 have d_u56 : MDef l.prog w K mg base ["self"] 1 (sp_u56 K _) f16 _ := ⟨(ok_u56 (P := l.prog) (w := w) (base := base) EO CA F16).up, b16⟩
 have d_u46 : MDef l.prog w K mg base ["self", "left", "right"] 1 (sp_u46 K _) f17 _ := ⟨(ok_u46 (P := l.prog) (w := w) (base := base) EO CA F17).up, b17⟩
 have r_u5 : ∀ n, FnOk l.prog w K mg base (CX1 l.prog w) (1 + n + 1) f18 _ ["self", "counts", "size", "number"] (sp_u5 K _ n) := rec_ok fun n q => ok_u5 (P := l.prog) (w := w) (base := base) EO CA F18 d_u56 d_u46 n ⟨below_ok q, b18⟩
 have d_u5 : MDef l.prog w K mg base ["self", "counts", "size", "number"] 43 (spA_u5 K _) f18 _ := ⟨((below_ok (L := 1) (N := 41) fun m _ => r_u5 m).mono (by decide)), b18⟩
 have d_u82 : Def l.prog w K mg base "shares" ["most"] 1 (sp_u82 K _) f19 _ := ⟨(ok_u82 (P := l.prog) (w := w) (base := base) EO CA F19 m_range m_sum).up, b19, k19, PySem.W.mg_of X G a19⟩
 have d_u1 : MDef l.prog w K mg base ["self", "size", "number"] 44 (sp_u1 K _) f20 _ := ⟨(ok_u1 (P := l.prog) (w := w) (base := base) EO CA F20 d_u5 d_u82).up, b20⟩
 have d_u23 : MDef l.prog w K mg base ["self", "size", "number"] 45 (sp_u23 K _ _) f21 _ := ⟨(ok_u23 (P := l.prog) (w := w) (base := base) EO CA F21 d_u33 d_u1), b21⟩
 have d_u11 : MDef l.prog w K mg base ["self", "size"] 2 (sp_u11 K _) f22 _ := ⟨(ok_u11 (P := l.prog) (w := w) (base := base) EO CA F22 d_u80).up, b22⟩
 have d_u35 : MDef l.prog w K mg base ["self", "size"] 3 (sp_u35 K _ _) f23 _ := ⟨(ok_u35 (P := l.prog) (w := w) (base := base) EO CA F23 d_u11 g_GREATEST_SIZE), b23⟩
 have d_u62 : MDef l.prog w K mg base ["self"] 1 (sp_u62 K _) f24 _ := ⟨(ok_u62 (P := l.prog) (w := w) (base := base) EO CA F24).up, b24⟩
 have d_u75 : Def l.prog w K mg base "raised_by" ["numbers", "step"] 1 (sp_u75 K _) f25 _ := ⟨(ok_u75 (P := l.prog) (w := w) (base := base) EO CA F25).up, b25, k25, PySem.W.mg_of X G a25⟩
 have d_u55 : MDef l.prog w K mg base ["self", "left", "right"] 2 (sp_u55 K _) f26 _ := ⟨(ok_u55 (P := l.prog) (w := w) (base := base) EO CA F26 d_u75 m_len).up, b26⟩
 have r_u10 : ∀ n, FnOk l.prog w K mg base (CX1 l.prog w) (2 + n + 1) f27 _ ["self", "counts", "size", "number"] (sp_u10 K _ n) := rec_ok fun n q => ok_u10 (P := l.prog) (w := w) (base := base) EO CA F27 d_u62 d_u55 n ⟨below_ok q, b27⟩
 have d_u10 : MDef l.prog w K mg base ["self", "counts", "size", "number"] 44 (spA_u10 K _) f27 _ := ⟨((below_ok (L := 2) (N := 41) fun m _ => r_u10 m).mono (by decide)), b27⟩
 have d_u7 : MDef l.prog w K mg base ["self", "size", "number"] 45 (sp_u7 K _) f28 _ := ⟨(ok_u7 (P := l.prog) (w := w) (base := base) EO CA F28 d_u10 d_u82).up, b28⟩
 have d_u26 : MDef l.prog w K mg base ["self", "size", "number"] 46 (sp_u26 K _ _) f29 _ := ⟨(ok_u26 (P := l.prog) (w := w) (base := base) EO CA F29 d_u35 d_u7), b29⟩
 have d_u13 : MDef l.prog w K mg base ["self", "size"] 2 (sp_u13 K _) f30 _ := ⟨(ok_u13 (P := l.prog) (w := w) (base := base) EO CA F30 d_u80).up, b30⟩
 have d_u38 : MDef l.prog w K mg base ["self", "size"] 3 (sp_u38 K _ _) f31 _ := ⟨(ok_u38 (P := l.prog) (w := w) (base := base) EO CA F31 d_u13 g_GREATEST_SIZE), b31⟩
 have d_u65 : MDef l.prog w K mg base ["self"] 1 (sp_u65 K _) f32 _ := ⟨(ok_u65 (P := l.prog) (w := w) (base := base) EO CA F32).up, b32⟩
 have d_u60 : MDef l.prog w K mg base ["self", "left", "right"] 1 (sp_u60 K _) f33 _ := ⟨(ok_u60 (P := l.prog) (w := w) (base := base) EO CA F33).up, b33⟩
 have r_u14 : ∀ n, FnOk l.prog w K mg base (CX1 l.prog w) (1 + n + 1) f34 _ ["self", "counts", "size", "number"] (sp_u14 K _ n) := rec_ok fun n q => ok_u14 (P := l.prog) (w := w) (base := base) EO CA F34 d_u65 d_u60 n ⟨below_ok q, b34⟩
 have d_u14 : MDef l.prog w K mg base ["self", "counts", "size", "number"] 43 (spA_u14 K _) f34 _ := ⟨((below_ok (L := 1) (N := 41) fun m _ => r_u14 m).mono (by decide)), b34⟩
 have d_u12 : MDef l.prog w K mg base ["self", "size", "number"] 44 (sp_u12 K _) f35 _ := ⟨(ok_u12 (P := l.prog) (w := w) (base := base) EO CA F35 d_u14 d_u82).up, b35⟩
 have d_u30 : MDef l.prog w K mg base ["self", "size", "number"] 45 (sp_u30 K _ _) f36 _ := ⟨(ok_u30 (P := l.prog) (w := w) (base := base) EO CA F36 d_u38 d_u12), b36⟩
 have d_u66 : Def l.prog w K mg base "_law_closes" ["_law_text"] 1 (sp_u66 K _) f37 _ := ⟨(ok_u66 (P := l.prog) (w := w) (base := base) EO CA F37).up, b37, k37, PySem.W.mg_of X G a37⟩
 have r_u70 : ∀ n, FnOk l.prog w K mg base (CX1 l.prog w) (0 + n + 1) f38 _ ["_law_thing", "_law_deep"] (sp_u70 K _ n) := rec_ok fun n q => ok_u70 (P := l.prog) (w := w) (base := base) EO CA F38 m_isinstance m_tuple m_len n ⟨below_ok q, b38, k38, PySem.W.mg_of X G a38⟩
 have d_u70 : Def l.prog w K mg base "_law_pairs" ["_law_thing", "_law_deep"] 42 (spA_u70 K _) f38 _ := ⟨((below_ok (L := 0) (N := 41) fun m _ => r_u70 m).mono (by decide)), b38, k38, PySem.W.mg_of X G a38⟩
 have d_u72 : Def l.prog w K mg base "_law_whole" ["_law_found"] 1 (sp_u72 K _) f39 _ := ⟨(ok_u72 (P := l.prog) (w := w) (base := base) EO CA F39 m_isinstance m_int m_bool).up, b39, k39, PySem.W.mg_of X G a39⟩
 have d_u53 : Def l.prog w K mg base "_law_is_stairs" ["_law_row"] 1 (sp_u53 K _) f40 _ := ⟨(ok_u53 (P := l.prog) (w := w) (base := base) EO CA F40 m_range m_len).up, b40, k40, PySem.W.mg_of X G a40⟩
 have d_u77 : Def l.prog w K mg base "_law_one" ["_law_way", "_law_thing", "_law_size"] 43 (sp_u77 K _) f41 _ := ⟨(ok_u77 (P := l.prog) (w := w) (base := base) EO CA F41 d_u66 d_u70 d_u72 d_u53 m_isinstance m_str m_len m_list).up, b41, k41, PySem.W.mg_of X G a41⟩
 have d_u81 : Def l.prog w K mg base "closes" ["text"] 1 (sp_u81 K _) f42 _ := ⟨(ok_u81 (P := l.prog) (w := w) (base := base) EO CA F42).up, b42, k42, PySem.W.mg_of X G a42⟩
 have d_u44 : MDef l.prog w K mg base ["self", "thing"] 2 (sp_u44 K _) f43 _ := ⟨(ok_u44 (P := l.prog) (w := w) (base := base) EO CA F43 d_u81).up, b43⟩
 have d_u16 : MDef l.prog w K mg base ["self", "thing"] 3 (sp_u16 K _ _) f44 _ := ⟨(ok_u16 (P := l.prog) (w := w) (base := base) EO CA F44 d_u44), b44⟩
 have d_u41 : MDef l.prog w K mg base ["self", "thing"] 1 (sp_u41 K _) f45 _ := ⟨(ok_u41 (P := l.prog) (w := w) (base := base) EO CA F45).up, b45⟩
 have d_u68 : Def l.prog w K mg base "first_close" ["text"] 1 (sp_u68 K _) f46 _ := ⟨(ok_u68 (P := l.prog) (w := w) (base := base) EO CA F46).up, b46, k46, PySem.W.mg_of X G a46⟩
 have d_u45 : MDef l.prog w K mg base ["self", "thing"] 2 (sp_u45 K _) f47 _ := ⟨(ok_u45 (P := l.prog) (w := w) (base := base) EO CA F47 d_u68).up, b47⟩
 have r_u2 : ∀ n, FnOk l.prog w K mg base (CX1 l.prog w) (2 + n + 1) f48 _ ["self", "counts", "thing"] (sp_u2 K _ n) := rec_ok fun n q => ok_u2 (P := l.prog) (w := w) (base := base) EO CA F48 d_u41 d_u45 m_sum m_range n ⟨below_ok q, b48⟩
 have d_u2 : MDef l.prog w K mg base ["self", "counts", "thing"] 44 (spA_u2 K _) f48 _ := ⟨((below_ok (L := 2) (N := 41) fun m _ => r_u2 m).mono (by decide)), b48⟩
 have d_u0 : MDef l.prog w K mg base ["self", "thing"] 45 (sp_u0 K _) f49 _ := ⟨(ok_u0 (P := l.prog) (w := w) (base := base) EO CA F49 d_u2 d_u82 d_u41).up, b49⟩
 have d_u20 : MDef l.prog w K mg base ["self", "thing"] 46 (sp_u20 K _ _) f50 _ := ⟨(ok_u20 (P := l.prog) (w := w) (base := base) EO CA F50 d_u16 d_u0), b50⟩
 have d_u50 : MDef l.prog w K mg base ["self", "thing"] 1 (sp_u50 K _) f51 _ := ⟨(ok_u50 (P := l.prog) (w := w) (base := base) EO CA F51 m_enumerate).up, b51⟩
 have d_u19 : MDef l.prog w K mg base ["self", "thing"] 2 (sp_u19 K _ _) f52 _ := ⟨(ok_u19 (P := l.prog) (w := w) (base := base) EO CA F52 d_u50), b52⟩
 have d_u48 : MDef l.prog w K mg base ["self", "thing"] 1 (sp_u48 K _) f53 _ := ⟨(ok_u48 (P := l.prog) (w := w) (base := base) EO CA F53 m_len).up, b53⟩
 have d_u67 : Def l.prog w K mg base "right_begin" ["stairs"] 1 (sp_u67 K _) f54 _ := ⟨(ok_u67 (P := l.prog) (w := w) (base := base) EO CA F54 m_range m_len).up, b54, k54, PySem.W.mg_of X G a54⟩
 have d_u52 : MDef l.prog w K mg base ["self", "thing"] 2 (sp_u52 K _) f55 _ := ⟨(ok_u52 (P := l.prog) (w := w) (base := base) EO CA F55 d_u67 d_u75).up, b55⟩
 have r_u6 : ∀ n, FnOk l.prog w K mg base (CX1 l.prog w) (2 + n + 1) f56 _ ["self", "counts", "thing"] (sp_u6 K _ n) := rec_ok fun n q => ok_u6 (P := l.prog) (w := w) (base := base) EO CA F56 d_u48 d_u52 m_sum m_range n ⟨below_ok q, b56⟩
 have d_u6 : MDef l.prog w K mg base ["self", "counts", "thing"] 44 (spA_u6 K _) f56 _ := ⟨((below_ok (L := 2) (N := 41) fun m _ => r_u6 m).mono (by decide)), b56⟩
 have d_u3 : MDef l.prog w K mg base ["self", "thing"] 45 (sp_u3 K _) f57 _ := ⟨(ok_u3 (P := l.prog) (w := w) (base := base) EO CA F57 d_u6 d_u82 d_u48).up, b57⟩
 have d_u25 : MDef l.prog w K mg base ["self", "thing"] 46 (sp_u25 K _ _) f58 _ := ⟨(ok_u25 (P := l.prog) (w := w) (base := base) EO CA F58 d_u19 d_u3), b58⟩
 have d_u57 : MDef l.prog w K mg base ["self", "thing"] 1 (sp_u57 K _) f59 _ := ⟨(ok_u57 (P := l.prog) (w := w) (base := base) EO CA F59).up, b59⟩
 have d_u21 : MDef l.prog w K mg base ["self", "thing"] 2 (sp_u21 K _ _) f60 _ := ⟨(ok_u21 (P := l.prog) (w := w) (base := base) EO CA F60 d_u57), b60⟩
 have d_u51 : MDef l.prog w K mg base ["self", "thing"] 1 (sp_u51 K _) f61 _ := ⟨(ok_u51 (P := l.prog) (w := w) (base := base) EO CA F61).up, b61⟩
 have d_u59 : MDef l.prog w K mg base ["self", "thing"] 1 (sp_u59 K _) f62 _ := ⟨(ok_u59 (P := l.prog) (w := w) (base := base) EO CA F62).up, b62⟩
 have r_u9 : ∀ n, FnOk l.prog w K mg base (CX1 l.prog w) (1 + n + 1) f63 _ ["self", "counts", "thing"] (sp_u9 K _ n) := rec_ok fun n q => ok_u9 (P := l.prog) (w := w) (base := base) EO CA F63 d_u51 d_u59 m_sum m_range n ⟨below_ok q, b63⟩
 have d_u9 : MDef l.prog w K mg base ["self", "counts", "thing"] 43 (spA_u9 K _) f63 _ := ⟨((below_ok (L := 1) (N := 41) fun m _ => r_u9 m).mono (by decide)), b63⟩
 have d_u8 : MDef l.prog w K mg base ["self", "thing"] 44 (sp_u8 K _) f64 _ := ⟨(ok_u8 (P := l.prog) (w := w) (base := base) EO CA F64 d_u9 d_u82 d_u51).up, b64⟩
 have d_u28 : MDef l.prog w K mg base ["self", "thing"] 45 (sp_u28 K _ _) f65 _ := ⟨(ok_u28 (P := l.prog) (w := w) (base := base) EO CA F65 d_u21 d_u8), b65⟩
 have d_u69 : Def l.prog w K mg base "_law_small" ["_law_kin_here", "_law_way", "_law_far"] 47 (sp_u69 K _) f66 _ := ⟨(ok_u69 (P := l.prog) (w := w) (base := base) EO CA F66 d_u23 d_u26 d_u30 d_u33 d_u35 d_u38 d_u71 d_u77 d_u20 d_u25 d_u28).up, b66, k66, PySem.W.mg_of X G a66⟩
 have d_u76 : Def l.prog w K mg base "_law_copy" ["_law_way", "_law_thing"] 1 (sp_u76 K _) f67 _ := ⟨(ok_u76 (P := l.prog) (w := w) (base := base) EO CA F67 m_list).up, b67, k67, PySem.W.mg_of X G a67⟩
 have d_u24 : MDef l.prog w K mg base ["self", "thing"] 47 (sp_u24 K _ _) f68 _ := ⟨(ok_u24 (P := l.prog) (w := w) (base := base) EO CA F68 d_u20 d_u41 d_u4 d_u1), b68⟩
 have d_u29 : MDef l.prog w K mg base ["self", "thing"] 47 (sp_u29 K _ _) f69 _ := ⟨(ok_u29 (P := l.prog) (w := w) (base := base) EO CA F69 d_u25 d_u48 d_u11 d_u7), b69⟩
 have d_u32 : MDef l.prog w K mg base ["self", "thing"] 46 (sp_u32 K _ _) f70 _ := ⟨(ok_u32 (P := l.prog) (w := w) (base := base) EO CA F70 d_u28 d_u51 d_u13 d_u12), b70⟩
 have d_u74 : Def l.prog w K mg base "_law_told" ["_law_way", "_law_size", "_law_number"] 48 (sp_u74 K _) f71 _ := ⟨(ok_u74 (P := l.prog) (w := w) (base := base) EO CA F71 d_u78 d_u69 d_u33 d_u35 d_u38 d_u72 d_u71 d_u23 d_u26 d_u30 d_u77 d_u20 d_u25 d_u28 d_u76 d_u24 d_u29 d_u32 m_isinstance).up, b71, k71, PySem.W.mg_of X G a71⟩
 have d_u63 : Def l.prog w K mg base "_law_classes" ["_law_error"] 1 (sp_u63 K _ _) f72 _ := ⟨(ok_u63 (P := l.prog) (w := w) (base := base) EO CA F72 m_isinstance m_ValueError).up, b72, k72, PySem.W.mg_of X G a72⟩
 have d_u36 : Def l.prog w K mg base "_law_thing_refused" ["_law_way", "_law_size", "_law_number"] 47 (sp_u36 K _ _) f73 _ := ⟨(ok_u36 (P := l.prog) (w := w) (base := base) EO CA F73 d_u78 d_u30 d_u26 d_u23 d_u63).up, b73, k73, PySem.W.mg_of X G a73⟩
 have d_u42 : Def l.prog w K mg base "_law_many_refused" ["_law_way", "_law_size"] 8 (sp_u42 K _ _) f74 _ := ⟨(ok_u42 (P := l.prog) (w := w) (base := base) EO CA F74 d_u78 d_u38 d_u35 d_u33 d_u63).up, b74, k74, PySem.W.mg_of X G a74⟩
 have d_u37 : Def l.prog w K mg base "_law_sizes_refused" ["_law_way", "_law_size", "_law_number"] 48 (sp_u37 K _ _) f75 _ := ⟨(ok_u37 (P := l.prog) (w := w) (base := base) EO CA F75 d_u42 d_u36).up, b75, k75, PySem.W.mg_of X G a75⟩
 have d_u79 : Def l.prog w K mg base "_law_mix" ["_law_cell", "_law_turn"] 1 (sp_u79 K _) f76 _ := ⟨(ok_u79 (P := l.prog) (w := w) (base := base) EO CA F76).up, b76, k76, PySem.W.mg_of X G a76⟩
 have d_u73 : Def l.prog w K mg base "_law_draws" ["_law_script", "_law_turn", "_law_many"] 2 (sp_u73 K _) f77 _ := ⟨(ok_u73 (P := l.prog) (w := w) (base := base) EO CA F77 d_u79 m_range m_len).up, b77, k77, PySem.W.mg_of X G a77⟩
 have d_u54 : Def l.prog w K mg base "_law_stairs_by" ["_law_script", "_law_size", "_law_turn"] 3 (sp_u54 K _) f78 _ := ⟨(ok_u54 (P := l.prog) (w := w) (base := base) EO CA F78 d_u73 m_enumerate).up, b78, k78, PySem.W.mg_of X G a78⟩
 have d_u43 : Def l.prog w K mg base "_law_spoiled_text" ["_law_text", "_law_cell"] 2 (sp_u43 K _) f79 _ := ⟨(ok_u43 (P := l.prog) (w := w) (base := base) EO CA F79 d_u79 m_len m_list).up, b79, k79, PySem.W.mg_of X G a79⟩
 have d_u64 : Def l.prog w K mg base "_law_text_by" ["_law_script", "_law_size", "_law_turn"] 3 (sp_u64 K _) f80 _ := ⟨(ok_u64 (P := l.prog) (w := w) (base := base) EO CA F80 d_u73 m_range).up, b80, k80, PySem.W.mg_of X G a80⟩
 have d_u34 : Def l.prog w K mg base "_law_number_refused" ["_law_way", "_law_thing"] 47 (sp_u34 K _ _) f81 _ := ⟨(ok_u34 (P := l.prog) (w := w) (base := base) EO CA F81 d_u78 d_u28 d_u25 d_u20 d_u63).up, b81, k81, PySem.W.mg_of X G a81⟩
 have d_u40 : Def l.prog w K mg base "_law_next_refused" ["_law_way", "_law_thing"] 48 (sp_u40 K _ _) f82 _ := ⟨(ok_u40 (P := l.prog) (w := w) (base := base) EO CA F82 d_u78 d_u32 d_u29 d_u24 d_u63).up, b82, k82, PySem.W.mg_of X G a82⟩
 have d_u58 : Def l.prog w K mg base "_law_no_thing" ["_law_way", "_law_script"] 49 (sp_u58 K _ _) f83 _ := ⟨(ok_u58 (P := l.prog) (w := w) (base := base) EO CA F83 d_u61 d_u54 d_u79 d_u43 d_u64 d_u66 d_u74 d_u39 d_u20 d_u34 d_u40 m_len).up, b83, k83, PySem.W.mg_of X G a83⟩
 exact ok_u83 (P := l.prog) (w := w) (base := base) EO CA F84 d_u61 d_u71 d_u74 d_u36 d_u37 d_u58
theorem walk {l : PySem.W.OpenLaw} {q : Program} {loose : List Str} {XP : (Str → Option Value) → Heap → Prop} {YP : World → Heap → Prop} {d : DefRec} {K : Params → PySem.W.Frag} (hn : l.most = some 63) (hdf : d.params.defaults = [])
  (hY : ∀ (w : World) (h : Heap), YP w h → (K w.params).In h)
  (F : ∀ (w : World) (mg : Str → Option Value) (fa : Addr) (h : Heap), (K w.params).In h → h.Ns mainGlobals mg → mg d.name = some (.ref fa) →
   ∃ fd : FuncData, (∀ (s : Shared) (u : Value), BindsTo s fd ⟨[u], []⟩ [("_law_script", u)]) ∧ ∀ base : Heap, (K w.params).In base → base.Ns mainGlobals mg → FnOk l.prog w (K w.params) mg base CX0 50 fa fd ["_law_script"] (spL (K w.params))) :
  PySem.W.WalkO q loose XP YP l.row.toRowW d [] (fun f vs => PySem.call f vs) :=
 L2.walk_of (n := 63) (k := 50) (x := "_law_script") (CX := fun _ => CX0) (sp := fun w => spL (K w.params)) hn (by decide) hdf ⟨rfl, by decide, by decide⟩ hY F (fun _ _ a ns hl _ hS => ⟨a, ns, rfl, hS, hl, fun _ => rfl⟩) fun _ _ _ _ _ z => z
end Ck
open L2
namespace Ck
open PySem PySem.W PySem.Calls PyProof.Rows
noncomputable def hB : List Stmt := behindTheImports PySem.Challenge.pw_countkin_k10_told_by_number
noncomputable def hE : Env := { scope := PySem.Challenge.pw_countkin_k10_told_by_number.main.scope, locals := mainNs, globals := mainNs, cells := [], code := (.ref 13), frame := some 14 }
noncomputable def hC : Code := .body hB hE
noncomputable def hTree (P : Params) : BT := (.node (boot_o_0 P) (.node (boot_o_1 P) (.node (boot_o_3 P) (.node (boot_o_7 P) .nil .nil) (.node ⟨(.type "tuple"), none, (.seq #[] 0), #[]⟩ .nil .nil)) (.node (boot_o_5 P) (.node (boot_o_9 P) .nil .nil) (.node ⟨(.type "code"), none, (.fields #[(.str "<module>" 182), (.str "<module>" 183), (.str "/claim/cut.py" 184), (.int 1 0), (.int 0 0), (.int 0 0), (.int 0 0), (.int 0 0), (.ref 11), (.bool false), (.int 181 0), (.ref 12), .none, .none, .none, .none, (.int 185 0), (.int 1 0), (.str "/claim/cut.py" 186)]), #[]⟩ .nil .nil))) (.node (boot_o_2 P) (.node (boot_o_4 P) (.node (boot_o_8 P) .nil .nil) (.node ⟨.none, none, (.fields #[]), #[]⟩ .nil .nil)) (.node (boot_o_6 P) (.node (boot_o_10 P) .nil .nil) (.node ⟨(.type "frame"), none, .plain, #[(some (.ref 13)), (some (.ref 3)), (some (.ref 3)), none, (some (.str "__main__" 164)), none, (some (.ref 0))]⟩ .nil .nil))))
noncomputable def hS (w : World) (os : OsState) : SharedT := ⟨hTree w.params, 15, ({} : Life), Array.mk [], ⟨0, 0, 0, 0⟩, 187, os⟩
noncomputable def hQ : Program := { PySem.Challenge.pw_countkin_k10_told_by_number with main := { PySem.Challenge.pw_countkin_k10_told_by_number.main with body := [top 53] } }
noncomputable def hL : List Str := (Str.ofString "GREATEST_SIZE" :: Str.ofString "shares" :: Str.ofString "by_rule" :: Str.ofString "KinError" :: Str.ofString "NoSize" :: Str.ofString "NoNumber" :: Str.ofString "NoThing" :: Str.ofString "NoFamily" :: Str.ofString "NoWay" :: Str.ofString "Apart" :: Str.ofString "NoMark" :: Str.ofString "NoText" :: Str.ofString "Broken" :: Str.ofString "Family" :: Str.ofString "SplitFamily" :: Str.ofString "raised_by" :: Str.ofString "closes" :: Str.ofString "Brackets" :: Str.ofString "first_close" :: Str.ofString "Stairs" :: Str.ofString "right_begin" :: Str.ofString "Twins" :: Str.ofString "_law_cell_at" :: Str.ofString "_law_whole" :: Str.ofString "_law_mix" :: Str.ofString "_law_share" :: Str.ofString "_law_closes" :: Str.ofString "_law_draws" :: Str.ofString "_law_text_by" :: Str.ofString "_law_stairs_by" :: Str.ofString "_law_is_stairs" :: Str.ofString "_law_classes" :: Str.ofString "_law_pairs" :: Str.ofString "_law_one" :: Str.ofString "_law_kin" :: Str.ofString "_law_small" :: Str.ofString "_law_copy" :: Str.ofString "_law_told" :: Str.ofString "_law_thing_refused" :: Str.ofString "_law_many_refused" :: Str.ofString "_law_number_refused" :: Str.ofString "_law_next_refused" :: Str.ofString "_law_sizes_refused" :: Str.ofString "_law_spoiled_text" :: Str.ofString "_law_no_thing" :: [])
noncomputable def hK : Params → Frag := fun P => (nat_lit 2, ⟨.none, none, (.dict #[] 0), #[]⟩) :: (nat_lit 3, ⟨(.type "dict"), none, (.dict (List.toArray (⟨PyData.keyHash P "__name__", .str "__name__" 165, (.str "law_countkin_k10_told_by_number" 828)⟩ :: ⟨PyData.keyHash P "__doc__", .str "__doc__" 166, .none⟩ :: ⟨PyData.keyHash P "__package__", .str "__package__" 167, .none⟩ :: ⟨PyData.keyHash P "__loader__", .str "__loader__" 168, (.builtin "__main__.__loader__#opaque")⟩ :: ⟨PyData.keyHash P "__spec__", .str "__spec__" 169, .none⟩ :: ⟨PyData.keyHash P "__annotations__", .str "__annotations__" 170, (.ref 6)⟩ :: ⟨PyData.keyHash P "__builtins__", .str "__builtins__" 171, (.ref 4)⟩ :: ⟨PyData.keyHash P "__file__", .str "__file__" 173, (.str "/claim/cut.py" 172)⟩ :: ⟨PyData.keyHash P "__cached__", .str "__cached__" 174, .none⟩ :: ⟨PyData.keyHash P "GREATEST_SIZE", .str "GREATEST_SIZE" 190, (.int 40 189)⟩ :: ⟨PyData.keyHash P "shares", .str "shares" 196, (.ref 19)⟩ :: ⟨PyData.keyHash P "by_rule", .str "by_rule" 205, (.ref 26)⟩ :: ⟨PyData.keyHash P "KinError", .str "KinError" 225, (.ref 36)⟩ :: ⟨PyData.keyHash P "NoSize", .str "NoSize" 241, (.ref 49)⟩ :: ⟨PyData.keyHash P "NoNumber", .str "NoNumber" 257, (.ref 61)⟩ :: ⟨PyData.keyHash P "NoThing", .str "NoThing" 273, (.ref 73)⟩ :: ⟨PyData.keyHash P "NoFamily", .str "NoFamily" 289, (.ref 85)⟩ :: ⟨PyData.keyHash P "NoWay", .str "NoWay" 305, (.ref 97)⟩ :: ⟨PyData.keyHash P "Apart", .str "Apart" 321, (.ref 109)⟩ :: ⟨PyData.keyHash P "NoMark", .str "NoMark" 337, (.ref 121)⟩ :: ⟨PyData.keyHash P "NoText", .str "NoText" 353, (.ref 133)⟩ :: ⟨PyData.keyHash P "Broken", .str "Broken" 378, (.ref 152)⟩ :: ⟨PyData.keyHash P "Family", .str "Family" 496, (.ref 241)⟩ :: ⟨PyData.keyHash P "SplitFamily", .str "SplitFamily" 590, (.ref 316)⟩ :: ⟨PyData.keyHash P "raised_by", .str "raised_by" 598, (.ref 323)⟩ :: ⟨PyData.keyHash P "closes", .str "closes" 609, (.ref 330)⟩ :: ⟨PyData.keyHash P "Brackets", .str "Brackets" 675, (.ref 382)⟩ :: ⟨PyData.keyHash P "first_close", .str "first_close" 684, (.ref 391)⟩ :: ⟨PyData.keyHash P "Stairs", .str "Stairs" 751, (.ref 443)⟩ :: ⟨PyData.keyHash P "right_begin", .str "right_begin" 759, (.ref 452)⟩ :: ⟨PyData.keyHash P "Twins", .str "Twins" 827, (.ref 504)⟩ :: ⟨PyData.keyHash P "_law_cell_at", .str "_law_cell_at" 837, (.ref 513)⟩ :: ⟨PyData.keyHash P "_law_whole", .str "_law_whole" 844, (.ref 520)⟩ :: ⟨PyData.keyHash P "_law_mix", .str "_law_mix" 853, (.ref 527)⟩ :: ⟨PyData.keyHash P "_law_share", .str "_law_share" 862, (.ref 534)⟩ :: ⟨PyData.keyHash P "_law_closes", .str "_law_closes" 871, (.ref 541)⟩ :: ⟨PyData.keyHash P "_law_draws", .str "_law_draws" 877, (.ref 546)⟩ :: ⟨PyData.keyHash P "_law_text_by", .str "_law_text_by" 893, (.ref 553)⟩ :: ⟨PyData.keyHash P "_law_stairs_by", .str "_law_stairs_by" 906, (.ref 560)⟩ :: ⟨PyData.keyHash P "_law_is_stairs", .str "_law_is_stairs" 914, (.ref 567)⟩ :: ⟨PyData.keyHash P "_law_classes", .str "_law_classes" 922, (.ref 574)⟩ :: ⟨PyData.keyHash P "_law_pairs", .str "_law_pairs" 930, (.ref 581)⟩ :: ⟨PyData.keyHash P "_law_one", .str "_law_one" 936, (.ref 586)⟩ :: ⟨PyData.keyHash P "_law_kin", .str "_law_kin" 943, (.ref 593)⟩ :: ⟨PyData.keyHash P "_law_small", .str "_law_small" 954, (.ref 600)⟩ :: ⟨PyData.keyHash P "_law_copy", .str "_law_copy" 962, (.ref 607)⟩ :: ⟨PyData.keyHash P "_law_told", .str "_law_told" 976, (.ref 614)⟩ :: ⟨PyData.keyHash P "_law_thing_refused", .str "_law_thing_refused" 987, (.ref 621)⟩ :: ⟨PyData.keyHash P "_law_many_refused", .str "_law_many_refused" 997, (.ref 628)⟩ :: ⟨PyData.keyHash P "_law_number_refused", .str "_law_number_refused" 1007, (.ref 635)⟩ :: ⟨PyData.keyHash P "_law_next_refused", .str "_law_next_refused" 1017, (.ref 642)⟩ :: ⟨PyData.keyHash P "_law_sizes_refused", .str "_law_sizes_refused" 1026, (.ref 649)⟩ :: ⟨PyData.keyHash P "_law_spoiled_text", .str "_law_spoiled_text" 1039, (.ref 656)⟩ :: ⟨PyData.keyHash P "_law_no_thing", .str "_law_no_thing" 1052, (.ref 663)⟩ :: ⟨PyData.keyHash P "law", .str "law" 1066, (.ref 670)⟩ :: [])) 55), #[]⟩) :: (nat_lit 15, ⟨(.type "tuple"), none, (.seq #[] 0), #[]⟩) :: (nat_lit 18, ⟨(.type "code"), none, (.fields #[(.str "shares" 191), (.str "shares" 192), (.str "/claim/cut.py" 193), (.int 3 0), (.int 1 0), (.int 0 0), (.int 0 0), (.int 3 0), (.ref 15), (.bool true), (.int 181 0), (.ref 16), .none, .none, .none, (.ref 17), (.int 194 0), (.int 3 0), (.str "/claim/cut.py" 195)]), #[]⟩) :: (nat_lit 19, ⟨(.type "function"), none, (.func (fnOf "shares" "shares" (defArgs (top 2)) (defBody (top 2)) (defScope (top 2)) .none .none .none (.str "countkin.counts" 187) none (.ref 18) .none)), #[]⟩) :: (nat_lit 20, ⟨(.type "tuple"), none, (.seq #[] 0), #[]⟩) :: (nat_lit 22, ⟨(.type "tuple"), none, (.seq #[(.str "size" 200), (.str "share" 201), (.str "k" 202)] 0), #[]⟩) :: (nat_lit 23, ⟨(.type "tuple"), none, (.seq #[] 0), #[]⟩) :: (nat_lit 25, ⟨(.type "code"), none, (.fields #[(.str "by_rule" 197), (.str "by_rule" 198), (.str "/claim/cut.py" 199), (.int 8 0), (.int 1 0), (.int 0 0), (.int 0 0), (.int 3 0), (.ref 20), (.bool true), (.int 181 0), (.ref 21), .none, (.ref 22), (.ref 23), (.ref 24), (.int 203 0), (.int 8 0), (.str "/claim/cut.py" 204)]), #[]⟩) :: (nat_lit 26, ⟨(.type "function"), none, (.func (fnOf "by_rule" "by_rule" (defArgs (top 3)) (defBody (top 3)) (defScope (top 3)) .none .none .none (.str "countkin.counts" 187) none (.ref 25) .none)), #[]⟩) :: (nat_lit 27, ⟨(.type "tuple"), none, (.seq #[(.type "ValueError")] 0), #[]⟩) :: (nat_lit 34, ⟨(.type "tuple"), none, (.seq #[] 0), #[]⟩) :: (nat_lit 35, ⟨(.type "dict"), none, (.dict #[⟨PyData.keyHash P "__module__", .str "__module__" 215, (.str "countkin.errors" 206)⟩, ⟨PyData.keyHash P "__firstlineno__", .str "__firstlineno__" 219, (.int 14 218)⟩, ⟨PyData.keyHash P "__static_attributes__", .str "__static_attributes__" 220, (.ref 34)⟩, ⟨PyData.keyHash P "__weakref__", .str "__weakref__" 222, (.ref 37)⟩, ⟨PyData.keyHash P "__doc__", .str "__doc__" 223, .none⟩] 3), #[]⟩) :: (nat_lit 36, ⟨(.type "type"), none, (.cls ⟨"KinError", [(.type "ValueError")], [(.ref 36), (.type "ValueError"), (.type "Exception"), (.type "BaseException"), (.type "object")], 35, "KinError", true, [], [(.ref 49), (.ref 61), (.ref 73), (.ref 85), (.ref 97), (.ref 109), (.ref 121), (.ref 133), (.ref 152)], false, none, false⟩), #[(some (.ref 27)), none, (some (.str "KinError" 208)), (some (.str "KinError" 216)), (some (.builtin "ValueError.__new__")), (some (.bool true))]⟩) :: (nat_lit 37, ⟨(.type "getset_descriptor"), none, (.fields #[(.str "__weakref__" 221), (.ref 36), (.builtin "ExceptionGroup.__weakref__"), .none]), #[]⟩) :: (nat_lit 40, ⟨(.type "tuple"), none, (.seq #[(.ref 36)] 0), #[]⟩) :: (nat_lit 47, ⟨(.type "tuple"), none, (.seq #[] 0), #[]⟩) :: (nat_lit 48, ⟨(.type "dict"), none, (.dict #[⟨PyData.keyHash P "__module__", .str "__module__" 233, (.str "countkin.errors" 206)⟩, ⟨PyData.keyHash P "__firstlineno__", .str "__firstlineno__" 237, (.int 16 236)⟩, ⟨PyData.keyHash P "__static_attributes__", .str "__static_attributes__" 238, (.ref 47)⟩, ⟨PyData.keyHash P "__doc__", .str "__doc__" 239, .none⟩] 2), #[]⟩) :: (nat_lit 49, ⟨(.type "type"), none, (.cls ⟨"NoSize", [(.ref 36)], [(.ref 49), (.ref 36), (.type "ValueError"), (.type "Exception"), (.type "BaseException"), (.type "object")], 48, "NoSize", true, [], [], false, none, false⟩), #[(some (.ref 40)), none, (some (.str "NoSize" 226)), (some (.str "NoSize" 234)), (some (.builtin "ValueError.__new__")), (some (.bool true))]⟩) :: (nat_lit 52, ⟨(.type "tuple"), none, (.seq #[(.ref 36)] 0), #[]⟩) :: (nat_lit 59, ⟨(.type "tuple"), none, (.seq #[] 0), #[]⟩) :: (nat_lit 60, ⟨(.type "dict"), none, (.dict #[⟨PyData.keyHash P "__module__", .str "__module__" 249, (.str "countkin.errors" 206)⟩, ⟨PyData.keyHash P "__firstlineno__", .str "__firstlineno__" 253, (.int 18 252)⟩, ⟨PyData.keyHash P "__static_attributes__", .str "__static_attributes__" 254, (.ref 59)⟩, ⟨PyData.keyHash P "__doc__", .str "__doc__" 255, .none⟩] 2), #[]⟩) :: (nat_lit 61, ⟨(.type "type"), none, (.cls ⟨"NoNumber", [(.ref 36)], [(.ref 61), (.ref 36), (.type "ValueError"), (.type "Exception"), (.type "BaseException"), (.type "object")], 60, "NoNumber", true, [], [], false, none, false⟩), #[(some (.ref 52)), none, (some (.str "NoNumber" 242)), (some (.str "NoNumber" 250)), (some (.builtin "ValueError.__new__")), (some (.bool true))]⟩) :: (nat_lit 64, ⟨(.type "tuple"), none, (.seq #[(.ref 36)] 0), #[]⟩) :: (nat_lit 71, ⟨(.type "tuple"), none, (.seq #[] 0), #[]⟩) :: (nat_lit 72, ⟨(.type "dict"), none, (.dict #[⟨PyData.keyHash P "__module__", .str "__module__" 265, (.str "countkin.errors" 206)⟩, ⟨PyData.keyHash P "__firstlineno__", .str "__firstlineno__" 269, (.int 20 268)⟩, ⟨PyData.keyHash P "__static_attributes__", .str "__static_attributes__" 270, (.ref 71)⟩, ⟨PyData.keyHash P "__doc__", .str "__doc__" 271, .none⟩] 2), #[]⟩) :: (nat_lit 73, ⟨(.type "type"), none, (.cls ⟨"NoThing", [(.ref 36)], [(.ref 73), (.ref 36), (.type "ValueError"), (.type "Exception"), (.type "BaseException"), (.type "object")], 72, "NoThing", true, [], [], false, none, false⟩), #[(some (.ref 64)), none, (some (.str "NoThing" 258)), (some (.str "NoThing" 266)), (some (.builtin "ValueError.__new__")), (some (.bool true))]⟩) :: (nat_lit 76, ⟨(.type "tuple"), none, (.seq #[(.ref 36)] 0), #[]⟩) :: (nat_lit 83, ⟨(.type "tuple"), none, (.seq #[] 0), #[]⟩) :: (nat_lit 84, ⟨(.type "dict"), none, (.dict #[⟨PyData.keyHash P "__module__", .str "__module__" 281, (.str "countkin.errors" 206)⟩, ⟨PyData.keyHash P "__firstlineno__", .str "__firstlineno__" 285, (.int 22 284)⟩, ⟨PyData.keyHash P "__static_attributes__", .str "__static_attributes__" 286, (.ref 83)⟩, ⟨PyData.keyHash P "__doc__", .str "__doc__" 287, .none⟩] 2), #[]⟩) :: (nat_lit 85, ⟨(.type "type"), none, (.cls ⟨"NoFamily", [(.ref 36)], [(.ref 85), (.ref 36), (.type "ValueError"), (.type "Exception"), (.type "BaseException"), (.type "object")], 84, "NoFamily", true, [], [], false, none, false⟩), #[(some (.ref 76)), none, (some (.str "NoFamily" 274)), (some (.str "NoFamily" 282)), (some (.builtin "ValueError.__new__")), (some (.bool true))]⟩) :: (nat_lit 88, ⟨(.type "tuple"), none, (.seq #[(.ref 36)] 0), #[]⟩) :: (nat_lit 95, ⟨(.type "tuple"), none, (.seq #[] 0), #[]⟩) :: (nat_lit 96, ⟨(.type "dict"), none, (.dict #[⟨PyData.keyHash P "__module__", .str "__module__" 297, (.str "countkin.errors" 206)⟩, ⟨PyData.keyHash P "__firstlineno__", .str "__firstlineno__" 301, (.int 24 300)⟩, ⟨PyData.keyHash P "__static_attributes__", .str "__static_attributes__" 302, (.ref 95)⟩, ⟨PyData.keyHash P "__doc__", .str "__doc__" 303, .none⟩] 2), #[]⟩) :: (nat_lit 97, ⟨(.type "type"), none, (.cls ⟨"NoWay", [(.ref 36)], [(.ref 97), (.ref 36), (.type "ValueError"), (.type "Exception"), (.type "BaseException"), (.type "object")], 96, "NoWay", true, [], [], false, none, false⟩), #[(some (.ref 88)), none, (some (.str "NoWay" 290)), (some (.str "NoWay" 298)), (some (.builtin "ValueError.__new__")), (some (.bool true))]⟩) :: (nat_lit 100, ⟨(.type "tuple"), none, (.seq #[(.ref 36)] 0), #[]⟩) :: (nat_lit 107, ⟨(.type "tuple"), none, (.seq #[] 0), #[]⟩) :: (nat_lit 108, ⟨(.type "dict"), none, (.dict #[⟨PyData.keyHash P "__module__", .str "__module__" 313, (.str "countkin.errors" 206)⟩, ⟨PyData.keyHash P "__firstlineno__", .str "__firstlineno__" 317, (.int 26 316)⟩, ⟨PyData.keyHash P "__static_attributes__", .str "__static_attributes__" 318, (.ref 107)⟩, ⟨PyData.keyHash P "__doc__", .str "__doc__" 319, .none⟩] 2), #[]⟩) :: (nat_lit 109, ⟨(.type "type"), none, (.cls ⟨"Apart", [(.ref 36)], [(.ref 109), (.ref 36), (.type "ValueError"), (.type "Exception"), (.type "BaseException"), (.type "object")], 108, "Apart", true, [], [], false, none, false⟩), #[(some (.ref 100)), none, (some (.str "Apart" 306)), (some (.str "Apart" 314)), (some (.builtin "ValueError.__new__")), (some (.bool true))]⟩) :: (nat_lit 112, ⟨(.type "tuple"), none, (.seq #[(.ref 36)] 0), #[]⟩) :: (nat_lit 119, ⟨(.type "tuple"), none, (.seq #[] 0), #[]⟩) :: (nat_lit 120, ⟨(.type "dict"), none, (.dict #[⟨PyData.keyHash P "__module__", .str "__module__" 329, (.str "countkin.errors" 206)⟩, ⟨PyData.keyHash P "__firstlineno__", .str "__firstlineno__" 333, (.int 28 332)⟩, ⟨PyData.keyHash P "__static_attributes__", .str "__static_attributes__" 334, (.ref 119)⟩, ⟨PyData.keyHash P "__doc__", .str "__doc__" 335, .none⟩] 2), #[]⟩) :: (nat_lit 121, ⟨(.type "type"), none, (.cls ⟨"NoMark", [(.ref 36)], [(.ref 121), (.ref 36), (.type "ValueError"), (.type "Exception"), (.type "BaseException"), (.type "object")], 120, "NoMark", true, [], [], false, none, false⟩), #[(some (.ref 112)), none, (some (.str "NoMark" 322)), (some (.str "NoMark" 330)), (some (.builtin "ValueError.__new__")), (some (.bool true))]⟩) :: (nat_lit 124, ⟨(.type "tuple"), none, (.seq #[(.ref 36)] 0), #[]⟩) :: (nat_lit 131, ⟨(.type "tuple"), none, (.seq #[] 0), #[]⟩) :: (nat_lit 132, ⟨(.type "dict"), none, (.dict #[⟨PyData.keyHash P "__module__", .str "__module__" 345, (.str "countkin.errors" 206)⟩, ⟨PyData.keyHash P "__firstlineno__", .str "__firstlineno__" 349, (.int 30 348)⟩, ⟨PyData.keyHash P "__static_attributes__", .str "__static_attributes__" 350, (.ref 131)⟩, ⟨PyData.keyHash P "__doc__", .str "__doc__" 351, .none⟩] 2), #[]⟩) :: (nat_lit 133, ⟨(.type "type"), none, (.cls ⟨"NoText", [(.ref 36)], [(.ref 133), (.ref 36), (.type "ValueError"), (.type "Exception"), (.type "BaseException"), (.type "object")], 132, "NoText", true, [], [], false, none, false⟩), #[(some (.ref 124)), none, (some (.str "NoText" 338)), (some (.str "NoText" 346)), (some (.builtin "ValueError.__new__")), (some (.bool true))]⟩) :: (nat_lit 136, ⟨(.type "tuple"), none, (.seq #[(.ref 36)] 0), #[]⟩) :: (nat_lit 143, ⟨(.type "tuple"), none, (.seq #[] 0), #[]⟩) :: (nat_lit 145, ⟨(.type "tuple"), none, (.seq #[(.str "self" 369), (.str "place" 370)] 0), #[]⟩) :: (nat_lit 146, ⟨(.type "tuple"), none, (.seq #[] 0), #[]⟩) :: (nat_lit 148, ⟨(.type "code"), none, (.fields #[(.str "__init__" 366), (.str "Broken.__init__" 367), (.str "/claim/cut.py" 368), (.int 34 0), (.int 2 0), (.int 0 0), (.int 0 0), (.int 3 0), (.ref 143), (.bool true), (.int 181 0), (.ref 144), .none, (.ref 145), (.ref 146), (.ref 147), (.int 371 0), (.int 34 0), (.str "/claim/cut.py" 372)]), #[]⟩) :: (nat_lit 149, ⟨(.type "function"), none, (.func (fnOf "__init__" "Broken.__init__" (defArgs (inClass (top 14) 0)) (defBody (inClass (top 14) 0)) (defScope (inClass (top 14) 0)) .none .none .none (.str "countkin.errors" 206) none (.ref 148) .none)), #[]⟩) :: (nat_lit 150, ⟨(.type "tuple"), none, (.seq #[(.str "place" 374)] 0), #[]⟩) :: (nat_lit 151, ⟨(.type "dict"), none, (.dict #[⟨PyData.keyHash P "__module__", .str "__module__" 361, (.str "countkin.errors" 206)⟩, ⟨PyData.keyHash P "__firstlineno__", .str "__firstlineno__" 365, (.int 32 364)⟩, ⟨PyData.keyHash P "__init__", .str "__init__" 373, (.ref 149)⟩, ⟨PyData.keyHash P "__static_attributes__", .str "__static_attributes__" 375, (.ref 150)⟩, ⟨PyData.keyHash P "__doc__", .str "__doc__" 376, .none⟩] 2), #[]⟩) :: (nat_lit 152, ⟨(.type "type"), none, (.cls ⟨"Broken", [(.ref 36)], [(.ref 152), (.ref 36), (.type "ValueError"), (.type "Exception"), (.type "BaseException"), (.type "object")], 151, "Broken", true, [], [], false, none, false⟩), #[(some (.ref 136)), none, (some (.str "Broken" 354)), (some (.str "Broken" 362)), (some (.builtin "ValueError.__new__")), (some (.bool true))]⟩) :: (nat_lit 162, ⟨(.type "tuple"), none, (.seq #[] 0), #[]⟩) :: (nat_lit 164, ⟨(.type "tuple"), none, (.seq #[(.str "self" 396), (.str "word" 397), (.str "least" 398)] 0), #[]⟩) :: (nat_lit 165, ⟨(.type "tuple"), none, (.seq #[] 0), #[]⟩) :: (nat_lit 167, ⟨(.type "code"), none, (.fields #[(.str "__init__" 393), (.str "Family.__init__" 394), (.str "/claim/cut.py" 395), (.int 40 0), (.int 3 0), (.int 0 0), (.int 0 0), (.int 3 0), (.ref 162), (.bool true), (.int 181 0), (.ref 163), .none, (.ref 164), (.ref 165), (.ref 166), (.int 399 0), (.int 40 0), (.str "/claim/cut.py" 400)]), #[]⟩) :: (nat_lit 168, ⟨(.type "function"), none, (.func (fnOf "__init__" "Family.__init__" (defArgs (inClass (top 16) 0)) (defBody (inClass (top 16) 0)) (defScope (inClass (top 16) 0)) .none .none .none (.str "countkin.kin" 379) none (.ref 167) .none)), #[]⟩) :: (nat_lit 169, ⟨(.type "tuple"), none, (.seq #[] 0), #[]⟩) :: (nat_lit 171, ⟨(.type "tuple"), none, (.seq #[(.str "self" 405), (.str "thing" 406)] 0), #[]⟩) :: (nat_lit 172, ⟨(.type "tuple"), none, (.seq #[] 0), #[]⟩) :: (nat_lit 174, ⟨(.type "code"), none, (.fields #[(.str "size_of" 402), (.str "Family.size_of" 403), (.str "/claim/cut.py" 404), (.int 44 0), (.int 2 0), (.int 0 0), (.int 0 0), (.int 3 0), (.ref 169), (.bool true), (.int 181 0), (.ref 170), .none, (.ref 171), (.ref 172), (.ref 173), (.int 407 0), (.int 44 0), (.str "/claim/cut.py" 408)]), #[]⟩) :: (nat_lit 175, ⟨(.type "function"), none, (.func (fnOf "size_of" "Family.size_of" (defArgs (inClass (top 16) 1)) (defBody (inClass (top 16) 1)) (defScope (inClass (top 16) 1)) .none .none .none (.str "countkin.kin" 379) none (.ref 174) .none)), #[]⟩) :: (nat_lit 176, ⟨(.type "tuple"), none, (.seq #[] 0), #[]⟩) :: (nat_lit 178, ⟨(.type "tuple"), none, (.seq #[(.str "self" 413), (.str "thing" 414)] 0), #[]⟩) :: (nat_lit 179, ⟨(.type "tuple"), none, (.seq #[] 0), #[]⟩) :: (nat_lit 181, ⟨(.type "code"), none, (.fields #[(.str "is_one" 410), (.str "Family.is_one" 411), (.str "/claim/cut.py" 412), (.int 47 0), (.int 2 0), (.int 0 0), (.int 0 0), (.int 3 0), (.ref 176), (.bool true), (.int 181 0), (.ref 177), .none, (.ref 178), (.ref 179), (.ref 180), (.int 415 0), (.int 47 0), (.str "/claim/cut.py" 416)]), #[]⟩) :: (nat_lit 182, ⟨(.type "function"), none, (.func (fnOf "is_one" "Family.is_one" (defArgs (inClass (top 16) 2)) (defBody (inClass (top 16) 2)) (defScope (inClass (top 16) 2)) .none .none .none (.str "countkin.kin" 379) none (.ref 181) .none)), #[]⟩) :: (nat_lit 183, ⟨(.type "tuple"), none, (.seq #[] 0), #[]⟩) :: (nat_lit 185, ⟨(.type "tuple"), none, (.seq #[(.str "self" 421), (.str "size" 422)] 0), #[]⟩) :: (nat_lit 186, ⟨(.type "tuple"), none, (.seq #[] 0), #[]⟩) :: (nat_lit 188, ⟨(.type "code"), none, (.fields #[(.str "unchecked_many" 418), (.str "Family.unchecked_many" 419), (.str "/claim/cut.py" 420), (.int 50 0), (.int 2 0), (.int 0 0), (.int 0 0), (.int 3 0), (.ref 183), (.bool true), (.int 181 0), (.ref 184), .none, (.ref 185), (.ref 186), (.ref 187), (.int 423 0), (.int 50 0), (.str "/claim/cut.py" 424)]), #[]⟩) :: (nat_lit 189, ⟨(.type "function"), none, (.func (fnOf "unchecked_many" "Family.unchecked_many" (defArgs (inClass (top 16) 3)) (defBody (inClass (top 16) 3)) (defScope (inClass (top 16) 3)) .none .none .none (.str "countkin.kin" 379) none (.ref 188) .none)), #[]⟩) :: (nat_lit 190, ⟨(.type "tuple"), none, (.seq #[] 0), #[]⟩) :: (nat_lit 192, ⟨(.type "tuple"), none, (.seq #[(.str "self" 429), (.str "thing" 430)] 0), #[]⟩) :: (nat_lit 193, ⟨(.type "tuple"), none, (.seq #[] 0), #[]⟩) :: (nat_lit 195, ⟨(.type "code"), none, (.fields #[(.str "unchecked_number" 426), (.str "Family.unchecked_number" 427), (.str "/claim/cut.py" 428), (.int 53 0), (.int 2 0), (.int 0 0), (.int 0 0), (.int 3 0), (.ref 190), (.bool true), (.int 181 0), (.ref 191), .none, (.ref 192), (.ref 193), (.ref 194), (.int 431 0), (.int 53 0), (.str "/claim/cut.py" 432)]), #[]⟩) :: (nat_lit 196, ⟨(.type "function"), none, (.func (fnOf "unchecked_number" "Family.unchecked_number" (defArgs (inClass (top 16) 4)) (defBody (inClass (top 16) 4)) (defScope (inClass (top 16) 4)) .none .none .none (.str "countkin.kin" 379) none (.ref 195) .none)), #[]⟩) :: (nat_lit 197, ⟨(.type "tuple"), none, (.seq #[] 0), #[]⟩) :: (nat_lit 199, ⟨(.type "tuple"), none, (.seq #[(.str "self" 437), (.str "size" 438), (.str "number" 439)] 0), #[]⟩) :: (nat_lit 200, ⟨(.type "tuple"), none, (.seq #[] 0), #[]⟩) :: (nat_lit 202, ⟨(.type "code"), none, (.fields #[(.str "unchecked_thing" 434), (.str "Family.unchecked_thing" 435), (.str "/claim/cut.py" 436), (.int 56 0), (.int 3 0), (.int 0 0), (.int 0 0), (.int 3 0), (.ref 197), (.bool true), (.int 181 0), (.ref 198), .none, (.ref 199), (.ref 200), (.ref 201), (.int 440 0), (.int 56 0), (.str "/claim/cut.py" 441)]), #[]⟩) :: (nat_lit 203, ⟨(.type "function"), none, (.func (fnOf "unchecked_thing" "Family.unchecked_thing" (defArgs (inClass (top 16) 5)) (defBody (inClass (top 16) 5)) (defScope (inClass (top 16) 5)) .none .none .none (.str "countkin.kin" 379) none (.ref 202) .none)), #[]⟩) :: (nat_lit 204, ⟨(.type "tuple"), none, (.seq #[] 0), #[]⟩) :: (nat_lit 206, ⟨(.type "tuple"), none, (.seq #[(.str "self" 446), (.str "size" 447)] 0), #[]⟩) :: (nat_lit 207, ⟨(.type "tuple"), none, (.seq #[] 0), #[]⟩) :: (nat_lit 209, ⟨(.type "code"), none, (.fields #[(.str "many" 443), (.str "Family.many" 444), (.str "/claim/cut.py" 445), (.int 59 0), (.int 2 0), (.int 0 0), (.int 0 0), (.int 3 0), (.ref 204), (.bool true), (.int 181 0), (.ref 205), .none, (.ref 206), (.ref 207), (.ref 208), (.int 448 0), (.int 59 0), (.str "/claim/cut.py" 449)]), #[]⟩) :: (nat_lit 210, ⟨(.type "function"), none, (.func (fnOf "many" "Family.many" (defArgs (inClass (top 16) 6)) (defBody (inClass (top 16) 6)) (defScope (inClass (top 16) 6)) .none .none .none (.str "countkin.kin" 379) none (.ref 209) .none)), #[]⟩) :: (nat_lit 211, ⟨(.type "tuple"), none, (.seq #[] 0), #[]⟩) :: (nat_lit 213, ⟨(.type "tuple"), none, (.seq #[(.str "self" 454), (.str "thing" 455)] 0), #[]⟩) :: (nat_lit 214, ⟨(.type "tuple"), none, (.seq #[] 0), #[]⟩) :: (nat_lit 216, ⟨(.type "code"), none, (.fields #[(.str "refuse_other" 451), (.str "Family.refuse_other" 452), (.str "/claim/cut.py" 453), (.int 64 0), (.int 2 0), (.int 0 0), (.int 0 0), (.int 3 0), (.ref 211), (.bool true), (.int 181 0), (.ref 212), .none, (.ref 213), (.ref 214), (.ref 215), (.int 456 0), (.int 64 0), (.str "/claim/cut.py" 457)]), #[]⟩) :: (nat_lit 217, ⟨(.type "function"), none, (.func (fnOf "refuse_other" "Family.refuse_other" (defArgs (inClass (top 16) 7)) (defBody (inClass (top 16) 7)) (defScope (inClass (top 16) 7)) .none .none .none (.str "countkin.kin" 379) none (.ref 216) .none)), #[]⟩) :: (nat_lit 218, ⟨(.type "tuple"), none, (.seq #[] 0), #[]⟩) :: (nat_lit 220, ⟨(.type "tuple"), none, (.seq #[(.str "self" 462), (.str "thing" 463)] 0), #[]⟩) :: (nat_lit 221, ⟨(.type "tuple"), none, (.seq #[] 0), #[]⟩) :: (nat_lit 223, ⟨(.type "code"), none, (.fields #[(.str "number_of" 459), (.str "Family.number_of" 460), (.str "/claim/cut.py" 461), (.int 68 0), (.int 2 0), (.int 0 0), (.int 0 0), (.int 3 0), (.ref 218), (.bool true), (.int 181 0), (.ref 219), .none, (.ref 220), (.ref 221), (.ref 222), (.int 464 0), (.int 68 0), (.str "/claim/cut.py" 465)]), #[]⟩) :: (nat_lit 224, ⟨(.type "function"), none, (.func (fnOf "number_of" "Family.number_of" (defArgs (inClass (top 16) 8)) (defBody (inClass (top 16) 8)) (defScope (inClass (top 16) 8)) .none .none .none (.str "countkin.kin" 379) none (.ref 223) .none)), #[]⟩) :: (nat_lit 225, ⟨(.type "tuple"), none, (.seq #[] 0), #[]⟩) :: (nat_lit 227, ⟨(.type "tuple"), none, (.seq #[(.str "self" 470), (.str "size" 471), (.str "number" 472), (.str "most" 473)] 0), #[]⟩) :: (nat_lit 228, ⟨(.type "tuple"), none, (.seq #[] 0), #[]⟩) :: (nat_lit 230, ⟨(.type "code"), none, (.fields #[(.str "thing_of" 467), (.str "Family.thing_of" 468), (.str "/claim/cut.py" 469), (.int 72 0), (.int 3 0), (.int 0 0), (.int 0 0), (.int 3 0), (.ref 225), (.bool true), (.int 181 0), (.ref 226), .none, (.ref 227), (.ref 228), (.ref 229), (.int 474 0), (.int 72 0), (.str "/claim/cut.py" 475)]), #[]⟩) :: (nat_lit 231, ⟨(.type "function"), none, (.func (fnOf "thing_of" "Family.thing_of" (defArgs (inClass (top 16) 9)) (defBody (inClass (top 16) 9)) (defScope (inClass (top 16) 9)) .none .none .none (.str "countkin.kin" 379) none (.ref 230) .none)), #[]⟩) :: (nat_lit 232, ⟨(.type "tuple"), none, (.seq #[] 0), #[]⟩) :: (nat_lit 234, ⟨(.type "tuple"), none, (.seq #[(.str "self" 480), (.str "thing" 481), (.str "number" 482), (.str "size" 483)] 0), #[]⟩) :: (nat_lit 235, ⟨(.type "tuple"), none, (.seq #[] 0), #[]⟩) :: (nat_lit 237, ⟨(.type "code"), none, (.fields #[(.str "next_of" 477), (.str "Family.next_of" 478), (.str "/claim/cut.py" 479), (.int 78 0), (.int 2 0), (.int 0 0), (.int 0 0), (.int 3 0), (.ref 232), (.bool true), (.int 181 0), (.ref 233), .none, (.ref 234), (.ref 235), (.ref 236), (.int 484 0), (.int 78 0), (.str "/claim/cut.py" 485)]), #[]⟩) :: (nat_lit 238, ⟨(.type "function"), none, (.func (fnOf "next_of" "Family.next_of" (defArgs (inClass (top 16) 10)) (defBody (inClass (top 16) 10)) (defScope (inClass (top 16) 10)) .none .none .none (.str "countkin.kin" 379) none (.ref 237) .none)), #[]⟩) :: (nat_lit 239, ⟨(.type "tuple"), none, (.seq #[(.str "least" 487), (.str "word" 488)] 0), #[]⟩) :: (nat_lit 240, ⟨(.type "dict"), none, (.dict #[⟨PyData.keyHash P "__module__", .str "__module__" 388, (.str "countkin.kin" 379)⟩, ⟨PyData.keyHash P "__firstlineno__", .str "__firstlineno__" 392, (.int 38 391)⟩, ⟨PyData.keyHash P "__init__", .str "__init__" 401, (.ref 168)⟩, ⟨PyData.keyHash P "size_of", .str "size_of" 409, (.ref 175)⟩, ⟨PyData.keyHash P "is_one", .str "is_one" 417, (.ref 182)⟩, ⟨PyData.keyHash P "unchecked_many", .str "unchecked_many" 425, (.ref 189)⟩, ⟨PyData.keyHash P "unchecked_number", .str "unchecked_number" 433, (.ref 196)⟩, ⟨PyData.keyHash P "unchecked_thing", .str "unchecked_thing" 442, (.ref 203)⟩, ⟨PyData.keyHash P "many", .str "many" 450, (.ref 210)⟩, ⟨PyData.keyHash P "refuse_other", .str "refuse_other" 458, (.ref 217)⟩, ⟨PyData.keyHash P "number_of", .str "number_of" 466, (.ref 224)⟩, ⟨PyData.keyHash P "thing_of", .str "thing_of" 476, (.ref 231)⟩, ⟨PyData.keyHash P "next_of", .str "next_of" 486, (.ref 238)⟩, ⟨PyData.keyHash P "__static_attributes__", .str "__static_attributes__" 489, (.ref 239)⟩, ⟨PyData.keyHash P "__dict__", .str "__dict__" 491, (.ref 242)⟩, ⟨PyData.keyHash P "__weakref__", .str "__weakref__" 493, (.ref 243)⟩, ⟨PyData.keyHash P "__doc__", .str "__doc__" 494, .none⟩] 4), #[]⟩) :: (nat_lit 241, ⟨(.type "type"), none, (.cls ⟨"Family", [(.type "object")], [(.ref 241), (.type "object")], 240, "Family", true, [], [(.ref 316)], false, none, false⟩), #[none, none, (some (.str "Family" 381)), (some (.str "Family" 389)), (some (.builtin "object.__new__")), (some (.bool true))]⟩) :: (nat_lit 242, ⟨(.type "getset_descriptor"), none, (.fields #[(.str "__dict__" 490), (.ref 241), (.builtin "function.__dict__"), (.builtin "function.__dict__#set")]), #[]⟩) :: (nat_lit 243, ⟨(.type "getset_descriptor"), none, (.fields #[(.str "__weakref__" 492), (.ref 241), (.builtin "ExceptionGroup.__weakref__"), .none]), #[]⟩) :: (nat_lit 246, ⟨(.type "tuple"), none, (.seq #[(.ref 241)] 0), #[]⟩) :: (nat_lit 253, ⟨(.type "tuple"), none, (.seq #[] 0), #[]⟩) :: (nat_lit 255, ⟨(.type "tuple"), none, (.seq #[(.str "self" 512), (.str "word" 513)] 0), #[]⟩) :: (nat_lit 256, ⟨(.type "tuple"), none, (.seq #[] 0), #[]⟩) :: (nat_lit 258, ⟨(.type "code"), none, (.fields #[(.str "__init__" 509), (.str "SplitFamily.__init__" 510), (.str "/claim/cut.py" 511), (.int 86 0), (.int 2 0), (.int 0 0), (.int 0 0), (.int 3 0), (.ref 253), (.bool true), (.int 181 0), (.ref 254), .none, (.ref 255), (.ref 256), (.ref 257), (.int 514 0), (.int 86 0), (.str "/claim/cut.py" 515)]), #[]⟩) :: (nat_lit 259, ⟨(.type "function"), none, (.func (fnOf "__init__" "SplitFamily.__init__" (defArgs (inClass (top 17) 0)) (defBody (inClass (top 17) 0)) (defScope (inClass (top 17) 0)) .none .none .none (.str "countkin.kin" 379) none (.ref 258) .none)), #[]⟩) :: (nat_lit 260, ⟨(.type "tuple"), none, (.seq #[] 0), #[]⟩) :: (nat_lit 262, ⟨(.type "tuple"), none, (.seq #[(.str "self" 520)] 0), #[]⟩) :: (nat_lit 263, ⟨(.type "tuple"), none, (.seq #[] 0), #[]⟩) :: (nat_lit 265, ⟨(.type "code"), none, (.fields #[(.str "bare" 517), (.str "SplitFamily.bare" 518), (.str "/claim/cut.py" 519), (.int 89 0), (.int 1 0), (.int 0 0), (.int 0 0), (.int 3 0), (.ref 260), (.bool true), (.int 181 0), (.ref 261), .none, (.ref 262), (.ref 263), (.ref 264), (.int 521 0), (.int 89 0), (.str "/claim/cut.py" 522)]), #[]⟩) :: (nat_lit 266, ⟨(.type "function"), none, (.func (fnOf "bare" "SplitFamily.bare" (defArgs (inClass (top 17) 1)) (defBody (inClass (top 17) 1)) (defScope (inClass (top 17) 1)) .none .none .none (.str "countkin.kin" 379) none (.ref 265) .none)), #[]⟩) :: (nat_lit 267, ⟨(.type "tuple"), none, (.seq #[] 0), #[]⟩) :: (nat_lit 269, ⟨(.type "tuple"), none, (.seq #[(.str "self" 527), (.str "thing" 528)] 0), #[]⟩) :: (nat_lit 270, ⟨(.type "tuple"), none, (.seq #[] 0), #[]⟩) :: (nat_lit 272, ⟨(.type "code"), none, (.fields #[(.str "parted" 524), (.str "SplitFamily.parted" 525), (.str "/claim/cut.py" 526), (.int 92 0), (.int 2 0), (.int 0 0), (.int 0 0), (.int 3 0), (.ref 267), (.bool true), (.int 181 0), (.ref 268), .none, (.ref 269), (.ref 270), (.ref 271), (.int 529 0), (.int 92 0), (.str "/claim/cut.py" 530)]), #[]⟩) :: (nat_lit 273, ⟨(.type "function"), none, (.func (fnOf "parted" "SplitFamily.parted" (defArgs (inClass (top 17) 2)) (defBody (inClass (top 17) 2)) (defScope (inClass (top 17) 2)) .none .none .none (.str "countkin.kin" 379) none (.ref 272) .none)), #[]⟩) :: (nat_lit 274, ⟨(.type "tuple"), none, (.seq #[] 0), #[]⟩) :: (nat_lit 276, ⟨(.type "tuple"), none, (.seq #[(.str "self" 535), (.str "left" 536), (.str "right" 537)] 0), #[]⟩) :: (nat_lit 277, ⟨(.type "tuple"), none, (.seq #[] 0), #[]⟩) :: (nat_lit 279, ⟨(.type "code"), none, (.fields #[(.str "joined" 532), (.str "SplitFamily.joined" 533), (.str "/claim/cut.py" 534), (.int 95 0), (.int 3 0), (.int 0 0), (.int 0 0), (.int 3 0), (.ref 274), (.bool true), (.int 181 0), (.ref 275), .none, (.ref 276), (.ref 277), (.ref 278), (.int 538 0), (.int 95 0), (.str "/claim/cut.py" 539)]), #[]⟩) :: (nat_lit 280, ⟨(.type "function"), none, (.func (fnOf "joined" "SplitFamily.joined" (defArgs (inClass (top 17) 3)) (defBody (inClass (top 17) 3)) (defScope (inClass (top 17) 3)) .none .none .none (.str "countkin.kin" 379) none (.ref 279) .none)), #[]⟩) :: (nat_lit 281, ⟨(.type "tuple"), none, (.seq #[] 0), #[]⟩) :: (nat_lit 283, ⟨(.type "tuple"), none, (.seq #[(.str "self" 544), (.str "size" 545)] 0), #[]⟩) :: (nat_lit 284, ⟨(.type "tuple"), none, (.seq #[] 0), #[]⟩) :: (nat_lit 286, ⟨(.type "code"), none, (.fields #[(.str "unchecked_many" 541), (.str "SplitFamily.unchecked_many" 542), (.str "/claim/cut.py" 543), (.int 98 0), (.int 2 0), (.int 0 0), (.int 0 0), (.int 3 0), (.ref 281), (.bool true), (.int 181 0), (.ref 282), .none, (.ref 283), (.ref 284), (.ref 285), (.int 546 0), (.int 98 0), (.str "/claim/cut.py" 547)]), #[]⟩) :: (nat_lit 287, ⟨(.type "function"), none, (.func (fnOf "unchecked_many" "SplitFamily.unchecked_many" (defArgs (inClass (top 17) 4)) (defBody (inClass (top 17) 4)) (defScope (inClass (top 17) 4)) .none .none .none (.str "countkin.kin" 379) none (.ref 286) .none)), #[]⟩) :: (nat_lit 288, ⟨(.type "tuple"), none, (.seq #[] 0), #[]⟩) :: (nat_lit 290, ⟨(.type "tuple"), none, (.seq #[(.str "self" 552), (.str "thing" 553)] 0), #[]⟩) :: (nat_lit 291, ⟨(.type "tuple"), none, (.seq #[] 0), #[]⟩) :: (nat_lit 293, ⟨(.type "code"), none, (.fields #[(.str "unchecked_number" 549), (.str "SplitFamily.unchecked_number" 550), (.str "/claim/cut.py" 551), (.int 101 0), (.int 2 0), (.int 0 0), (.int 0 0), (.int 3 0), (.ref 288), (.bool true), (.int 181 0), (.ref 289), .none, (.ref 290), (.ref 291), (.ref 292), (.int 554 0), (.int 101 0), (.str "/claim/cut.py" 555)]), #[]⟩) :: (nat_lit 294, ⟨(.type "function"), none, (.func (fnOf "unchecked_number" "SplitFamily.unchecked_number" (defArgs (inClass (top 17) 5)) (defBody (inClass (top 17) 5)) (defScope (inClass (top 17) 5)) .none .none .none (.str "countkin.kin" 379) none (.ref 293) .none)), #[]⟩) :: (nat_lit 295, ⟨(.type "tuple"), none, (.seq #[] 0), #[]⟩) :: (nat_lit 297, ⟨(.type "tuple"), none, (.seq #[(.str "self" 560), (.str "size" 561), (.str "number" 562)] 0), #[]⟩) :: (nat_lit 298, ⟨(.type "tuple"), none, (.seq #[] 0), #[]⟩) :: (nat_lit 300, ⟨(.type "code"), none, (.fields #[(.str "unchecked_thing" 557), (.str "SplitFamily.unchecked_thing" 558), (.str "/claim/cut.py" 559), (.int 104 0), (.int 3 0), (.int 0 0), (.int 0 0), (.int 3 0), (.ref 295), (.bool true), (.int 181 0), (.ref 296), .none, (.ref 297), (.ref 298), (.ref 299), (.int 563 0), (.int 104 0), (.str "/claim/cut.py" 564)]), #[]⟩) :: (nat_lit 301, ⟨(.type "function"), none, (.func (fnOf "unchecked_thing" "SplitFamily.unchecked_thing" (defArgs (inClass (top 17) 6)) (defBody (inClass (top 17) 6)) (defScope (inClass (top 17) 6)) .none .none .none (.str "countkin.kin" 379) none (.ref 300) .none)), #[]⟩) :: (nat_lit 302, ⟨(.type "tuple"), none, (.seq #[] 0), #[]⟩) :: (nat_lit 305, ⟨(.type "code"), none, (.fields #[(.str "number_by_parts" 566), (.str "SplitFamily.number_by_parts" 567), (.str "/claim/cut.py" 568), (.int 107 0), (.int 3 0), (.int 0 0), (.int 0 0), (.int 3 0), (.ref 302), (.bool true), (.int 181 0), (.ref 303), .none, .none, .none, (.ref 304), (.int 569 0), (.int 107 0), (.str "/claim/cut.py" 570)]), #[]⟩) :: (nat_lit 306, ⟨(.type "function"), none, (.func (fnOf "number_by_parts" "SplitFamily.number_by_parts" (defArgs (inClass (top 17) 7)) (defBody (inClass (top 17) 7)) (defScope (inClass (top 17) 7)) .none .none .none (.str "countkin.kin" 379) none (.ref 305) .none)), #[]⟩) :: (nat_lit 307, ⟨(.type "tuple"), none, (.seq #[] 0), #[]⟩) :: (nat_lit 309, ⟨(.type "tuple"), none, (.seq #[(.str "self" 575), (.str "counts" 576), (.str "size" 577), (.str "number" 578), (.str "left_size" 579), (.str "rest" 580), (.str "right_size" 581), (.str "left" 582), (.str "right" 583)] 0), #[]⟩) :: (nat_lit 310, ⟨(.type "tuple"), none, (.seq #[] 0), #[]⟩) :: (nat_lit 312, ⟨(.type "code"), none, (.fields #[(.str "thing_by_parts" 572), (.str "SplitFamily.thing_by_parts" 573), (.str "/claim/cut.py" 574), (.int 118 0), (.int 4 0), (.int 0 0), (.int 0 0), (.int 3 0), (.ref 307), (.bool true), (.int 181 0), (.ref 308), .none, (.ref 309), (.ref 310), (.ref 311), (.int 584 0), (.int 118 0), (.str "/claim/cut.py" 585)]), #[]⟩) :: (nat_lit 313, ⟨(.type "function"), none, (.func (fnOf "thing_by_parts" "SplitFamily.thing_by_parts" (defArgs (inClass (top 17) 8)) (defBody (inClass (top 17) 8)) (defScope (inClass (top 17) 8)) .none .none .none (.str "countkin.kin" 379) none (.ref 312) .none)), #[]⟩) :: (nat_lit 314, ⟨(.type "tuple"), none, (.seq #[] 0), #[]⟩) :: (nat_lit 315, ⟨(.type "dict"), none, (.dict #[⟨PyData.keyHash P "__module__", .str "__module__" 504, (.str "countkin.kin" 379)⟩, ⟨PyData.keyHash P "__firstlineno__", .str "__firstlineno__" 508, (.int 84 507)⟩, ⟨PyData.keyHash P "__init__", .str "__init__" 516, (.ref 259)⟩, ⟨PyData.keyHash P "bare", .str "bare" 523, (.ref 266)⟩, ⟨PyData.keyHash P "parted", .str "parted" 531, (.ref 273)⟩, ⟨PyData.keyHash P "joined", .str "joined" 540, (.ref 280)⟩, ⟨PyData.keyHash P "unchecked_many", .str "unchecked_many" 548, (.ref 287)⟩, ⟨PyData.keyHash P "unchecked_number", .str "unchecked_number" 556, (.ref 294)⟩, ⟨PyData.keyHash P "unchecked_thing", .str "unchecked_thing" 565, (.ref 301)⟩, ⟨PyData.keyHash P "number_by_parts", .str "number_by_parts" 571, (.ref 306)⟩, ⟨PyData.keyHash P "thing_by_parts", .str "thing_by_parts" 586, (.ref 313)⟩, ⟨PyData.keyHash P "__static_attributes__", .str "__static_attributes__" 587, (.ref 314)⟩, ⟨PyData.keyHash P "__doc__", .str "__doc__" 588, .none⟩] 2), #[]⟩) :: (nat_lit 316, ⟨(.type "type"), none, (.cls ⟨"SplitFamily", [(.ref 241)], [(.ref 316), (.ref 241), (.type "object")], 315, "SplitFamily", true, [], [(.ref 382), (.ref 443), (.ref 504)], false, none, false⟩), #[(some (.ref 246)), none, (some (.str "SplitFamily" 497)), (some (.str "SplitFamily" 505)), (some (.builtin "object.__new__")), (some (.bool true))]⟩) :: (nat_lit 319, ⟨(.type "tuple"), none, (.seq #[] 0), #[]⟩) :: (nat_lit 322, ⟨(.type "code"), none, (.fields #[(.str "raised_by" 593), (.str "raised_by" 594), (.str "/claim/cut.py" 595), (.int 131 0), (.int 2 0), (.int 0 0), (.int 0 0), (.int 3 0), (.ref 319), (.bool true), (.int 181 0), (.ref 320), .none, .none, .none, (.ref 321), (.int 596 0), (.int 131 0), (.str "/claim/cut.py" 597)]), #[]⟩) :: (nat_lit 323, ⟨(.type "function"), none, (.func (fnOf "raised_by" "raised_by" (defArgs (top 19)) (defBody (top 19)) (defScope (top 19)) .none .none .none (.str "countkin.common" 591) none (.ref 322) .none)), #[]⟩) :: (nat_lit 324, ⟨(.type "tuple"), none, (.seq #[] 0), #[]⟩) :: (nat_lit 326, ⟨(.type "tuple"), none, (.seq #[(.str "text" 604), (.str "depth" 605), (.str "sign" 606)] 0), #[]⟩) :: (nat_lit 327, ⟨(.type "tuple"), none, (.seq #[] 0), #[]⟩) :: (nat_lit 329, ⟨(.type "code"), none, (.fields #[(.str "closes" 601), (.str "closes" 602), (.str "/claim/cut.py" 603), (.int 134 0), (.int 1 0), (.int 0 0), (.int 0 0), (.int 3 0), (.ref 324), (.bool true), (.int 181 0), (.ref 325), .none, (.ref 326), (.ref 327), (.ref 328), (.int 607 0), (.int 134 0), (.str "/claim/cut.py" 608)]), #[]⟩) :: (nat_lit 330, ⟨(.type "function"), none, (.func (fnOf "closes" "closes" (defArgs (top 21)) (defBody (top 21)) (defScope (top 21)) .none .none .none (.str "countkin.steps" 599) none (.ref 329) .none)), #[]⟩) :: (nat_lit 331, ⟨(.type "tuple"), none, (.seq #[(.ref 316)] 0), #[]⟩) :: (nat_lit 338, ⟨(.type "tuple"), none, (.seq #[] 0), #[]⟩) :: (nat_lit 340, ⟨(.type "tuple"), none, (.seq #[(.str "self" 627)] 0), #[]⟩) :: (nat_lit 341, ⟨(.type "tuple"), none, (.seq #[] 0), #[]⟩) :: (nat_lit 343, ⟨(.type "code"), none, (.fields #[(.str "__init__" 624), (.str "Brackets.__init__" 625), (.str "/claim/cut.py" 626), (.int 147 0), (.int 1 0), (.int 0 0), (.int 0 0), (.int 3 0), (.ref 338), (.bool true), (.int 181 0), (.ref 339), .none, (.ref 340), (.ref 341), (.ref 342), (.int 628 0), (.int 147 0), (.str "/claim/cut.py" 629)]), #[]⟩) :: (nat_lit 344, ⟨(.type "function"), none, (.func (fnOf "__init__" "Brackets.__init__" (defArgs (inClass (top 23) 0)) (defBody (inClass (top 23) 0)) (defScope (inClass (top 23) 0)) .none .none .none (.str "countkin.signs" 610) none (.ref 343) .none)), #[]⟩) :: (nat_lit 345, ⟨(.type "tuple"), none, (.seq #[] 0), #[]⟩) :: (nat_lit 347, ⟨(.type "tuple"), none, (.seq #[(.str "self" 634), (.str "thing" 635)] 0), #[]⟩) :: (nat_lit 348, ⟨(.type "tuple"), none, (.seq #[] 0), #[]⟩) :: (nat_lit 350, ⟨(.type "code"), none, (.fields #[(.str "size_of" 631), (.str "Brackets.size_of" 632), (.str "/claim/cut.py" 633), (.int 150 0), (.int 2 0), (.int 0 0), (.int 0 0), (.int 3 0), (.ref 345), (.bool true), (.int 181 0), (.ref 346), .none, (.ref 347), (.ref 348), (.ref 349), (.int 636 0), (.int 150 0), (.str "/claim/cut.py" 637)]), #[]⟩) :: (nat_lit 351, ⟨(.type "function"), none, (.func (fnOf "size_of" "Brackets.size_of" (defArgs (inClass (top 23) 1)) (defBody (inClass (top 23) 1)) (defScope (inClass (top 23) 1)) .none .none .none (.str "countkin.signs" 610) none (.ref 350) .none)), #[]⟩) :: (nat_lit 352, ⟨(.type "tuple"), none, (.seq #[] 0), #[]⟩) :: (nat_lit 354, ⟨(.type "tuple"), none, (.seq #[(.str "self" 642), (.str "thing" 643)] 0), #[]⟩) :: (nat_lit 355, ⟨(.type "tuple"), none, (.seq #[] 0), #[]⟩) :: (nat_lit 357, ⟨(.type "code"), none, (.fields #[(.str "is_one" 639), (.str "Brackets.is_one" 640), (.str "/claim/cut.py" 641), (.int 153 0), (.int 2 0), (.int 0 0), (.int 0 0), (.int 3 0), (.ref 352), (.bool true), (.int 181 0), (.ref 353), .none, (.ref 354), (.ref 355), (.ref 356), (.int 644 0), (.int 153 0), (.str "/claim/cut.py" 645)]), #[]⟩) :: (nat_lit 358, ⟨(.type "function"), none, (.func (fnOf "is_one" "Brackets.is_one" (defArgs (inClass (top 23) 2)) (defBody (inClass (top 23) 2)) (defScope (inClass (top 23) 2)) .none .none .none (.str "countkin.signs" 610) none (.ref 357) .none)), #[]⟩) :: (nat_lit 359, ⟨(.type "tuple"), none, (.seq #[] 0), #[]⟩) :: (nat_lit 361, ⟨(.type "tuple"), none, (.seq #[(.str "self" 650)] 0), #[]⟩) :: (nat_lit 362, ⟨(.type "tuple"), none, (.seq #[] 0), #[]⟩) :: (nat_lit 364, ⟨(.type "code"), none, (.fields #[(.str "bare" 647), (.str "Brackets.bare" 648), (.str "/claim/cut.py" 649), (.int 156 0), (.int 1 0), (.int 0 0), (.int 0 0), (.int 3 0), (.ref 359), (.bool true), (.int 181 0), (.ref 360), .none, (.ref 361), (.ref 362), (.ref 363), (.int 651 0), (.int 156 0), (.str "/claim/cut.py" 652)]), #[]⟩) :: (nat_lit 365, ⟨(.type "function"), none, (.func (fnOf "bare" "Brackets.bare" (defArgs (inClass (top 23) 3)) (defBody (inClass (top 23) 3)) (defScope (inClass (top 23) 3)) .none .none .none (.str "countkin.signs" 610) none (.ref 364) .none)), #[]⟩) :: (nat_lit 366, ⟨(.type "tuple"), none, (.seq #[] 0), #[]⟩) :: (nat_lit 368, ⟨(.type "tuple"), none, (.seq #[(.str "self" 657), (.str "thing" 658), (.str "end" 659)] 0), #[]⟩) :: (nat_lit 369, ⟨(.type "tuple"), none, (.seq #[] 0), #[]⟩) :: (nat_lit 371, ⟨(.type "code"), none, (.fields #[(.str "parted" 654), (.str "Brackets.parted" 655), (.str "/claim/cut.py" 656), (.int 159 0), (.int 2 0), (.int 0 0), (.int 0 0), (.int 3 0), (.ref 366), (.bool true), (.int 181 0), (.ref 367), .none, (.ref 368), (.ref 369), (.ref 370), (.int 660 0), (.int 159 0), (.str "/claim/cut.py" 661)]), #[]⟩) :: (nat_lit 372, ⟨(.type "function"), none, (.func (fnOf "parted" "Brackets.parted" (defArgs (inClass (top 23) 4)) (defBody (inClass (top 23) 4)) (defScope (inClass (top 23) 4)) .none .none .none (.str "countkin.signs" 610) none (.ref 371) .none)), #[]⟩) :: (nat_lit 373, ⟨(.type "tuple"), none, (.seq #[] 0), #[]⟩) :: (nat_lit 375, ⟨(.type "tuple"), none, (.seq #[(.str "self" 666), (.str "left" 667), (.str "right" 668)] 0), #[]⟩) :: (nat_lit 376, ⟨(.type "tuple"), none, (.seq #[] 0), #[]⟩) :: (nat_lit 378, ⟨(.type "code"), none, (.fields #[(.str "joined" 663), (.str "Brackets.joined" 664), (.str "/claim/cut.py" 665), (.int 163 0), (.int 3 0), (.int 0 0), (.int 0 0), (.int 3 0), (.ref 373), (.bool true), (.int 181 0), (.ref 374), .none, (.ref 375), (.ref 376), (.ref 377), (.int 669 0), (.int 163 0), (.str "/claim/cut.py" 670)]), #[]⟩) :: (nat_lit 379, ⟨(.type "function"), none, (.func (fnOf "joined" "Brackets.joined" (defArgs (inClass (top 23) 5)) (defBody (inClass (top 23) 5)) (defScope (inClass (top 23) 5)) .none .none .none (.str "countkin.signs" 610) none (.ref 378) .none)), #[]⟩) :: (nat_lit 380, ⟨(.type "tuple"), none, (.seq #[] 0), #[]⟩) :: (nat_lit 381, ⟨(.type "dict"), none, (.dict #[⟨PyData.keyHash P "__module__", .str "__module__" 619, (.str "countkin.signs" 610)⟩, ⟨PyData.keyHash P "__firstlineno__", .str "__firstlineno__" 623, (.int 145 622)⟩, ⟨PyData.keyHash P "__init__", .str "__init__" 630, (.ref 344)⟩, ⟨PyData.keyHash P "size_of", .str "size_of" 638, (.ref 351)⟩, ⟨PyData.keyHash P "is_one", .str "is_one" 646, (.ref 358)⟩, ⟨PyData.keyHash P "bare", .str "bare" 653, (.ref 365)⟩, ⟨PyData.keyHash P "parted", .str "parted" 662, (.ref 372)⟩, ⟨PyData.keyHash P "joined", .str "joined" 671, (.ref 379)⟩, ⟨PyData.keyHash P "__static_attributes__", .str "__static_attributes__" 672, (.ref 380)⟩, ⟨PyData.keyHash P "__doc__", .str "__doc__" 673, .none⟩] 2), #[]⟩) :: (nat_lit 382, ⟨(.type "type"), none, (.cls ⟨"Brackets", [(.ref 316)], [(.ref 382), (.ref 316), (.ref 241), (.type "object")], 381, "Brackets", true, [], [], false, none, false⟩), #[(some (.ref 331)), none, (some (.str "Brackets" 612)), (some (.str "Brackets" 620)), (some (.builtin "object.__new__")), (some (.bool true))]⟩) :: (nat_lit 385, ⟨(.type "tuple"), none, (.seq #[] 0), #[]⟩) :: (nat_lit 387, ⟨(.type "tuple"), none, (.seq #[(.str "text" 679), (.str "depth" 680), (.str "place" 681)] 0), #[]⟩) :: (nat_lit 388, ⟨(.type "tuple"), none, (.seq #[] 0), #[]⟩) :: (nat_lit 390, ⟨(.type "code"), none, (.fields #[(.str "first_close" 676), (.str "first_close" 677), (.str "/claim/cut.py" 678), (.int 165 0), (.int 1 0), (.int 0 0), (.int 0 0), (.int 3 0), (.ref 385), (.bool true), (.int 181 0), (.ref 386), .none, (.ref 387), (.ref 388), (.ref 389), (.int 682 0), (.int 165 0), (.str "/claim/cut.py" 683)]), #[]⟩) :: (nat_lit 391, ⟨(.type "function"), none, (.func (fnOf "first_close" "first_close" (defArgs (top 24)) (defBody (top 24)) (defScope (top 24)) .none .none .none (.str "countkin.signs" 610) none (.ref 390) .none)), #[]⟩) :: (nat_lit 392, ⟨(.type "tuple"), none, (.seq #[(.ref 316)] 0), #[]⟩) :: (nat_lit 399, ⟨(.type "tuple"), none, (.seq #[] 0), #[]⟩) :: (nat_lit 401, ⟨(.type "tuple"), none, (.seq #[(.str "self" 700)] 0), #[]⟩) :: (nat_lit 402, ⟨(.type "tuple"), none, (.seq #[] 0), #[]⟩) :: (nat_lit 404, ⟨(.type "code"), none, (.fields #[(.str "__init__" 697), (.str "Stairs.__init__" 698), (.str "/claim/cut.py" 699), (.int 177 0), (.int 1 0), (.int 0 0), (.int 0 0), (.int 3 0), (.ref 399), (.bool true), (.int 181 0), (.ref 400), .none, (.ref 401), (.ref 402), (.ref 403), (.int 701 0), (.int 177 0), (.str "/claim/cut.py" 702)]), #[]⟩) :: (nat_lit 405, ⟨(.type "function"), none, (.func (fnOf "__init__" "Stairs.__init__" (defArgs (inClass (top 25) 0)) (defBody (inClass (top 25) 0)) (defScope (inClass (top 25) 0)) .none .none .none (.str "countkin.signs" 610) none (.ref 404) .none)), #[]⟩) :: (nat_lit 406, ⟨(.type "tuple"), none, (.seq #[] 0), #[]⟩) :: (nat_lit 408, ⟨(.type "tuple"), none, (.seq #[(.str "self" 707), (.str "thing" 708)] 0), #[]⟩) :: (nat_lit 409, ⟨(.type "tuple"), none, (.seq #[] 0), #[]⟩) :: (nat_lit 411, ⟨(.type "code"), none, (.fields #[(.str "size_of" 704), (.str "Stairs.size_of" 705), (.str "/claim/cut.py" 706), (.int 180 0), (.int 2 0), (.int 0 0), (.int 0 0), (.int 3 0), (.ref 406), (.bool true), (.int 181 0), (.ref 407), .none, (.ref 408), (.ref 409), (.ref 410), (.int 709 0), (.int 180 0), (.str "/claim/cut.py" 710)]), #[]⟩) :: (nat_lit 412, ⟨(.type "function"), none, (.func (fnOf "size_of" "Stairs.size_of" (defArgs (inClass (top 25) 1)) (defBody (inClass (top 25) 1)) (defScope (inClass (top 25) 1)) .none .none .none (.str "countkin.signs" 610) none (.ref 411) .none)), #[]⟩) :: (nat_lit 413, ⟨(.type "tuple"), none, (.seq #[] 0), #[]⟩) :: (nat_lit 415, ⟨(.type "tuple"), none, (.seq #[(.str "self" 715), (.str "thing" 716), (.str "ahead" 717), (.str "place" 718), (.str "number" 719)] 0), #[]⟩) :: (nat_lit 416, ⟨(.type "tuple"), none, (.seq #[] 0), #[]⟩) :: (nat_lit 418, ⟨(.type "code"), none, (.fields #[(.str "is_one" 712), (.str "Stairs.is_one" 713), (.str "/claim/cut.py" 714), (.int 183 0), (.int 2 0), (.int 0 0), (.int 0 0), (.int 3 0), (.ref 413), (.bool true), (.int 181 0), (.ref 414), .none, (.ref 415), (.ref 416), (.ref 417), (.int 720 0), (.int 183 0), (.str "/claim/cut.py" 721)]), #[]⟩) :: (nat_lit 419, ⟨(.type "function"), none, (.func (fnOf "is_one" "Stairs.is_one" (defArgs (inClass (top 25) 2)) (defBody (inClass (top 25) 2)) (defScope (inClass (top 25) 2)) .none .none .none (.str "countkin.signs" 610) none (.ref 418) .none)), #[]⟩) :: (nat_lit 420, ⟨(.type "tuple"), none, (.seq #[] 0), #[]⟩) :: (nat_lit 422, ⟨(.type "tuple"), none, (.seq #[(.str "self" 726)] 0), #[]⟩) :: (nat_lit 423, ⟨(.type "tuple"), none, (.seq #[] 0), #[]⟩) :: (nat_lit 425, ⟨(.type "code"), none, (.fields #[(.str "bare" 723), (.str "Stairs.bare" 724), (.str "/claim/cut.py" 725), (.int 191 0), (.int 1 0), (.int 0 0), (.int 0 0), (.int 3 0), (.ref 420), (.bool true), (.int 181 0), (.ref 421), .none, (.ref 422), (.ref 423), (.ref 424), (.int 727 0), (.int 191 0), (.str "/claim/cut.py" 728)]), #[]⟩) :: (nat_lit 426, ⟨(.type "function"), none, (.func (fnOf "bare" "Stairs.bare" (defArgs (inClass (top 25) 3)) (defBody (inClass (top 25) 3)) (defScope (inClass (top 25) 3)) .none .none .none (.str "countkin.signs" 610) none (.ref 425) .none)), #[]⟩) :: (nat_lit 427, ⟨(.type "tuple"), none, (.seq #[] 0), #[]⟩) :: (nat_lit 429, ⟨(.type "tuple"), none, (.seq #[(.str "self" 733), (.str "thing" 734), (.str "begin" 735)] 0), #[]⟩) :: (nat_lit 430, ⟨(.type "tuple"), none, (.seq #[] 0), #[]⟩) :: (nat_lit 432, ⟨(.type "code"), none, (.fields #[(.str "parted" 730), (.str "Stairs.parted" 731), (.str "/claim/cut.py" 732), (.int 194 0), (.int 2 0), (.int 0 0), (.int 0 0), (.int 3 0), (.ref 427), (.bool true), (.int 181 0), (.ref 428), .none, (.ref 429), (.ref 430), (.ref 431), (.int 736 0), (.int 194 0), (.str "/claim/cut.py" 737)]), #[]⟩) :: (nat_lit 433, ⟨(.type "function"), none, (.func (fnOf "parted" "Stairs.parted" (defArgs (inClass (top 25) 4)) (defBody (inClass (top 25) 4)) (defScope (inClass (top 25) 4)) .none .none .none (.str "countkin.signs" 610) none (.ref 432) .none)), #[]⟩) :: (nat_lit 434, ⟨(.type "tuple"), none, (.seq #[] 0), #[]⟩) :: (nat_lit 436, ⟨(.type "tuple"), none, (.seq #[(.str "self" 742), (.str "left" 743), (.str "right" 744)] 0), #[]⟩) :: (nat_lit 437, ⟨(.type "tuple"), none, (.seq #[] 0), #[]⟩) :: (nat_lit 439, ⟨(.type "code"), none, (.fields #[(.str "joined" 739), (.str "Stairs.joined" 740), (.str "/claim/cut.py" 741), (.int 198 0), (.int 3 0), (.int 0 0), (.int 0 0), (.int 3 0), (.ref 434), (.bool true), (.int 181 0), (.ref 435), .none, (.ref 436), (.ref 437), (.ref 438), (.int 745 0), (.int 198 0), (.str "/claim/cut.py" 746)]), #[]⟩) :: (nat_lit 440, ⟨(.type "function"), none, (.func (fnOf "joined" "Stairs.joined" (defArgs (inClass (top 25) 5)) (defBody (inClass (top 25) 5)) (defScope (inClass (top 25) 5)) .none .none .none (.str "countkin.signs" 610) none (.ref 439) .none)), #[]⟩) :: (nat_lit 441, ⟨(.type "tuple"), none, (.seq #[] 0), #[]⟩) :: (nat_lit 442, ⟨(.type "dict"), none, (.dict #[⟨PyData.keyHash P "__module__", .str "__module__" 692, (.str "countkin.signs" 610)⟩, ⟨PyData.keyHash P "__firstlineno__", .str "__firstlineno__" 696, (.int 175 695)⟩, ⟨PyData.keyHash P "__init__", .str "__init__" 703, (.ref 405)⟩, ⟨PyData.keyHash P "size_of", .str "size_of" 711, (.ref 412)⟩, ⟨PyData.keyHash P "is_one", .str "is_one" 722, (.ref 419)⟩, ⟨PyData.keyHash P "bare", .str "bare" 729, (.ref 426)⟩, ⟨PyData.keyHash P "parted", .str "parted" 738, (.ref 433)⟩, ⟨PyData.keyHash P "joined", .str "joined" 747, (.ref 440)⟩, ⟨PyData.keyHash P "__static_attributes__", .str "__static_attributes__" 748, (.ref 441)⟩, ⟨PyData.keyHash P "__doc__", .str "__doc__" 749, .none⟩] 2), #[]⟩) :: (nat_lit 443, ⟨(.type "type"), none, (.cls ⟨"Stairs", [(.ref 316)], [(.ref 443), (.ref 316), (.ref 241), (.type "object")], 442, "Stairs", true, [], [], false, none, false⟩), #[(some (.ref 392)), none, (some (.str "Stairs" 685)), (some (.str "Stairs" 693)), (some (.builtin "object.__new__")), (some (.bool true))]⟩) :: (nat_lit 446, ⟨(.type "tuple"), none, (.seq #[] 0), #[]⟩) :: (nat_lit 448, ⟨(.type "tuple"), none, (.seq #[(.str "stairs" 755), (.str "place" 756)] 0), #[]⟩) :: (nat_lit 449, ⟨(.type "tuple"), none, (.seq #[] 0), #[]⟩) :: (nat_lit 451, ⟨(.type "code"), none, (.fields #[(.str "right_begin" 752), (.str "right_begin" 753), (.str "/claim/cut.py" 754), (.int 200 0), (.int 1 0), (.int 0 0), (.int 0 0), (.int 3 0), (.ref 446), (.bool true), (.int 181 0), (.ref 447), .none, (.ref 448), (.ref 449), (.ref 450), (.int 757 0), (.int 200 0), (.str "/claim/cut.py" 758)]), #[]⟩) :: (nat_lit 452, ⟨(.type "function"), none, (.func (fnOf "right_begin" "right_begin" (defArgs (top 26)) (defBody (top 26)) (defScope (top 26)) .none .none .none (.str "countkin.signs" 610) none (.ref 451) .none)), #[]⟩) :: (nat_lit 453, ⟨(.type "tuple"), none, (.seq #[(.ref 316)] 0), #[]⟩) :: (nat_lit 460, ⟨(.type "tuple"), none, (.seq #[] 0), #[]⟩) :: (nat_lit 462, ⟨(.type "tuple"), none, (.seq #[(.str "self" 777)] 0), #[]⟩) :: (nat_lit 463, ⟨(.type "tuple"), none, (.seq #[] 0), #[]⟩) :: (nat_lit 465, ⟨(.type "code"), none, (.fields #[(.str "__init__" 774), (.str "Twins.__init__" 775), (.str "/claim/cut.py" 776), (.int 208 0), (.int 1 0), (.int 0 0), (.int 0 0), (.int 3 0), (.ref 460), (.bool true), (.int 181 0), (.ref 461), .none, (.ref 462), (.ref 463), (.ref 464), (.int 778 0), (.int 208 0), (.str "/claim/cut.py" 779)]), #[]⟩) :: (nat_lit 466, ⟨(.type "function"), none, (.func (fnOf "__init__" "Twins.__init__" (defArgs (inClass (top 28) 0)) (defBody (inClass (top 28) 0)) (defScope (inClass (top 28) 0)) .none .none .none (.str "countkin.twigs" 760) none (.ref 465) .none)), #[]⟩) :: (nat_lit 467, ⟨(.type "tuple"), none, (.seq #[] 0), #[]⟩) :: (nat_lit 469, ⟨(.type "tuple"), none, (.seq #[(.str "self" 784), (.str "thing" 785), (.str "pairs" 786), (.str "row" 787), (.str "twin" 788)] 0), #[]⟩) :: (nat_lit 470, ⟨(.type "tuple"), none, (.seq #[] 0), #[]⟩) :: (nat_lit 472, ⟨(.type "code"), none, (.fields #[(.str "size_of" 781), (.str "Twins.size_of" 782), (.str "/claim/cut.py" 783), (.int 211 0), (.int 2 0), (.int 0 0), (.int 0 0), (.int 3 0), (.ref 467), (.bool true), (.int 181 0), (.ref 468), .none, (.ref 469), (.ref 470), (.ref 471), (.int 789 0), (.int 211 0), (.str "/claim/cut.py" 790)]), #[]⟩) :: (nat_lit 473, ⟨(.type "function"), none, (.func (fnOf "size_of" "Twins.size_of" (defArgs (inClass (top 28) 1)) (defBody (inClass (top 28) 1)) (defScope (inClass (top 28) 1)) .none .none .none (.str "countkin.twigs" 760) none (.ref 472) .none)), #[]⟩) :: (nat_lit 474, ⟨(.type "tuple"), none, (.seq #[] 0), #[]⟩) :: (nat_lit 476, ⟨(.type "tuple"), none, (.seq #[(.str "self" 795), (.str "thing" 796)] 0), #[]⟩) :: (nat_lit 477, ⟨(.type "tuple"), none, (.seq #[] 0), #[]⟩) :: (nat_lit 479, ⟨(.type "code"), none, (.fields #[(.str "is_one" 792), (.str "Twins.is_one" 793), (.str "/claim/cut.py" 794), (.int 221 0), (.int 2 0), (.int 0 0), (.int 0 0), (.int 3 0), (.ref 474), (.bool true), (.int 181 0), (.ref 475), .none, (.ref 476), (.ref 477), (.ref 478), (.int 797 0), (.int 221 0), (.str "/claim/cut.py" 798)]), #[]⟩) :: (nat_lit 480, ⟨(.type "function"), none, (.func (fnOf "is_one" "Twins.is_one" (defArgs (inClass (top 28) 2)) (defBody (inClass (top 28) 2)) (defScope (inClass (top 28) 2)) .none .none .none (.str "countkin.twigs" 760) none (.ref 479) .none)), #[]⟩) :: (nat_lit 481, ⟨(.type "tuple"), none, (.seq #[] 0), #[]⟩) :: (nat_lit 483, ⟨(.type "tuple"), none, (.seq #[(.str "self" 803)] 0), #[]⟩) :: (nat_lit 484, ⟨(.type "tuple"), none, (.seq #[] 0), #[]⟩) :: (nat_lit 486, ⟨(.type "code"), none, (.fields #[(.str "bare" 800), (.str "Twins.bare" 801), (.str "/claim/cut.py" 802), (.int 224 0), (.int 1 0), (.int 0 0), (.int 0 0), (.int 3 0), (.ref 481), (.bool true), (.int 181 0), (.ref 482), .none, (.ref 483), (.ref 484), (.ref 485), (.int 804 0), (.int 224 0), (.str "/claim/cut.py" 805)]), #[]⟩) :: (nat_lit 487, ⟨(.type "function"), none, (.func (fnOf "bare" "Twins.bare" (defArgs (inClass (top 28) 3)) (defBody (inClass (top 28) 3)) (defScope (inClass (top 28) 3)) .none .none .none (.str "countkin.twigs" 760) none (.ref 486) .none)), #[]⟩) :: (nat_lit 488, ⟨(.type "tuple"), none, (.seq #[] 0), #[]⟩) :: (nat_lit 490, ⟨(.type "tuple"), none, (.seq #[(.str "self" 810), (.str "thing" 811)] 0), #[]⟩) :: (nat_lit 491, ⟨(.type "tuple"), none, (.seq #[] 0), #[]⟩) :: (nat_lit 493, ⟨(.type "code"), none, (.fields #[(.str "parted" 807), (.str "Twins.parted" 808), (.str "/claim/cut.py" 809), (.int 227 0), (.int 2 0), (.int 0 0), (.int 0 0), (.int 3 0), (.ref 488), (.bool true), (.int 181 0), (.ref 489), .none, (.ref 490), (.ref 491), (.ref 492), (.int 812 0), (.int 227 0), (.str "/claim/cut.py" 813)]), #[]⟩) :: (nat_lit 494, ⟨(.type "function"), none, (.func (fnOf "parted" "Twins.parted" (defArgs (inClass (top 28) 4)) (defBody (inClass (top 28) 4)) (defScope (inClass (top 28) 4)) .none .none .none (.str "countkin.twigs" 760) none (.ref 493) .none)), #[]⟩) :: (nat_lit 495, ⟨(.type "tuple"), none, (.seq #[] 0), #[]⟩) :: (nat_lit 497, ⟨(.type "tuple"), none, (.seq #[(.str "self" 818), (.str "left" 819), (.str "right" 820)] 0), #[]⟩) :: (nat_lit 498, ⟨(.type "tuple"), none, (.seq #[] 0), #[]⟩) :: (nat_lit 500, ⟨(.type "code"), none, (.fields #[(.str "joined" 815), (.str "Twins.joined" 816), (.str "/claim/cut.py" 817), (.int 230 0), (.int 3 0), (.int 0 0), (.int 0 0), (.int 3 0), (.ref 495), (.bool true), (.int 181 0), (.ref 496), .none, (.ref 497), (.ref 498), (.ref 499), (.int 821 0), (.int 230 0), (.str "/claim/cut.py" 822)]), #[]⟩) :: (nat_lit 501, ⟨(.type "function"), none, (.func (fnOf "joined" "Twins.joined" (defArgs (inClass (top 28) 5)) (defBody (inClass (top 28) 5)) (defScope (inClass (top 28) 5)) .none .none .none (.str "countkin.twigs" 760) none (.ref 500) .none)), #[]⟩) :: (nat_lit 502, ⟨(.type "tuple"), none, (.seq #[] 0), #[]⟩) :: (nat_lit 503, ⟨(.type "dict"), none, (.dict #[⟨PyData.keyHash P "__module__", .str "__module__" 769, (.str "countkin.twigs" 760)⟩, ⟨PyData.keyHash P "__firstlineno__", .str "__firstlineno__" 773, (.int 206 772)⟩, ⟨PyData.keyHash P "__init__", .str "__init__" 780, (.ref 466)⟩, ⟨PyData.keyHash P "size_of", .str "size_of" 791, (.ref 473)⟩, ⟨PyData.keyHash P "is_one", .str "is_one" 799, (.ref 480)⟩, ⟨PyData.keyHash P "bare", .str "bare" 806, (.ref 487)⟩, ⟨PyData.keyHash P "parted", .str "parted" 814, (.ref 494)⟩, ⟨PyData.keyHash P "joined", .str "joined" 823, (.ref 501)⟩, ⟨PyData.keyHash P "__static_attributes__", .str "__static_attributes__" 824, (.ref 502)⟩, ⟨PyData.keyHash P "__doc__", .str "__doc__" 825, .none⟩] 2), #[]⟩) :: (nat_lit 504, ⟨(.type "type"), none, (.cls ⟨"Twins", [(.ref 316)], [(.ref 504), (.ref 316), (.ref 241), (.type "object")], 503, "Twins", true, [], [], false, none, false⟩), #[(some (.ref 453)), none, (some (.str "Twins" 762)), (some (.str "Twins" 770)), (some (.builtin "object.__new__")), (some (.bool true))]⟩) :: (nat_lit 507, ⟨(.type "tuple"), none, (.seq #[] 0), #[]⟩) :: (nat_lit 509, ⟨(.type "tuple"), none, (.seq #[(.str "_law_script" 833), (.str "_law_k" 834)] 0), #[]⟩) :: (nat_lit 510, ⟨(.type "tuple"), none, (.seq #[] 0), #[]⟩) :: (nat_lit 512, ⟨(.type "code"), none, (.fields #[(.str "_law_cell_at" 830), (.str "_law_cell_at" 831), (.str "/claim/cut.py" 832), (.int 233 0), (.int 2 0), (.int 0 0), (.int 0 0), (.int 3 0), (.ref 507), (.bool true), (.int 181 0), (.ref 508), .none, (.ref 509), (.ref 510), (.ref 511), (.int 835 0), (.int 233 0), (.str "/claim/cut.py" 836)]), #[]⟩) :: (nat_lit 513, ⟨(.type "function"), none, (.func (fnOf "_law_cell_at" "_law_cell_at" (defArgs (top 30)) (defBody (top 30)) (defScope (top 30)) .none .none .none (.str "law_countkin_k10_told_by_number" 828) none (.ref 512) .none)), #[]⟩) :: (nat_lit 514, ⟨(.type "tuple"), none, (.seq #[] 0), #[]⟩) :: (nat_lit 516, ⟨(.type "tuple"), none, (.seq #[(.str "_law_found" 841)] 0), #[]⟩) :: (nat_lit 517, ⟨(.type "tuple"), none, (.seq #[] 0), #[]⟩) :: (nat_lit 519, ⟨(.type "code"), none, (.fields #[(.str "_law_whole" 838), (.str "_law_whole" 839), (.str "/claim/cut.py" 840), (.int 237 0), (.int 1 0), (.int 0 0), (.int 0 0), (.int 3 0), (.ref 514), (.bool true), (.int 181 0), (.ref 515), .none, (.ref 516), (.ref 517), (.ref 518), (.int 842 0), (.int 237 0), (.str "/claim/cut.py" 843)]), #[]⟩) :: (nat_lit 520, ⟨(.type "function"), none, (.func (fnOf "_law_whole" "_law_whole" (defArgs (top 31)) (defBody (top 31)) (defScope (top 31)) .none .none .none (.str "law_countkin_k10_told_by_number" 828) none (.ref 519) .none)), #[]⟩) :: (nat_lit 521, ⟨(.type "tuple"), none, (.seq #[] 0), #[]⟩) :: (nat_lit 523, ⟨(.type "tuple"), none, (.seq #[(.str "_law_cell" 848), (.str "_law_turn" 849), (.str "_law_number" 850)] 0), #[]⟩) :: (nat_lit 524, ⟨(.type "tuple"), none, (.seq #[] 0), #[]⟩) :: (nat_lit 526, ⟨(.type "code"), none, (.fields #[(.str "_law_mix" 845), (.str "_law_mix" 846), (.str "/claim/cut.py" 847), (.int 239 0), (.int 2 0), (.int 0 0), (.int 0 0), (.int 3 0), (.ref 521), (.bool true), (.int 181 0), (.ref 522), .none, (.ref 523), (.ref 524), (.ref 525), (.int 851 0), (.int 239 0), (.str "/claim/cut.py" 852)]), #[]⟩) :: (nat_lit 527, ⟨(.type "function"), none, (.func (fnOf "_law_mix" "_law_mix" (defArgs (top 32)) (defBody (top 32)) (defScope (top 32)) .none .none .none (.str "law_countkin_k10_told_by_number" 828) none (.ref 526) .none)), #[]⟩) :: (nat_lit 528, ⟨(.type "tuple"), none, (.seq #[] 0), #[]⟩) :: (nat_lit 530, ⟨(.type "tuple"), none, (.seq #[(.str "_law_size" 857), (.str "_law_found" 858), (.str "_law_k" 859)] 0), #[]⟩) :: (nat_lit 531, ⟨(.type "tuple"), none, (.seq #[] 0), #[]⟩) :: (nat_lit 533, ⟨(.type "code"), none, (.fields #[(.str "_law_share" 854), (.str "_law_share" 855), (.str "/claim/cut.py" 856), (.int 242 0), (.int 1 0), (.int 0 0), (.int 0 0), (.int 3 0), (.ref 528), (.bool true), (.int 181 0), (.ref 529), .none, (.ref 530), (.ref 531), (.ref 532), (.int 860 0), (.int 242 0), (.str "/claim/cut.py" 861)]), #[]⟩) :: (nat_lit 534, ⟨(.type "function"), none, (.func (fnOf "_law_share" "_law_share" (defArgs (top 33)) (defBody (top 33)) (defScope (top 33)) .none .none .none (.str "law_countkin_k10_told_by_number" 828) none (.ref 533) .none)), #[]⟩) :: (nat_lit 535, ⟨(.type "tuple"), none, (.seq #[] 0), #[]⟩) :: (nat_lit 537, ⟨(.type "tuple"), none, (.seq #[(.str "_law_text" 866), (.str "_law_height" 867), (.str "_law_sign" 868)] 0), #[]⟩) :: (nat_lit 538, ⟨(.type "tuple"), none, (.seq #[] 0), #[]⟩) :: (nat_lit 540, ⟨(.type "code"), none, (.fields #[(.str "_law_closes" 863), (.str "_law_closes" 864), (.str "/claim/cut.py" 865), (.int 247 0), (.int 1 0), (.int 0 0), (.int 0 0), (.int 3 0), (.ref 535), (.bool true), (.int 181 0), (.ref 536), .none, (.ref 537), (.ref 538), (.ref 539), (.int 869 0), (.int 247 0), (.str "/claim/cut.py" 870)]), #[]⟩) :: (nat_lit 541, ⟨(.type "function"), none, (.func (fnOf "_law_closes" "_law_closes" (defArgs (top 34)) (defBody (top 34)) (defScope (top 34)) .none .none .none (.str "law_countkin_k10_told_by_number" 828) none (.ref 540) .none)), #[]⟩) :: (nat_lit 542, ⟨(.type "tuple"), none, (.seq #[] 0), #[]⟩) :: (nat_lit 545, ⟨(.type "code"), none, (.fields #[(.str "_law_draws" 872), (.str "_law_draws" 873), (.str "/claim/cut.py" 874), (.int 259 0), (.int 3 0), (.int 0 0), (.int 0 0), (.int 3 0), (.ref 542), (.bool true), (.int 181 0), (.ref 543), .none, .none, .none, (.ref 544), (.int 875 0), (.int 259 0), (.str "/claim/cut.py" 876)]), #[]⟩) :: (nat_lit 546, ⟨(.type "function"), none, (.func (fnOf "_law_draws" "_law_draws" (defArgs (top 35)) (defBody (top 35)) (defScope (top 35)) .none .none .none (.str "law_countkin_k10_told_by_number" 828) none (.ref 545) .none)), #[]⟩) :: (nat_lit 547, ⟨(.type "tuple"), none, (.seq #[] 0), #[]⟩) :: (nat_lit 549, ⟨(.type "tuple"), none, (.seq #[(.str "_law_script" 881), (.str "_law_size" 882), (.str "_law_turn" 883), (.str "_law_draws_here" 884), (.str "_law_lean" 885), (.str "_law_signs" 886), (.str "_law_ups" 887), (.str "_law_k" 888), (.str "_law_height" 889), (.str "_law_up" 890)] 0), #[]⟩) :: (nat_lit 550, ⟨(.type "tuple"), none, (.seq #[] 0), #[]⟩) :: (nat_lit 552, ⟨(.type "code"), none, (.fields #[(.str "_law_text_by" 878), (.str "_law_text_by" 879), (.str "/claim/cut.py" 880), (.int 273 0), (.int 3 0), (.int 0 0), (.int 0 0), (.int 3 0), (.ref 547), (.bool true), (.int 181 0), (.ref 548), .none, (.ref 549), (.ref 550), (.ref 551), (.int 891 0), (.int 273 0), (.str "/claim/cut.py" 892)]), #[]⟩) :: (nat_lit 553, ⟨(.type "function"), none, (.func (fnOf "_law_text_by" "_law_text_by" (defArgs (top 36)) (defBody (top 36)) (defScope (top 36)) .none .none .none (.str "law_countkin_k10_told_by_number" 828) none (.ref 552) .none)), #[]⟩) :: (nat_lit 554, ⟨(.type "tuple"), none, (.seq #[] 0), #[]⟩) :: (nat_lit 556, ⟨(.type "tuple"), none, (.seq #[(.str "_law_script" 897), (.str "_law_size" 898), (.str "_law_turn" 899), (.str "_law_row" 900), (.str "_law_low" 901), (.str "_law_k" 902), (.str "_law_number" 903)] 0), #[]⟩) :: (nat_lit 557, ⟨(.type "tuple"), none, (.seq #[] 0), #[]⟩) :: (nat_lit 559, ⟨(.type "code"), none, (.fields #[(.str "_law_stairs_by" 894), (.str "_law_stairs_by" 895), (.str "/claim/cut.py" 896), (.int 291 0), (.int 3 0), (.int 0 0), (.int 0 0), (.int 3 0), (.ref 554), (.bool true), (.int 181 0), (.ref 555), .none, (.ref 556), (.ref 557), (.ref 558), (.int 904 0), (.int 291 0), (.str "/claim/cut.py" 905)]), #[]⟩) :: (nat_lit 560, ⟨(.type "function"), none, (.func (fnOf "_law_stairs_by" "_law_stairs_by" (defArgs (top 37)) (defBody (top 37)) (defScope (top 37)) .none .none .none (.str "law_countkin_k10_told_by_number" 828) none (.ref 559) .none)), #[]⟩) :: (nat_lit 561, ⟨(.type "tuple"), none, (.seq #[] 0), #[]⟩) :: (nat_lit 563, ⟨(.type "tuple"), none, (.seq #[(.str "_law_row" 910), (.str "_law_k" 911)] 0), #[]⟩) :: (nat_lit 564, ⟨(.type "tuple"), none, (.seq #[] 0), #[]⟩) :: (nat_lit 566, ⟨(.type "code"), none, (.fields #[(.str "_law_is_stairs" 907), (.str "_law_is_stairs" 908), (.str "/claim/cut.py" 909), (.int 298 0), (.int 1 0), (.int 0 0), (.int 0 0), (.int 3 0), (.ref 561), (.bool true), (.int 181 0), (.ref 562), .none, (.ref 563), (.ref 564), (.ref 565), (.int 912 0), (.int 298 0), (.str "/claim/cut.py" 913)]), #[]⟩) :: (nat_lit 567, ⟨(.type "function"), none, (.func (fnOf "_law_is_stairs" "_law_is_stairs" (defArgs (top 38)) (defBody (top 38)) (defScope (top 38)) .none .none .none (.str "law_countkin_k10_told_by_number" 828) none (.ref 566) .none)), #[]⟩) :: (nat_lit 568, ⟨(.type "tuple"), none, (.seq #[] 0), #[]⟩) :: (nat_lit 570, ⟨(.type "tuple"), none, (.seq #[(.str "_law_error" 918), (.str "_law_found" 919)] 0), #[]⟩) :: (nat_lit 571, ⟨(.type "tuple"), none, (.seq #[] 0), #[]⟩) :: (nat_lit 573, ⟨(.type "code"), none, (.fields #[(.str "_law_classes" 915), (.str "_law_classes" 916), (.str "/claim/cut.py" 917), (.int 303 0), (.int 1 0), (.int 0 0), (.int 0 0), (.int 3 0), (.ref 568), (.bool true), (.int 181 0), (.ref 569), .none, (.ref 570), (.ref 571), (.ref 572), (.int 920 0), (.int 303 0), (.str "/claim/cut.py" 921)]), #[]⟩) :: (nat_lit 574, ⟨(.type "function"), none, (.func (fnOf "_law_classes" "_law_classes" (defArgs (top 39)) (defBody (top 39)) (defScope (top 39)) .none .none .none (.str "law_countkin_k10_told_by_number" 828) none (.ref 573) .none)), #[]⟩) :: (nat_lit 575, ⟨(.type "tuple"), none, (.seq #[] 0), #[]⟩) :: (nat_lit 577, ⟨(.type "tuple"), none, (.seq #[(.str "_law_thing" 926), (.str "_law_deep" 927)] 0), #[]⟩) :: (nat_lit 578, ⟨(.type "tuple"), none, (.seq #[] 0), #[]⟩) :: (nat_lit 580, ⟨(.type "code"), none, (.fields #[(.str "_law_pairs" 923), (.str "_law_pairs" 924), (.str "/claim/cut.py" 925), (.int 318 0), (.int 2 0), (.int 0 0), (.int 0 0), (.int 3 0), (.ref 575), (.bool true), (.int 181 0), (.ref 576), .none, (.ref 577), (.ref 578), (.ref 579), (.int 928 0), (.int 318 0), (.str "/claim/cut.py" 929)]), #[]⟩) :: (nat_lit 581, ⟨(.type "function"), none, (.func (fnOf "_law_pairs" "_law_pairs" (defArgs (top 40)) (defBody (top 40)) (defScope (top 40)) .none .none .none (.str "law_countkin_k10_told_by_number" 828) none (.ref 580) .none)), #[]⟩) :: (nat_lit 582, ⟨(.type "tuple"), none, (.seq #[] 0), #[]⟩) :: (nat_lit 585, ⟨(.type "code"), none, (.fields #[(.str "_law_one" 931), (.str "_law_one" 932), (.str "/claim/cut.py" 933), (.int 324 0), (.int 3 0), (.int 0 0), (.int 0 0), (.int 3 0), (.ref 582), (.bool true), (.int 181 0), (.ref 583), .none, .none, .none, (.ref 584), (.int 934 0), (.int 324 0), (.str "/claim/cut.py" 935)]), #[]⟩) :: (nat_lit 586, ⟨(.type "function"), none, (.func (fnOf "_law_one" "_law_one" (defArgs (top 41)) (defBody (top 41)) (defScope (top 41)) .none .none .none (.str "law_countkin_k10_told_by_number" 828) none (.ref 585) .none)), #[]⟩) :: (nat_lit 587, ⟨(.type "tuple"), none, (.seq #[] 0), #[]⟩) :: (nat_lit 589, ⟨(.type "tuple"), none, (.seq #[(.str "_law_way" 940)] 0), #[]⟩) :: (nat_lit 590, ⟨(.type "tuple"), none, (.seq #[] 0), #[]⟩) :: (nat_lit 592, ⟨(.type "code"), none, (.fields #[(.str "_law_kin" 937), (.str "_law_kin" 938), (.str "/claim/cut.py" 939), (.int 332 0), (.int 1 0), (.int 0 0), (.int 0 0), (.int 3 0), (.ref 587), (.bool true), (.int 181 0), (.ref 588), .none, (.ref 589), (.ref 590), (.ref 591), (.int 941 0), (.int 332 0), (.str "/claim/cut.py" 942)]), #[]⟩) :: (nat_lit 593, ⟨(.type "function"), none, (.func (fnOf "_law_kin" "_law_kin" (defArgs (top 42)) (defBody (top 42)) (defScope (top 42)) .none .none .none (.str "law_countkin_k10_told_by_number" 828) none (.ref 592) .none)), #[]⟩) :: (nat_lit 594, ⟨(.type "tuple"), none, (.seq #[] 0), #[]⟩) :: (nat_lit 596, ⟨(.type "tuple"), none, (.seq #[(.str "_law_kin_here" 947), (.str "_law_way" 948), (.str "_law_far" 949), (.str "_law_size" 950), (.str "_law_thing" 951)] 0), #[]⟩) :: (nat_lit 597, ⟨(.type "tuple"), none, (.seq #[] 0), #[]⟩) :: (nat_lit 599, ⟨(.type "code"), none, (.fields #[(.str "_law_small" 944), (.str "_law_small" 945), (.str "/claim/cut.py" 946), (.int 338 0), (.int 3 0), (.int 0 0), (.int 0 0), (.int 3 0), (.ref 594), (.bool true), (.int 181 0), (.ref 595), .none, (.ref 596), (.ref 597), (.ref 598), (.int 952 0), (.int 338 0), (.str "/claim/cut.py" 953)]), #[]⟩) :: (nat_lit 600, ⟨(.type "function"), none, (.func (fnOf "_law_small" "_law_small" (defArgs (top 43)) (defBody (top 43)) (defScope (top 43)) .none .none .none (.str "law_countkin_k10_told_by_number" 828) none (.ref 599) .none)), #[]⟩) :: (nat_lit 601, ⟨(.type "tuple"), none, (.seq #[] 0), #[]⟩) :: (nat_lit 603, ⟨(.type "tuple"), none, (.seq #[(.str "_law_way" 958), (.str "_law_thing" 959)] 0), #[]⟩) :: (nat_lit 604, ⟨(.type "tuple"), none, (.seq #[] 0), #[]⟩) :: (nat_lit 606, ⟨(.type "code"), none, (.fields #[(.str "_law_copy" 955), (.str "_law_copy" 956), (.str "/claim/cut.py" 957), (.int 344 0), (.int 2 0), (.int 0 0), (.int 0 0), (.int 3 0), (.ref 601), (.bool true), (.int 181 0), (.ref 602), .none, (.ref 603), (.ref 604), (.ref 605), (.int 960 0), (.int 344 0), (.str "/claim/cut.py" 961)]), #[]⟩) :: (nat_lit 607, ⟨(.type "function"), none, (.func (fnOf "_law_copy" "_law_copy" (defArgs (top 44)) (defBody (top 44)) (defScope (top 44)) .none .none .none (.str "law_countkin_k10_told_by_number" 828) none (.ref 606) .none)), #[]⟩) :: (nat_lit 608, ⟨(.type "tuple"), none, (.seq #[] 0), #[]⟩) :: (nat_lit 610, ⟨(.type "tuple"), none, (.seq #[(.str "_law_way" 966), (.str "_law_size" 967), (.str "_law_number" 968), (.str "_law_kin_here" 969), (.str "_law_many" 970), (.str "_law_thing" 971), (.str "_law_kept" 972), (.str "_law_later" 973)] 0), #[]⟩) :: (nat_lit 611, ⟨(.type "tuple"), none, (.seq #[] 0), #[]⟩) :: (nat_lit 613, ⟨(.type "code"), none, (.fields #[(.str "_law_told" 963), (.str "_law_told" 964), (.str "/claim/cut.py" 965), (.int 348 0), (.int 3 0), (.int 0 0), (.int 0 0), (.int 3 0), (.ref 608), (.bool true), (.int 181 0), (.ref 609), .none, (.ref 610), (.ref 611), (.ref 612), (.int 974 0), (.int 348 0), (.str "/claim/cut.py" 975)]), #[]⟩) :: (nat_lit 614, ⟨(.type "function"), none, (.func (fnOf "_law_told" "_law_told" (defArgs (top 45)) (defBody (top 45)) (defScope (top 45)) .none .none .none (.str "law_countkin_k10_told_by_number" 828) none (.ref 613) .none)), #[]⟩) :: (nat_lit 615, ⟨(.type "tuple"), none, (.seq #[] 0), #[]⟩) :: (nat_lit 617, ⟨(.type "tuple"), none, (.seq #[(.str "_law_way" 980), (.str "_law_size" 981), (.str "_law_number" 982), (.str "_law_kept" 983), (.str "e" 984)] 0), #[]⟩) :: (nat_lit 618, ⟨(.type "tuple"), none, (.seq #[] 0), #[]⟩) :: (nat_lit 620, ⟨(.type "code"), none, (.fields #[(.str "_law_thing_refused" 977), (.str "_law_thing_refused" 978), (.str "/claim/cut.py" 979), (.int 370 0), (.int 3 0), (.int 0 0), (.int 0 0), (.int 3 0), (.ref 615), (.bool true), (.int 181 0), (.ref 616), .none, (.ref 617), (.ref 618), (.ref 619), (.int 985 0), (.int 370 0), (.str "/claim/cut.py" 986)]), #[]⟩) :: (nat_lit 621, ⟨(.type "function"), none, (.func (fnOf "_law_thing_refused" "_law_thing_refused" (defArgs (top 46)) (defBody (top 46)) (defScope (top 46)) .none .none .none (.str "law_countkin_k10_told_by_number" 828) none (.ref 620) .none)), #[]⟩) :: (nat_lit 622, ⟨(.type "tuple"), none, (.seq #[] 0), #[]⟩) :: (nat_lit 624, ⟨(.type "tuple"), none, (.seq #[(.str "_law_way" 991), (.str "_law_size" 992), (.str "_law_kept" 993), (.str "e" 994)] 0), #[]⟩) :: (nat_lit 625, ⟨(.type "tuple"), none, (.seq #[] 0), #[]⟩) :: (nat_lit 627, ⟨(.type "code"), none, (.fields #[(.str "_law_many_refused" 988), (.str "_law_many_refused" 989), (.str "/claim/cut.py" 990), (.int 377 0), (.int 2 0), (.int 0 0), (.int 0 0), (.int 3 0), (.ref 622), (.bool true), (.int 181 0), (.ref 623), .none, (.ref 624), (.ref 625), (.ref 626), (.int 995 0), (.int 377 0), (.str "/claim/cut.py" 996)]), #[]⟩) :: (nat_lit 628, ⟨(.type "function"), none, (.func (fnOf "_law_many_refused" "_law_many_refused" (defArgs (top 47)) (defBody (top 47)) (defScope (top 47)) .none .none .none (.str "law_countkin_k10_told_by_number" 828) none (.ref 627) .none)), #[]⟩) :: (nat_lit 629, ⟨(.type "tuple"), none, (.seq #[] 0), #[]⟩) :: (nat_lit 631, ⟨(.type "tuple"), none, (.seq #[(.str "_law_way" 1001), (.str "_law_thing" 1002), (.str "_law_kept" 1003), (.str "e" 1004)] 0), #[]⟩) :: (nat_lit 632, ⟨(.type "tuple"), none, (.seq #[] 0), #[]⟩) :: (nat_lit 634, ⟨(.type "code"), none, (.fields #[(.str "_law_number_refused" 998), (.str "_law_number_refused" 999), (.str "/claim/cut.py" 1000), (.int 384 0), (.int 2 0), (.int 0 0), (.int 0 0), (.int 3 0), (.ref 629), (.bool true), (.int 181 0), (.ref 630), .none, (.ref 631), (.ref 632), (.ref 633), (.int 1005 0), (.int 384 0), (.str "/claim/cut.py" 1006)]), #[]⟩) :: (nat_lit 635, ⟨(.type "function"), none, (.func (fnOf "_law_number_refused" "_law_number_refused" (defArgs (top 48)) (defBody (top 48)) (defScope (top 48)) .none .none .none (.str "law_countkin_k10_told_by_number" 828) none (.ref 634) .none)), #[]⟩) :: (nat_lit 636, ⟨(.type "tuple"), none, (.seq #[] 0), #[]⟩) :: (nat_lit 638, ⟨(.type "tuple"), none, (.seq #[(.str "_law_way" 1011), (.str "_law_thing" 1012), (.str "_law_kept" 1013), (.str "e" 1014)] 0), #[]⟩) :: (nat_lit 639, ⟨(.type "tuple"), none, (.seq #[] 0), #[]⟩) :: (nat_lit 641, ⟨(.type "code"), none, (.fields #[(.str "_law_next_refused" 1008), (.str "_law_next_refused" 1009), (.str "/claim/cut.py" 1010), (.int 391 0), (.int 2 0), (.int 0 0), (.int 0 0), (.int 3 0), (.ref 636), (.bool true), (.int 181 0), (.ref 637), .none, (.ref 638), (.ref 639), (.ref 640), (.int 1015 0), (.int 391 0), (.str "/claim/cut.py" 1016)]), #[]⟩) :: (nat_lit 642, ⟨(.type "function"), none, (.func (fnOf "_law_next_refused" "_law_next_refused" (defArgs (top 49)) (defBody (top 49)) (defScope (top 49)) .none .none .none (.str "law_countkin_k10_told_by_number" 828) none (.ref 641) .none)), #[]⟩) :: (nat_lit 643, ⟨(.type "tuple"), none, (.seq #[] 0), #[]⟩) :: (nat_lit 645, ⟨(.type "tuple"), none, (.seq #[(.str "_law_way" 1021), (.str "_law_size" 1022), (.str "_law_number" 1023)] 0), #[]⟩) :: (nat_lit 646, ⟨(.type "tuple"), none, (.seq #[] 0), #[]⟩) :: (nat_lit 648, ⟨(.type "code"), none, (.fields #[(.str "_law_sizes_refused" 1018), (.str "_law_sizes_refused" 1019), (.str "/claim/cut.py" 1020), (.int 398 0), (.int 3 0), (.int 0 0), (.int 0 0), (.int 3 0), (.ref 643), (.bool true), (.int 181 0), (.ref 644), .none, (.ref 645), (.ref 646), (.ref 647), (.int 1024 0), (.int 398 0), (.str "/claim/cut.py" 1025)]), #[]⟩) :: (nat_lit 649, ⟨(.type "function"), none, (.func (fnOf "_law_sizes_refused" "_law_sizes_refused" (defArgs (top 50)) (defBody (top 50)) (defScope (top 50)) .none .none .none (.str "law_countkin_k10_told_by_number" 828) none (.ref 648) .none)), #[]⟩) :: (nat_lit 650, ⟨(.type "tuple"), none, (.seq #[] 0), #[]⟩) :: (nat_lit 652, ⟨(.type "tuple"), none, (.seq #[(.str "_law_text" 1030), (.str "_law_cell" 1031), (.str "_law_number" 1032), (.str "_law_at" 1033), (.str "_law_other" 1034), (.str "_law_kind" 1035), (.str "_law_signs" 1036)] 0), #[]⟩) :: (nat_lit 653, ⟨(.type "tuple"), none, (.seq #[] 0), #[]⟩) :: (nat_lit 655, ⟨(.type "code"), none, (.fields #[(.str "_law_spoiled_text" 1027), (.str "_law_spoiled_text" 1028), (.str "/claim/cut.py" 1029), (.int 402 0), (.int 2 0), (.int 0 0), (.int 0 0), (.int 3 0), (.ref 650), (.bool true), (.int 181 0), (.ref 651), .none, (.ref 652), (.ref 653), (.ref 654), (.int 1037 0), (.int 402 0), (.str "/claim/cut.py" 1038)]), #[]⟩) :: (nat_lit 656, ⟨(.type "function"), none, (.func (fnOf "_law_spoiled_text" "_law_spoiled_text" (defArgs (top 51)) (defBody (top 51)) (defScope (top 51)) .none .none .none (.str "law_countkin_k10_told_by_number" 828) none (.ref 655) .none)), #[]⟩) :: (nat_lit 657, ⟨(.type "tuple"), none, (.seq #[] 0), #[]⟩) :: (nat_lit 659, ⟨(.type "tuple"), none, (.seq #[(.str "_law_way" 1043), (.str "_law_script" 1044), (.str "_law_size" 1045), (.str "_law_row" 1046), (.str "_law_far" 1047), (.str "_law_at" 1048), (.str "_law_thing" 1049)] 0), #[]⟩) :: (nat_lit 660, ⟨(.type "tuple"), none, (.seq #[] 0), #[]⟩) :: (nat_lit 662, ⟨(.type "code"), none, (.fields #[(.str "_law_no_thing" 1040), (.str "_law_no_thing" 1041), (.str "/claim/cut.py" 1042), (.int 417 0), (.int 2 0), (.int 0 0), (.int 0 0), (.int 3 0), (.ref 657), (.bool true), (.int 181 0), (.ref 658), .none, (.ref 659), (.ref 660), (.ref 661), (.int 1050 0), (.int 417 0), (.str "/claim/cut.py" 1051)]), #[]⟩) :: (nat_lit 663, ⟨(.type "function"), none, (.func (fnOf "_law_no_thing" "_law_no_thing" (defArgs (top 52)) (defBody (top 52)) (defScope (top 52)) .none .none .none (.str "law_countkin_k10_told_by_number" 828) none (.ref 662) .none)), #[]⟩) :: (nat_lit 664, ⟨(.type "tuple"), none, (.seq #[] 0), #[]⟩) :: (nat_lit 666, ⟨(.type "tuple"), none, (.seq #[(.str "_law_script" 1056), (.str "_law_way" 1057), (.str "_law_size" 1058), (.str "_law_far" 1059), (.str "_law_many" 1060), (.str "_law_kind" 1061), (.str "_law_number" 1062), (.str "_law_cell" 1063)] 0), #[]⟩) :: (nat_lit 667, ⟨(.type "tuple"), none, (.seq #[] 0), #[]⟩) :: (nat_lit 669, ⟨(.type "code"), none, (.fields #[(.str "law" 1053), (.str "law" 1054), (.str "/claim/cut.py" 1055), (.int 429 0), (.int 1 0), (.int 0 0), (.int 0 0), (.int 3 0), (.ref 664), (.bool true), (.int 181 0), (.ref 665), .none, (.ref 666), (.ref 667), (.ref 668), (.int 1064 0), (.int 429 0), (.str "/claim/cut.py" 1065)]), #[]⟩) :: (nat_lit 670, ⟨(.type "function"), none, (.func (fnOf "law" "law" (defArgs (top 53)) (defBody (top 53)) (defScope (top 53)) .none .none .none (.str "law_countkin_k10_told_by_number" 828) none (.ref 669) .none)), #[]⟩) :: []
noncomputable def hA : List Addr := (2 :: 3 :: 15 :: 18 :: 19 :: 20 :: 22 :: 23 :: 25 :: 26 :: 27 :: 34 :: 35 :: 36 :: 37 :: 40 :: 47 :: 48 :: 49 :: 52 :: 59 :: 60 :: 61 :: 64 :: 71 :: 72 :: 73 :: 76 :: 83 :: 84 :: 85 :: 88 :: 95 :: 96 :: 97 :: 100 :: 107 :: 108 :: 109 :: 112 :: 119 :: 120 :: 121 :: 124 :: 131 :: 132 :: 133 :: 136 :: 143 :: 145 :: 146 :: 148 :: 149 :: 150 :: 151 :: 152 :: 162 :: 164 :: 165 :: 167 :: 168 :: 169 :: 171 :: 172 :: 174 :: 175 :: 176 :: 178 :: 179 :: 181 :: 182 :: 183 :: 185 :: 186 :: 188 :: 189 :: 190 :: 192 :: 193 :: 195 :: 196 :: 197 :: 199 :: 200 :: 202 :: 203 :: 204 :: 206 :: 207 :: 209 :: 210 :: 211 :: 213 :: 214 :: 216 :: 217 :: 218 :: 220 :: 221 :: 223 :: 224 :: 225 :: 227 :: 228 :: 230 :: 231 :: 232 :: 234 :: 235 :: 237 :: 238 :: 239 :: 240 :: 241 :: 242 :: 243 :: 246 :: 253 :: 255 :: 256 :: 258 :: 259 :: 260 :: 262 :: 263 :: 265 :: 266 :: 267 :: 269 :: 270 :: 272 :: 273 :: 274 :: 276 :: 277 :: 279 :: 280 :: 281 :: 283 :: 284 :: 286 :: 287 :: 288 :: 290 :: 291 :: 293 :: 294 :: 295 :: 297 :: 298 :: 300 :: 301 :: 302 :: 305 :: 306 :: 307 :: 309 :: 310 :: 312 :: 313 :: 314 :: 315 :: 316 :: 319 :: 322 :: 323 :: 324 :: 326 :: 327 :: 329 :: 330 :: 331 :: 338 :: 340 :: 341 :: 343 :: 344 :: 345 :: 347 :: 348 :: 350 :: 351 :: 352 :: 354 :: 355 :: 357 :: 358 :: 359 :: 361 :: 362 :: 364 :: 365 :: 366 :: 368 :: 369 :: 371 :: 372 :: 373 :: 375 :: 376 :: 378 :: 379 :: 380 :: 381 :: 382 :: 385 :: 387 :: 388 :: 390 :: 391 :: 392 :: 399 :: 401 :: 402 :: 404 :: 405 :: 406 :: 408 :: 409 :: 411 :: 412 :: 413 :: 415 :: 416 :: 418 :: 419 :: 420 :: 422 :: 423 :: 425 :: 426 :: 427 :: 429 :: 430 :: 432 :: 433 :: 434 :: 436 :: 437 :: 439 :: 440 :: 441 :: 442 :: 443 :: 446 :: 448 :: 449 :: 451 :: 452 :: 453 :: 460 :: 462 :: 463 :: 465 :: 466 :: 467 :: 469 :: 470 :: 472 :: 473 :: 474 :: 476 :: 477 :: 479 :: 480 :: 481 :: 483 :: 484 :: 486 :: 487 :: 488 :: 490 :: 491 :: 493 :: 494 :: 495 :: 497 :: 498 :: 500 :: 501 :: 502 :: 503 :: 504 :: 507 :: 509 :: 510 :: 512 :: 513 :: 514 :: 516 :: 517 :: 519 :: 520 :: 521 :: 523 :: 524 :: 526 :: 527 :: 528 :: 530 :: 531 :: 533 :: 534 :: 535 :: 537 :: 538 :: 540 :: 541 :: 542 :: 545 :: 546 :: 547 :: 549 :: 550 :: 552 :: 553 :: 554 :: 556 :: 557 :: 559 :: 560 :: 561 :: 563 :: 564 :: 566 :: 567 :: 568 :: 570 :: 571 :: 573 :: 574 :: 575 :: 577 :: 578 :: 580 :: 581 :: 582 :: 585 :: 586 :: 587 :: 589 :: 590 :: 592 :: 593 :: 594 :: 596 :: 597 :: 599 :: 600 :: 601 :: 603 :: 604 :: 606 :: 607 :: 608 :: 610 :: 611 :: 613 :: 614 :: 615 :: 617 :: 618 :: 620 :: 621 :: 622 :: 624 :: 625 :: 627 :: 628 :: 629 :: 631 :: 632 :: 634 :: 635 :: 636 :: 638 :: 639 :: 641 :: 642 :: 643 :: 645 :: 646 :: 648 :: 649 :: 650 :: 652 :: 653 :: 655 :: 656 :: 657 :: 659 :: 660 :: 662 :: 663 :: 664 :: 666 :: 667 :: 669 :: 670 :: [])
noncomputable abbrev hX : Shared → Bool := (fun s => xlAt hQ [] s && recOk (RowW.records (OpenRow.toRowW (OpenLaw.row PySem.Challenge.rw_countkin_k10_told_by_number))) s)
theorem hKA : ∀ P : Params, hA = (hK P).map (·.1) := fun _ => by kernel_rfl
noncomputable abbrev hH : Hook := kHook hK hA hKA
noncomputable def hLook (P : Params) (s : Shared) := ((staticsOk (importedModules PySem.Challenge.pw_countkin_k10_told_by_number.main.body) (boot_heap P) s.heap && namesBound PySem.Challenge.pw_countkin_k10_told_by_number s.heap && gensDone s && laidKept (boot_heap P) s.heap), openSeen hQ hL (importedModules PySem.Challenge.pw_countkin_k10_told_by_number.main.body) hX true s, hA.map s.heap.get?)
noncomputable def hPreF (w : World) (os : OsState) := topGo treeTable PySem.Challenge.pw_countkin_k10_told_by_number w 11 (some (.ref 6)) 12 ⟨boot_heap w.params, Array.mk [], boot_drawn, boot_toks, os⟩ (topStub PySem.Challenge.pw_countkin_k10_told_by_number)
noncomputable def hPreG (w : World) (os : OsState) : Option (Shared × Thread) := some ((hS w os).abs, ⟨denote treeTable hC, hC, ⟨0, 0, 0, 0⟩, [topFrame ⟨0, 0, 0, 0⟩]⟩)
noncomputable def hBlkF (w : World) (os : OsState) := segRun treeTable PySem.Challenge.pw_countkin_k10_told_by_number w 11 (some (.ref 6)) 1 1 (hS w os).abs (blockOf hB hE hC ⟨0, 0, 0, 0⟩ [topFrame ⟨0, 0, 0, 0⟩])
noncomputable def hBlkG (w : World) (os : OsState) : Option (Flow × Shared × Code × Pos) := some (.next, (hS w os).abs, hC, ⟨0, 0, 0, 0⟩)
noncomputable def hRunF (w : World) (os : OsState) := (segRunT treeTable PySem.Challenge.pw_countkin_k10_told_by_number w 11 (some (.ref 6)) 1 5465 (hS w os) (piecesOf hB hE hC ⟨0, 0, 0, 0⟩ [topFrame ⟨0, 0, 0, 0⟩])).map (lookEnd treeTable PySem.Challenge.pw_countkin_k10_told_by_number w 11 (some (.ref 6)) ⟨0, 0, 0, 0⟩ hC 2 (hLook w.params))
noncomputable def hRunG (w : World) (_ : OsState) := some (Flow.next, hC, some (true, openGood hQ hL, (hK w.params).map fun p => some p.2))
noncomputable def hSizF (w : World) := ((boot_heap w.params).isNs mainGlobals && (Array.mk [] : Array GenState).size == 0, (boot_heap w.params).objs.size, (boot_heap w.params).nsMap mainGlobals "__annotations__")
noncomputable def hSizG (_ : World) : Bool × Nat × Option Value := (true, 11, (some (.ref 6)))
theorem hSeed : (fun _ _ _ _ _ _ _ _ => true) hPreF hPreG hBlkF hBlkG hRunF hRunG hSizF hSizG = true := by k_qdec
theorem hPre : hPreF = hPreG := Eq.trans PySem.W.Fast.te5317814654954331368 (Eq.trans (by kernel_rfl) (Eq.symm PySem.W.Fast.te14277440360295502494))
theorem hBlk : hBlkF = hBlkG := Eq.trans PySem.W.Fast.te2033988648308832629 (Eq.trans (by kernel_rfl) (Eq.symm PySem.W.Fast.te1798457917166677164))
theorem hRun : hRunF = hRunG := Eq.trans PySem.W.Fast.te6412348297585774662 (Eq.trans (by kernel_rfl) (Eq.symm PySem.W.Fast.te15447895654253735931))
theorem hSiz : hSizF = hSizG := Eq.trans PySem.W.Fast.te13693962943478796877 (by kernel_rfl)
theorem hLeft : LeftO PySem.Challenge.pw_countkin_k10_told_by_number hQ hL hX (Hook.obs hH) (Hook.val hH) 11054 :=
 left_whole (boot_open (by kernel_rfl) (by decide) (fun _ => by kernel_rfl)) (fun w => congrFun hSiz w)
  (fun w os => run_whole (b := hB) (env := hE) (L := hLook w.params) rfl (congrFun (congrFun hPre w) os) (congrFun (congrFun hBlk w) os) (congrFun (congrFun hRun w) os)) (by decide)
end Ck
open PySem PySem.W PyProof.Rows
set_option maxRecDepth 100000 in
set_option maxHeartbeats 0 in
theorem PySem.Challenge.cw_countkin_k10_told_by_number_holds : PySem.Challenge.rw_countkin_k10_told_by_number.Holds := by
 w_on; o_law
 refine holds_open (q := Ck.hQ) (loose := Ck.hL) (Xt := Ck.hX) (XP := XL Ck.hQ []) (Yf := Hook.obs (kHook Ck.hK Ck.hA Ck.hKA)) (Ya := Hook.val (kHook Ck.hK Ck.hA Ck.hKA)) (YP := Hook.says (kHook Ck.hK Ck.hA Ck.hKA)) (N := 11054) Ck.hLeft (Hook.of (kHook Ck.hK Ck.hA Ck.hKA)) (Hook.keeps (kHook Ck.hK Ck.hA Ck.hKA))
  (fun s e => xl_of s (Bool.and_eq_true_iff.mp e).1) XL.keeps (by rfl) (by rfl) (by rfl) (fun s e => recFacts_of (Bool.and_eq_true_iff.mp e).2) (by rfl) (by first | assumption | decide +kernel) (by decide +kernel) ⟨rfl, rfl, rfl, rfl, rfl, by decide +kernel⟩ ?hw ?hc
 case hw => w_witness2
 k_fill
 refine Ck.walk (l := PySem.Challenge.rw_countkin_k10_told_by_number) rfl rfl (fun w h Y => PySem.W.kIn_of Y) ?F
 case F =>
  intro w mg fa h KX G hmg
  refine' Ck.all_mk KX G hmg ?nc_Family ?nc_Brackets ?nc_Stairs ?nc_Twins ?nc_SplitFamily ?a_Brackets_many ?a_Stairs_many ?a_Twins_many ?a_Brackets_thing_of ?a_Stairs_thing_of ?a_Twins_thing_of ?a_Brackets_number_of ?a_Stairs_number_of ?a_Twins_number_of ?a_Brackets_next_of ?a_Stairs_next_of ?a_Twins_next_of ?a_Brackets_unchecked_thing ?a_Brackets_unchecked_many ?a_Brackets_thing_by_parts ?a_Brackets_bare ?a_Brackets_joined ?a_Stairs_unchecked_thing ?a_Stairs_unchecked_many ?a_Stairs_thing_by_parts ?a_Stairs_bare ?a_Stairs_joined ?a_Twins_unchecked_thing ?a_Twins_unchecked_many ?a_Twins_thing_by_parts ?a_Twins_bare ?a_Twins_joined ?a_Brackets_refuse_other ?a_Brackets_unchecked_number ?a_Brackets_is_one ?a_Brackets_number_by_parts ?a_Brackets_size_of ?a_Brackets_parted ?a_Stairs_refuse_other ?a_Stairs_unchecked_number ?a_Stairs_is_one ?a_Stairs_number_by_parts ?a_Stairs_size_of ?a_Stairs_parted ?a_Twins_refuse_other ?a_Twins_unchecked_number ?a_Twins_is_one ?a_Twins_number_by_parts ?a_Twins_size_of ?a_Twins_parted ?ai_Brackets ?ai_Stairs ?ai_Twins ?ch_SplitFamily___init___Brackets ?cg_SplitFamily___init___Brackets ?cr_SplitFamily___init___Brackets ?ch_Family___init___Brackets ?cg_Family___init___Brackets ?cr_Family___init___Brackets ?ch_SplitFamily___init___Stairs ?cg_SplitFamily___init___Stairs ?cr_SplitFamily___init___Stairs ?ch_Family___init___Stairs ?cg_Family___init___Stairs ?cr_Family___init___Stairs ?ch_SplitFamily___init___Twins ?cg_SplitFamily___init___Twins ?cr_SplitFamily___init___Twins ?ch_Family___init___Twins ?cg_Family___init___Twins ?cr_Family___init___Twins ?a1 ?l1 ?c1 ?k1 ?a2 ?l2 ?c2 ?k2 ?l3 ?c3 ?k3 ?i3 ?l4 ?c4 ?k4 ?i4 ?l5 ?c5 ?k5 ?i5 ?l6 ?c6 ?k6 ?i6 ?l7 ?c7 ?k7 ?i7 ?l8 ?c8 ?k8 ?i8 ?l9 ?c9 ?k9 ?i9 ?l10 ?c10 ?k10 ?i10 ?l11 ?c11 ?k11 ?i11 ?a12 ?l12 ?c12 ?k12 ?a13 ?l13 ?c13 ?k13 ?l14 ?c14 ?k14 ?i14 ?l15 ?c15 ?k15 ?i15 ?l16 ?c16 ?k16 ?i16 ?l17 ?c17 ?k17 ?i17 ?l18 ?c18 ?k18 ?i18 ?a19 ?l19 ?c19 ?k19 ?l20 ?c20 ?k20 ?i20 ?l21 ?c21 ?k21 ?i21 ?l22 ?c22 ?k22 ?i22 ?l23 ?c23 ?k23 ?i23 ?l24 ?c24 ?k24 ?i24 ?a25 ?l25 ?c25 ?k25 ?l26 ?c26 ?k26 ?i26 ?l27 ?c27 ?k27 ?i27 ?l28 ?c28 ?k28 ?i28 ?l29 ?c29 ?k29 ?i29 ?l30 ?c30 ?k30 ?i30 ?l31 ?c31 ?k31 ?i31 ?l32 ?c32 ?k32 ?i32 ?l33 ?c33 ?k33 ?i33 ?l34 ?c34 ?k34 ?i34 ?l35 ?c35 ?k35 ?i35 ?l36 ?c36 ?k36 ?i36 ?a37 ?l37 ?c37 ?k37 ?a38 ?l38 ?c38 ?k38 ?a39 ?l39 ?c39 ?k39 ?a40 ?l40 ?c40 ?k40 ?a41 ?l41 ?c41 ?k41 ?a42 ?l42 ?c42 ?k42 ?l43 ?c43 ?k43 ?i43 ?l44 ?c44 ?k44 ?i44 ?l45 ?c45 ?k45 ?i45 ?a46 ?l46 ?c46 ?k46 ?l47 ?c47 ?k47 ?i47 ?l48 ?c48 ?k48 ?i48 ?l49 ?c49 ?k49 ?i49 ?l50 ?c50 ?k50 ?i50 ?l51 ?c51 ?k51 ?i51 ?l52 ?c52 ?k52 ?i52 ?l53 ?c53 ?k53 ?i53 ?a54 ?l54 ?c54 ?k54 ?l55 ?c55 ?k55 ?i55 ?l56 ?c56 ?k56 ?i56 ?l57 ?c57 ?k57 ?i57 ?l58 ?c58 ?k58 ?i58 ?l59 ?c59 ?k59 ?i59 ?l60 ?c60 ?k60 ?i60 ?l61 ?c61 ?k61 ?i61 ?l62 ?c62 ?k62 ?i62 ?l63 ?c63 ?k63 ?i63 ?l64 ?c64 ?k64 ?i64 ?l65 ?c65 ?k65 ?i65 ?a66 ?l66 ?c66 ?k66 ?a67 ?l67 ?c67 ?k67 ?l68 ?c68 ?k68 ?i68 ?l69 ?c69 ?k69 ?i69 ?l70 ?c70 ?k70 ?i70 ?a71 ?l71 ?c71 ?k71 ?a72 ?l72 ?c72 ?k72 ?a73 ?l73 ?c73 ?k73 ?a74 ?l74 ?c74 ?k74 ?a75 ?l75 ?c75 ?k75 ?a76 ?l76 ?c76 ?k76 ?a77 ?l77 ?c77 ?k77 ?a78 ?l78 ?c78 ?k78 ?a79 ?l79 ?c79 ?k79 ?a80 ?l80 ?c80 ?k80 ?a81 ?l81 ?c81 ?k81 ?a82 ?l82 ?c82 ?k82 ?a83 ?l83 ?c83 ?k83 ?a84 ?l84 ?c84 ?k84 ?pg_Brackets ?hd_Brackets ?po_Brackets ?sa_Brackets ?pg_Stairs ?hd_Stairs ?po_Stairs ?sa_Stairs ?pg_Twins ?hd_Twins ?po_Twins ?sa_Twins ?mk_Brackets ?kc_Brackets ?mk_Stairs ?kc_Stairs ?mk_Twins ?kc_Twins ?na_Brackets_word ?na_Brackets_least ?na_Stairs_word ?na_Stairs_least ?na_Twins_word ?na_Twins_least ?ia_Brackets ?im_Brackets ?ia_Stairs ?im_Stairs ?ia_Twins ?im_Twins ?in_get ?in_tk ?ki_Brackets_Family ?ki_Stairs_Family ?ki_Twins_Family ?z_len ?z_range ?z_sum ?z_isinstance ?z_tuple ?z_int ?z_bool ?z_str ?z_list ?z_enumerate ?z_ValueError ?y_GREATEST_SIZE ?n_kin ?n_size ?n_number ?n_thing ?n_family ?n_way ?n_apart ?n_mark ?n_text ?n_broken ?t_err
  (case nc_Family => k_is)
  (case nc_Brackets => k_is)
  (case nc_Stairs => k_is)
  (case nc_Twins => k_is)
  (case nc_SplitFamily => k_is)
  (case a_Brackets_many => k_is)
  (case a_Stairs_many => k_is)
  (case a_Twins_many => k_is)
  (case a_Brackets_thing_of => k_is)
  (case a_Stairs_thing_of => k_is)
  (case a_Twins_thing_of => k_is)
  (case a_Brackets_number_of => k_is)
  (case a_Stairs_number_of => k_is)
  (case a_Twins_number_of => k_is)
  (case a_Brackets_next_of => k_is)
  (case a_Stairs_next_of => k_is)
  (case a_Twins_next_of => k_is)
  (case a_Brackets_unchecked_thing => k_is)
  (case a_Brackets_unchecked_many => k_is)
  (case a_Brackets_thing_by_parts => k_is)
  (case a_Brackets_bare => k_is)
  (case a_Brackets_joined => k_is)
  (case a_Stairs_unchecked_thing => k_is)
  (case a_Stairs_unchecked_many => k_is)
  (case a_Stairs_thing_by_parts => k_is)
  (case a_Stairs_bare => k_is)
  (case a_Stairs_joined => k_is)
  (case a_Twins_unchecked_thing => k_is)
  (case a_Twins_unchecked_many => k_is)
  (case a_Twins_thing_by_parts => k_is)
  (case a_Twins_bare => k_is)
  (case a_Twins_joined => k_is)
  (case a_Brackets_refuse_other => k_is)
  (case a_Brackets_unchecked_number => k_is)
  (case a_Brackets_is_one => k_is)
  (case a_Brackets_number_by_parts => k_is)
  (case a_Brackets_size_of => k_is)
  (case a_Brackets_parted => k_is)
  (case a_Stairs_refuse_other => k_is)
  (case a_Stairs_unchecked_number => k_is)
  (case a_Stairs_is_one => k_is)
  (case a_Stairs_number_by_parts => k_is)
  (case a_Stairs_size_of => k_is)
  (case a_Stairs_parted => k_is)
  (case a_Twins_refuse_other => k_is)
  (case a_Twins_unchecked_number => k_is)
  (case a_Twins_is_one => k_is)
  (case a_Twins_number_by_parts => k_is)
  (case a_Twins_size_of => k_is)
  (case a_Twins_parted => k_is)
  (case ai_Brackets => k_is)
  (case ai_Stairs => k_is)
  (case ai_Twins => k_is)
  (case ch_SplitFamily___init___Brackets => k_is)
  (case cg_SplitFamily___init___Brackets => k_is)
  (case cr_SplitFamily___init___Brackets => k_is)
  (case ch_Family___init___Brackets => k_is)
  (case cg_Family___init___Brackets => k_is)
  (case cr_Family___init___Brackets => k_is)
  (case ch_SplitFamily___init___Stairs => k_is)
  (case cg_SplitFamily___init___Stairs => k_is)
  (case cr_SplitFamily___init___Stairs => k_is)
  (case ch_Family___init___Stairs => k_is)
  (case cg_Family___init___Stairs => k_is)
  (case cr_Family___init___Stairs => k_is)
  (case ch_SplitFamily___init___Twins => k_is)
  (case cg_SplitFamily___init___Twins => k_is)
  (case cr_SplitFamily___init___Twins => k_is)
  (case ch_Family___init___Twins => k_is)
  (case cg_Family___init___Twins => k_is)
  (case cr_Family___init___Twins => k_is)
  (case a1 => k_is)
  (case l1 => k_is)
  (case c1 => k_is)
  (case k1 => k_is)
  (case a2 => k_is)
  (case l2 => k_is)
  (case c2 => k_is)
  (case k2 => k_is)
  (case l3 => k_is)
  (case c3 => k_is)
  (case k3 => k_is)
  (case i3 => k_is)
  (case l4 => k_is)
  (case c4 => k_is)
  (case k4 => k_is)
  (case i4 => k_is)
  (case l5 => k_is)
  (case c5 => k_is)
  (case k5 => k_is)
  (case i5 => k_is)
  (case l6 => k_is)
  (case c6 => k_is)
  (case k6 => k_is)
  (case i6 => k_is)
  (case l7 => k_is)
  (case c7 => k_is)
  (case k7 => k_is)
  (case i7 => k_is)
  (case l8 => k_is)
  (case c8 => k_is)
  (case k8 => k_is)
  (case i8 => k_is)
  (case l9 => k_is)
  (case c9 => k_is)
  (case k9 => k_is)
  (case i9 => k_is)
  (case l10 => k_is)
  (case c10 => k_is)
  (case k10 => k_is)
  (case i10 => k_is)
  (case l11 => k_is)
  (case c11 => k_is)
  (case k11 => k_is)
  (case i11 => k_is)
  (case a12 => k_is)
  (case l12 => k_is)
  (case c12 => k_is)
  (case k12 => k_is)
  (case a13 => k_is)
  (case l13 => k_is)
  (case c13 => k_is)
  (case k13 => k_is)
  (case l14 => k_is)
  (case c14 => k_is)
  (case k14 => k_is)
  (case i14 => k_is)
  (case l15 => k_is)
  (case c15 => k_is)
  (case k15 => k_is)
  (case i15 => k_is)
  (case l16 => k_is)
  (case c16 => k_is)
  (case k16 => k_is)
  (case i16 => k_is)
  (case l17 => k_is)
  (case c17 => k_is)
  (case k17 => k_is)
  (case i17 => k_is)
  (case l18 => k_is)
  (case c18 => k_is)
  (case k18 => k_is)
  (case i18 => k_is)
  (case a19 => k_is)
  (case l19 => k_is)
  (case c19 => k_is)
  (case k19 => k_is)
  (case l20 => k_is)
  (case c20 => k_is)
  (case k20 => k_is)
  (case i20 => k_is)
  (case l21 => k_is)
  (case c21 => k_is)
  (case k21 => k_is)
  (case i21 => k_is)
  (case l22 => k_is)
  (case c22 => k_is)
  (case k22 => k_is)
  (case i22 => k_is)
  (case l23 => k_is)
  (case c23 => k_is)
  (case k23 => k_is)
  (case i23 => k_is)
  (case l24 => k_is)
  (case c24 => k_is)
  (case k24 => k_is)
  (case i24 => k_is)
  (case a25 => k_is)
  (case l25 => k_is)
  (case c25 => k_is)
  (case k25 => k_is)
  (case l26 => k_is)
  (case c26 => k_is)
  (case k26 => k_is)
  (case i26 => k_is)
  (case l27 => k_is)
  (case c27 => k_is)
  (case k27 => k_is)
  (case i27 => k_is)
  (case l28 => k_is)
  (case c28 => k_is)
  (case k28 => k_is)
  (case i28 => k_is)
  (case l29 => k_is)
  (case c29 => k_is)
  (case k29 => k_is)
  (case i29 => k_is)
  (case l30 => k_is)
  (case c30 => k_is)
  (case k30 => k_is)
  (case i30 => k_is)
  (case l31 => k_is)
  (case c31 => k_is)
  (case k31 => k_is)
  (case i31 => k_is)
  (case l32 => k_is)
  (case c32 => k_is)
  (case k32 => k_is)
  (case i32 => k_is)
  (case l33 => k_is)
  (case c33 => k_is)
  (case k33 => k_is)
  (case i33 => k_is)
  (case l34 => k_is)
  (case c34 => k_is)
  (case k34 => k_is)
  (case i34 => k_is)
  (case l35 => k_is)
  (case c35 => k_is)
  (case k35 => k_is)
  (case i35 => k_is)
  (case l36 => k_is)
  (case c36 => k_is)
  (case k36 => k_is)
  (case i36 => k_is)
  (case a37 => k_is)
  (case l37 => k_is)
  (case c37 => k_is)
  (case k37 => k_is)
  (case a38 => k_is)
  (case l38 => k_is)
  (case c38 => k_is)
  (case k38 => k_is)
  (case a39 => k_is)
  (case l39 => k_is)
  (case c39 => k_is)
  (case k39 => k_is)
  (case a40 => k_is)
  (case l40 => k_is)
  (case c40 => k_is)
  (case k40 => k_is)
  (case a41 => k_is)
  (case l41 => k_is)
  (case c41 => k_is)
  (case k41 => k_is)
  (case a42 => k_is)
  (case l42 => k_is)
  (case c42 => k_is)
  (case k42 => k_is)
  (case l43 => k_is)
  (case c43 => k_is)
  (case k43 => k_is)
  (case i43 => k_is)
  (case l44 => k_is)
  (case c44 => k_is)
  (case k44 => k_is)
  (case i44 => k_is)
  (case l45 => k_is)
  (case c45 => k_is)
  (case k45 => k_is)
  (case i45 => k_is)
  (case a46 => k_is)
  (case l46 => k_is)
  (case c46 => k_is)
  (case k46 => k_is)
  (case l47 => k_is)
  (case c47 => k_is)
  (case k47 => k_is)
  (case i47 => k_is)
  (case l48 => k_is)
  (case c48 => k_is)
  (case k48 => k_is)
  (case i48 => k_is)
  (case l49 => k_is)
  (case c49 => k_is)
  (case k49 => k_is)
  (case i49 => k_is)
  (case l50 => k_is)
  (case c50 => k_is)
  (case k50 => k_is)
  (case i50 => k_is)
  (case l51 => k_is)
  (case c51 => k_is)
  (case k51 => k_is)
  (case i51 => k_is)
  (case l52 => k_is)
  (case c52 => k_is)
  (case k52 => k_is)
  (case i52 => k_is)
  (case l53 => k_is)
  (case c53 => k_is)
  (case k53 => k_is)
  (case i53 => k_is)
  (case a54 => k_is)
  (case l54 => k_is)
  (case c54 => k_is)
  (case k54 => k_is)
  (case l55 => k_is)
  (case c55 => k_is)
  (case k55 => k_is)
  (case i55 => k_is)
  (case l56 => k_is)
  (case c56 => k_is)
  (case k56 => k_is)
  (case i56 => k_is)
  (case l57 => k_is)
  (case c57 => k_is)
  (case k57 => k_is)
  (case i57 => k_is)
  (case l58 => k_is)
  (case c58 => k_is)
  (case k58 => k_is)
  (case i58 => k_is)
  (case l59 => k_is)
  (case c59 => k_is)
  (case k59 => k_is)
  (case i59 => k_is)
  (case l60 => k_is)
  (case c60 => k_is)
  (case k60 => k_is)
  (case i60 => k_is)
  (case l61 => k_is)
  (case c61 => k_is)
  (case k61 => k_is)
  (case i61 => k_is)
  (case l62 => k_is)
  (case c62 => k_is)
  (case k62 => k_is)
  (case i62 => k_is)
  (case l63 => k_is)
  (case c63 => k_is)
  (case k63 => k_is)
  (case i63 => k_is)
  (case l64 => k_is)
  (case c64 => k_is)
  (case k64 => k_is)
  (case i64 => k_is)
  (case l65 => k_is)
  (case c65 => k_is)
  (case k65 => k_is)
  (case i65 => k_is)
  (case a66 => k_is)
  (case l66 => k_is)
  (case c66 => k_is)
  (case k66 => k_is)
  (case a67 => k_is)
  (case l67 => k_is)
  (case c67 => k_is)
  (case k67 => k_is)
  (case l68 => k_is)
  (case c68 => k_is)
  (case k68 => k_is)
  (case i68 => k_is)
  (case l69 => k_is)
  (case c69 => k_is)
  (case k69 => k_is)
  (case i69 => k_is)
  (case l70 => k_is)
  (case c70 => k_is)
  (case k70 => k_is)
  (case i70 => k_is)
  (case a71 => k_is)
  (case l71 => k_is)
  (case c71 => k_is)
  (case k71 => k_is)
  (case a72 => k_is)
  (case l72 => k_is)
  (case c72 => k_is)
  (case k72 => k_is)
  (case a73 => k_is)
  (case l73 => k_is)
  (case c73 => k_is)
  (case k73 => k_is)
  (case a74 => k_is)
  (case l74 => k_is)
  (case c74 => k_is)
  (case k74 => k_is)
  (case a75 => k_is)
  (case l75 => k_is)
  (case c75 => k_is)
  (case k75 => k_is)
  (case a76 => k_is)
  (case l76 => k_is)
  (case c76 => k_is)
  (case k76 => k_is)
  (case a77 => k_is)
  (case l77 => k_is)
  (case c77 => k_is)
  (case k77 => k_is)
  (case a78 => k_is)
  (case l78 => k_is)
  (case c78 => k_is)
  (case k78 => k_is)
  (case a79 => k_is)
  (case l79 => k_is)
  (case c79 => k_is)
  (case k79 => k_is)
  (case a80 => k_is)
  (case l80 => k_is)
  (case c80 => k_is)
  (case k80 => k_is)
  (case a81 => k_is)
  (case l81 => k_is)
  (case c81 => k_is)
  (case k81 => k_is)
  (case a82 => k_is)
  (case l82 => k_is)
  (case c82 => k_is)
  (case k82 => k_is)
  (case a83 => k_is)
  (case l83 => k_is)
  (case c83 => k_is)
  (case k83 => k_is)
  (case a84 => k_is)
  (case l84 => k_is)
  (case c84 => k_is)
  (case k84 => k_is)
  (case pg_Brackets => k_is)
  (case hd_Brackets => k_is)
  (case po_Brackets => k_is)
  (case sa_Brackets => k_is)
  (case pg_Stairs => k_is)
  (case hd_Stairs => k_is)
  (case po_Stairs => k_is)
  (case sa_Stairs => k_is)
  (case pg_Twins => k_is)
  (case hd_Twins => k_is)
  (case po_Twins => k_is)
  (case sa_Twins => k_is)
  (case mk_Brackets => k_is)
  (case kc_Brackets => k_is)
  (case mk_Stairs => k_is)
  (case kc_Stairs => k_is)
  (case mk_Twins => k_is)
  (case kc_Twins => k_is)
  (case na_Brackets_word => k_is)
  (case na_Brackets_least => k_is)
  (case na_Stairs_word => k_is)
  (case na_Stairs_least => k_is)
  (case na_Twins_word => k_is)
  (case na_Twins_least => k_is)
  (case ia_Brackets => k_is)
  (case im_Brackets => k_is)
  (case ia_Stairs => k_is)
  (case im_Stairs => k_is)
  (case ia_Twins => k_is)
  (case im_Twins => k_is)
  (case in_get => k_is)
  (case in_tk => k_is)
  (case ki_Brackets_Family => kernel_rfl)
  (case ki_Stairs_Family => kernel_rfl)
  (case ki_Twins_Family => kernel_rfl)
  (case z_len => k_is)
  (case z_range => k_is)
  (case z_sum => k_is)
  (case z_isinstance => k_is)
  (case z_tuple => k_is)
  (case z_int => k_is)
  (case z_bool => k_is)
  (case z_str => k_is)
  (case z_list => k_is)
  (case z_enumerate => k_is)
  (case z_ValueError => k_is)
  (case y_GREATEST_SIZE => k_is)
  (case n_kin => k_is)
  (case n_size => k_is)
  (case n_number => k_is)
  (case n_thing => k_is)
  (case n_family => k_is)
  (case n_way => k_is)
  (case n_apart => k_is)
  (case n_mark => k_is)
  (case n_text => k_is)
  (case n_broken => k_is)
  (case t_err => kernel_rfl)
