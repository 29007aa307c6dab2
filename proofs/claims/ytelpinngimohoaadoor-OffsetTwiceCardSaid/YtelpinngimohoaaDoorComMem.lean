/- Rows of elements, of changes of one's own; slices.Clone of elements (layer 13; like FacIns, FacChg, FacJoinN). -/
import Derived.Test.YtelpinngimohoaaDoorComThr
import Derived.Test.YtelpinngimohoaaDoorDelKeep
namespace Go.Proofs.YtelpinngimohoaaDoor
open Go.RowKit Go.Sort
set_option linter.unusedSimpArgs false
set_option linter.unusedVariables false

theorem drop_set7 {α : Type} (R : List α) (k : Nat) (x y : α) (rs : List α) (h : R.drop k = x :: rs) : (R.set k y).drop k = y :: rs := by
  rw [List.drop_set, if_neg (by omega), Nat.sub_self, h]; rfl
theorem drop_succ7 {α : Type} (R : List α) (k : Nat) (x : α) (rs : List α) (h : R.drop k = x :: rs) : R.drop (k + 1) = rs := by
  rw [← List.drop_drop, h]; rfl
theorem own_empty7 (w : World) (B : Nat) (e : TypeId) (size : Nat) (hB : B ≤ w.heap.size) : (w.alloc (.cells #[] e)).ownsRow B e size (.slice (some ⟨w.heap.size, 0, none⟩) 0 0) 0 [] :=
  ⟨by simp, Or.inr ⟨w.heap.size, 0, #[], rfl, hB, heap_alloc_new w _, Nat.le_refl _, by decide, by simp, by simp⟩⟩
theorem Tab.nuF {w : World} {tb : Nat × Nat} (h : Tab w tb) (o : Obj) : Tab (w.alloc o) tb := h.later ((Below.refl _ _).alloc (Nat.le_refl _) o)
/-- What is left of a row of elements of one's own; the block is g. -/
def Xk (w : World) (B g : Nat) (v : Value) (es : List El) : Prop :=
  ∃ R k cap a, OwnE w B (.slice (some ⟨g, 0, none⟩) R.length cap) R ∧ R.length ≤ cap ∧ k ≤ R.length ∧ R.drop k = es ∧ v = .slice a es.length (cap - k) ∧ (es ≠ [] → a = some ⟨g, k * 3, none⟩)
theorem Xk.shape {w : World} {B g : Nat} {v : Value} {es : List El} (h : Xk w B g v es) : ∃ a cap, v = .slice a es.length cap := by
  obtain ⟨R, k, cap, a, _, _, _, _, e, _⟩ := h
  exact ⟨_, _, e⟩
theorem Xk.kept {w w' : World} {B g : Nat} {v : Value} {es : List El} (h : Xk w B g v es) {row : Option Nat} (hg : w.grownBy w' row) (hne : some g ≠ row) : Xk w' B g v es := by
  obtain ⟨R, k, cap, a, h1, h2⟩ := h
  exact ⟨R, k, cap, a, World.ownsRow.kept h1 hg (Or.inr hne), h2⟩
theorem Xk.lt {w : World} {B g : Nat} {v : Value} {es : List El} (h : Xk w B g v es) : B ≤ g ∧ g < w.heap.size := by
  obtain ⟨R, k, cap, a, h1, h2⟩ := h
  exact h1.lt rfl
theorem Xk.cells {w : World} {B g : Nat} {a : Option Addr} {n cap : Nat} {r : El} {es : List El} (h : Xk w B g (.slice a n cap) (r :: es)) : ∃ off, a = some ⟨g, off, none⟩ ∧ n = es.length + 1 ∧ 1 ≤ cap ∧ n ≤ cap ∧ w.cell? ⟨g, off, none⟩ = some (.int .i64 r.1) ∧ w.cell? ⟨g, off + 1, none⟩ = some (.int .i64 r.2.1) ∧ w.cell? ⟨g, off + 2, none⟩ = some (.string (cacc r.2.2)) := by
  obtain ⟨R, k, cap, a, h1, h2, h3, h4, h5, h6⟩ := h
  cases h5
  have hk : R[k]? = some r := by
    have := congrArg (fun l => l[0]?) h4
    simpa using this
  have hkl : k < R.length := (List.getElem?_eq_some_iff.1 hk).1
  have hlen : R.length = k + es.length + 1 := by
    have := congrArg List.length h4
    simp at this
    omega
  refine ⟨k * 3, h6 (by simp), by simp, by omega, by simp; omega, ?_, ?_, ?_⟩
  · rw [World.ownsRow.cellAt h1 _ (by omega)]; exact (c3_get hk).1
  · rw [World.ownsRow.cellAt h1 _ (by omega)]; exact (c3_get hk).2.1
  · rw [World.ownsRow.cellAt h1 _ (by omega)]; exact (c3_get hk).2.2
/-- The rest behind the first one. -/
theorem Xk.tail {w : World} {B g cap n : Nat} {off : Nat} {r : El} {es : List El} (h : Xk w B g (.slice (some ⟨g, off, none⟩) n cap) (r :: es)) {a' : Option Addr} {n' cap' : Nat} (hn : n' = es.length) (hc : cap' = cap - 1) (ha : es ≠ [] → a' = some ⟨g, off + 3, none⟩) : Xk w B g (.slice a' n' cap') es := by
  obtain ⟨R, k, cap0, a, h1, h2, h3, h4, h5, h6⟩ := h
  have h6 := h6 (by simp)
  cases h5
  cases h6
  have hlen : R.length = k + es.length + 1 := by
    have := congrArg List.length h4
    simp at this
    omega
  refine ⟨R, k + 1, cap0, a', h1, h2, by omega, drop_succ7 _ _ _ _ h4, ?_, ?_⟩
  · rw [hn, hc]; congr 1
  · intro hne; rw [ha hne]; congr 2; omega
theorem xk_mk {w : World} {B g n cap k : Nat} {a : Option Addr} {R es : List El} (h1 : OwnE w B (.slice (some ⟨g, 0, none⟩) R.length cap) R) (h2 : R.length ≤ cap) (h3 : k ≤ R.length) (h4 : R.drop k = es) (hn : n = es.length) (ha : es ≠ [] → a = some ⟨g, k * 3, none⟩) : Xk w B g (.slice a n (cap - k)) es :=
  ⟨R, k, cap, a, h1, h2, h3, h4, by rw [hn], ha⟩
/-- A row of changes of one's own. -/
def OwnC (w : World) (B : Nat) (v : Value) (es : List El) : Prop := w.ownsRow B 38 3 v es.length (c3 es)
theorem Tryd.info_ch : (Tryd.prog.info? 38).map (fun i => (i.zero, i.size, i.bytes)) = some (some (.agg #[.int .i64 0, .int .i64 0, .string ⟨#[]⟩]), 3, 32) := by kernel_rfl
theorem OwnC.row {w : World} {B : Nat} {v : Value} {es : List El} (h : OwnC w B v es) : ElAt w v es := by
  rcases h.2 with ⟨h1, h2⟩ | ⟨g, cap, cur, h1, _, h3, h4, _⟩
  · obtain rfl : es = [] := List.eq_nil_of_length_eq_zero h2
    rw [h1]; exact ElAt.nil w
  · refine ⟨some ⟨g, 0, none⟩, cap, h1, h4, (fun e => by cases e), fun i r hr => ⟨g, 0, rfl, ?_⟩⟩
    have hg := World.ownsRow.cells h (g := g) (by rw [h1]; rfl)
    obtain ⟨e1, e2, e3⟩ := c3_get hr
    have q1 := hg _ _ e1
    have q2 := hg _ _ e2
    have q3 := hg _ _ e3
    rw [addr_add7] at q1 q2 q3
    rw [Nat.zero_add] at *
    exact ⟨q1, q2, q3⟩
theorem OwnC.nil (w : World) (B : Nat) : OwnC w B (.slice none 0 0) [] := World.ownsRow_nil _ _ _ _
theorem OwnC.alloc {w : World} {B : Nat} {v : Value} {es : List El} (h : OwnC w B v es) (o : Obj) : OwnC (w.alloc o) B v es := World.ownsRow.alloc h o
theorem OwnC.lt {w : World} {B : Nat} {v : Value} {es : List El} (h : OwnC w B v es) {g : Nat} (hg : v.ownBlock = some g) : B ≤ g ∧ g < w.heap.size := World.ownsRow.lt h g hg
theorem OwnC.kept {w w' : World} {row : Option Nat} {B : Nat} {v : Value} {es : List El} (h : OwnC w B v es) (hg : w.grownBy w' row) (hne : v.ownBlock = none ∨ v.ownBlock ≠ row) : OwnC w' B v es := World.ownsRow.kept h hg hne
theorem OwnC.later {w w' : World} {B : Nat} {v : Value} {es : List El} (h : OwnC w B v es) (hb : Below w.heap.size w w') : OwnC w' B v es := by
  refine World.ownsRow.kept (row := none) h (grown_below hb none) ?_
  cases hv : v.ownBlock <;> simp
theorem own_shapeC {w : World} {B : Nat} {v : Value} {es : List El} (h : OwnC w B v es) : ∃ a cap, v = .slice a es.length cap ∧ es.length ≤ cap := by
  rcases h.2 with ⟨h1, h2⟩ | ⟨g, cap, cur, h1, _, _, h4, _⟩
  · exact ⟨none, 0, by rw [h1, h2], by omega⟩
  · exact ⟨_, _, h1, h4⟩
/-- What is left of a row of elements, or nothing. -/
def Xl (w : World) (B g : Nat) (v : Value) (xs : List El) : Prop := (xs ≠ [] → Xk w B g v xs) ∧ (xs = [] → ∃ a cap, v = .slice a 0 cap)
theorem Xl.kept {w w' : World} {B g : Nat} {v : Value} {xs : List El} (h : Xl w B g v xs) {row : Option Nat} (hg : w.grownBy w' row) (hne : some g ≠ row) : Xl w' B g v xs :=
  ⟨fun e => (h.1 e).kept hg hne, h.2⟩
theorem xl_of {w : World} {B g : Nat} {v : Value} {xs : List El} (h : Xk w B g v xs) : Xl w B g v xs :=
  ⟨fun _ => h, fun e => by obtain ⟨a, cap, e2⟩ := h.shape; subst e; exact ⟨a, cap, e2⟩⟩
theorem c3_cells {w : World} {g off : Nat} {es : List El} (h : ∀ i e, es[i]? = some e → w.cell? ⟨g, off + i * 3, none⟩ = some (.int .i64 e.1) ∧ w.cell? ⟨g, off + i * 3 + 1, none⟩ = some (.int .i64 e.2.1) ∧ w.cell? ⟨g, off + i * 3 + 2, none⟩ = some (.string (cacc e.2.2))) :
    ∀ j u, (c3 es)[j]? = some u → w.cell? ((⟨g, off, none⟩ : Addr).add j) = some u := by
  intro j u hu
  rw [addr_add7]
  have hj : j < (c3 es).length := (List.getElem?_eq_some_iff.1 hu).1
  rw [c3_length] at hj
  have hi : j / 3 < es.length := by omega
  obtain ⟨e1, e2, e3⟩ := c3_get (List.getElem?_eq_getElem hi)
  obtain ⟨f1, f2, f3⟩ := h _ _ (List.getElem?_eq_getElem hi)
  rcases (show j % 3 = 0 ∨ j % 3 = 1 ∨ j % 3 = 2 from by omega) with hm | hm | hm
  · have : j / 3 * 3 = j := by omega
    rw [this] at e1 f1
    rw [f1, ← e1, hu]
  · have : j / 3 * 3 + 1 = j := by omega
    rw [this] at e2
    rw [Nat.add_assoc, this] at f2
    rw [f2, ← e2, hu]
  · have : j / 3 * 3 + 2 = j := by omega
    rw [this] at e3
    rw [Nat.add_assoc, this] at f3
    rw [f3, ← e3, hu]
set_option maxHeartbeats 800000 in
set_option maxRecDepth 100000 in
theorem eclone_any {w : World} {v : Value} {es : List El} (h : ElAt w v es) (hl : es.length ≤ 1000000) :
    Calls Tryd.prog 33 #[v] w fun e w' => ∃ v', e = .returned v' ∧ OwnE w' w.heap.size v' es ∧ Below w.heap.size w w' := by
  obtain ⟨i0, hi, hz0, hz1, hz2⟩ := info_parts Tryd.info_el
  obtain ⟨a, cap, rfl, hcap, hnone, hcells⟩ := h
  cases a with
  | none =>
    obtain rfl : es = [] := by
      cases es with
      | nil => rfl
      | cons r rs => obtain ⟨_, _, e, _⟩ := hcells 0 r rfl; cases e
    obtain rfl := hnone rfl
    have hnn : ∀ w : World, (binOp .eql 22 (.slice none 0 0) (.slice none 0 0)).run Tryd.prog w = .ok (.bool true) w := fun _ => by kernel_rfl
    clear hcells hnone
    go_enter Tryd.func33, Tryd.ntmps33
    go_wp2
    go_ret
    exact ⟨_, rfl, OwnE.nil _ _, Below.refl _ _⟩
  | some ad =>
    have HC : Hid (∀ j u, (c3 es)[j]? = some u → w.cell? (ad.add j) = some u) := by
      intro j u hu
      cases hrs : es with
      | nil => rw [hrs] at hu; simp [c3] at hu
      | cons r0 rt =>
        obtain ⟨g, off, e, _⟩ := hcells 0 r0 (by rw [hrs]; rfl)
        cases e
        refine c3_cells (fun i r hr => ?_) j u hu
        obtain ⟨g', off', e', h1, h2⟩ := hcells i r hr
        cases e'
        exact ⟨h1, h2⟩
    have hnn : ∀ w : World, (binOp .eql 22 (.slice (some ad) es.length cap) (.slice none 0 0)).run Tryd.prog w = .ok (.bool false) w := fun _ => by kernel_rfl
    have b0 : Below w.heap.size w (w.alloc (Obj.cells #[] 51)) := (Below.refl _ _).alloc (Nat.le_refl _) _
    clear hcells hnone
    go_enter Tryd.func33, Tryd.ntmps33
    go_wp2_with (at_builtin; refine wpList_append_own _ rfl _ _ 22 rfl w.heap.size 51 i0 (.agg #[.int .i64 0, .int .i64 0, .string ⟨#[]⟩]) 3 32 Tryd.underlying22 hi hz0 hz1 hz2 rfl (by decide) _ _ _ rfl (own_empty7 w w.heap.size 51 3 (Nat.le_refl _)) ad es.length cap (c3 es) rfl (c3_length es) ?c1 c3_oneCell ?c3 ?c4 ?c5 ?_)
    case c1 => exact fun j u hu => cell_later7 b0 (Nat.le_refl _) (HC.out j u hu)
    case c3 => unfold maxLen; omega
    case c4 => omega
    case c5 => simp
    intro v' w2 hown' hgrow _
    have hown2 : OwnE w2 w.heap.size v' es := by unfold OwnE; simpa using hown'
    have hb3 : Below w.heap.size w w2 := b0.grown hgrow (by simp) (fun k hk => by simp [Value.ownBlock] at hk; omega)
    clear hown' hgrow HC b0
    go_wp2
    go_ret
    exact ⟨v', rfl, hown2, hb3⟩
/-- A copy of elements, to be gone through: block 1, if there are none. -/
theorem eclone_xl {w : World} {v : Value} {es : List El} (h : ElAt w v es) (hl : es.length ≤ 1000000) (h2 : 1 < w.heap.size) :
    Calls Tryd.prog 33 #[v] w fun e w' => ∃ v' g, e = .returned v' ∧ Xl w' w.heap.size g v' es ∧ g < w'.heap.size ∧ (g = 1 ∨ w.heap.size ≤ g) ∧ Below w.heap.size w w' := by
  refine (eclone_any h hl).mono ?_
  rintro e w' ⟨v', rfl, o, b⟩
  obtain ⟨a, cap, rfl, hc, hg⟩ := own_shapeE o
  by_cases hE : es = []
  · subst hE
    exact ⟨_, 1, rfl, ⟨fun h => absurd rfl h, fun _ => ⟨a, cap, rfl⟩⟩, Nat.lt_of_lt_of_le h2 b.size, Or.inl rfl, b⟩
  · obtain ⟨g, rfl⟩ := hg hE
    have t : Xk w' w.heap.size g (.slice (some ⟨g, 0, none⟩) es.length cap) es := ⟨es, 0, cap, _, o, hc, Nat.zero_le _, rfl, rfl, fun _ => rfl⟩
    exact ⟨_, g, rfl, xl_of t, t.lt.2, Or.inr t.lt.1, b⟩
theorem Rd.otherF {w : World} {g g' : Nat} {x y : Value} (h : Rd w g x y) (hne : g ≠ g') (a b : Value) : Rd ((w.setCell ⟨g', 0, none⟩ a).setCell ⟨g', 1, none⟩ b) g x y := by
  unfold Rd; rw [heap_setCell_other _ _ _ _ hne, heap_setCell_other _ _ _ _ hne]; exact h
theorem Re.set3 {w : World} {g : Nat} {x y z : Value} (h : Re w g x y z) (x' y' z' : Value) : Re (((w.setCell ⟨g, 0, none⟩ x').setCell ⟨g, 1, none⟩ y').setCell ⟨g, 2, none⟩ z') g x' y' z' := by
  have e0 := heap_setCell_same w g 0 _ _ x' h
  have e1 := heap_setCell_same _ g 1 _ _ y' e0
  have e2 := heap_setCell_same _ g 2 _ _ z' e1
  unfold Re
  rw [e2]
  simp
theorem Re.fz {w : World} {g : Nat} {x y z : Value} (h : Re w g x y z) (j : Nat) : w.frozen? ⟨g, j, none⟩ = false := frozen_of_row w g j _ _ h
theorem results_el {fn : Func} {p : Tmp} (h : fn.results = #[.cell p 51]) (tmps : Array Value) (w : World) (g : Nat) (x y z : Value)
    (hp : tmps.getD p undef = .pointer (some ⟨g, 0, none⟩)) (hg : Re w g x y z) : (results fn tmps).run Tryd.prog w = .ok (.agg #[x, y, z]) w :=
  results_cell_row h tmps w g _ _ _ _ hp hg Tryd.underlying51 rfl (by kernel_rfl)
/-- A whole element stored. -/
theorem c3_set3 {R : List El} {k : Nat} {r e : El} (h : R[k]? = some r) : (((c3 R).set (k * 3) (.int .i64 e.1)).set (k * 3 + 1) (.int .i64 e.2.1)).set (k * 3 + 2) (.string (cacc e.2.2)) = c3 (R.set k e) := by
  induction R generalizing k with
  | nil => simp at h
  | cons q R ih =>
    cases k with
    | zero => simp [c3_cons]
    | succ k =>
      rw [c3_cons, List.set_cons_succ, c3_cons, show (k + 1) * 3 = k * 3 + 1 + 1 + 1 from by omega]
      have := ih (k := k) (by simpa using h)
      simp only [List.set_cons_succ]
      rw [← this]
theorem OwnE.set3 {w : World} {B g cap : Nat} {R : List El} {k : Nat} {r e : El} (h : OwnE w B (.slice (some ⟨g, 0, none⟩) R.length cap) R) (hk : R[k]? = some r) :
    OwnE (((w.setCell ⟨g, k * 3, none⟩ (.int .i64 e.1)).setCell ⟨g, k * 3 + 1, none⟩ (.int .i64 e.2.1)).setCell ⟨g, k * 3 + 2, none⟩ (.string (cacc e.2.2))) B (.slice (some ⟨g, 0, none⟩) (R.set k e).length cap) (R.set k e) ∧
    w.grownBy (((w.setCell ⟨g, k * 3, none⟩ (.int .i64 e.1)).setCell ⟨g, k * 3 + 1, none⟩ (.int .i64 e.2.1)).setCell ⟨g, k * 3 + 2, none⟩ (.string (cacc e.2.2))) (some g) := by
  obtain ⟨a1, a2⟩ := World.ownsRow.stored h (k * 3) (.int .i64 e.1)
  obtain ⟨b1, b2⟩ := World.ownsRow.stored a1 (k * 3 + 1) (.int .i64 e.2.1)
  obtain ⟨d1, d2⟩ := World.ownsRow.stored b1 (k * 3 + 2) (.string (cacc e.2.2))
  rw [c3_set3 hk] at d1
  refine ⟨?_, grown_trans a2 (grown_trans b2 d2)⟩
  unfold OwnE
  rw [List.length_set]
  exact d1
end Go.Proofs.YtelpinngimohoaaDoor
