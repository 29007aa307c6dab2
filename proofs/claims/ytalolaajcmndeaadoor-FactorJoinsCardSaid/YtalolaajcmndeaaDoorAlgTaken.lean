/- algebra's taken, once, orNone. -/
import Derived.Test.YtalolaajcmndeaaDoorAlgAdd
namespace Go.Proofs.YtalolaajcmndeaaDoor
open Go.RowKit Go.Sort
set_option linter.unusedSimpArgs false
set_option linter.unusedVariables false

theorem tk_mk {w : World} {B g n cap k : Nat} {a : Option Addr} {R rs : List Sg} (h1 : Own w B (.slice (some ⟨g, 0, none⟩) R.length cap) R) (h2 : R.length ≤ cap) (h3 : k ≤ R.length) (h4 : R.drop k = rs) (hn : n = rs.length) (ha : rs ≠ [] → a = some ⟨g, k * 2, none⟩) : Tk w B g (.slice a n (cap - k)) rs :=
  ⟨R, k, cap, a, h1, h2, h3, h4, by rw [hn], ha⟩
/-- n places of the first run are gone. -/
def less (m c n : Int) (rs : List Sg) : List Sg := if m = n then rs else (m - n, c) :: rs
theorem cs_set {R : List Sg} {k : Nat} {r : Sg} {x : Int} (h : R[k]? = some r) : (cs R).set (k * 2) (.int .i64 x) = cs (R.set k (x, r.2)) := by
  induction R generalizing k with
  | nil => simp at h
  | cons q R ih =>
    cases k with
    | zero => simp at h; subst h; simp [cs_cons]
    | succ k =>
      rw [cs_cons, List.set_cons_succ, cs_cons, show (k + 1) * 2 = k * 2 + 1 + 1 from by omega, List.set_cons_succ, List.set_cons_succ, ih (by simpa using h)]
theorem drop_set7 {α : Type} (R : List α) (k : Nat) (x y : α) (rs : List α) (h : R.drop k = x :: rs) : (R.set k y).drop k = y :: rs := by
  rw [List.drop_set, if_neg (by omega), Nat.sub_self, h]; rfl
theorem drop_succ7 {α : Type} (R : List α) (k : Nat) (x : α) (rs : List α) (h : R.drop k = x :: rs) : R.drop (k + 1) = rs := by
  rw [← List.drop_drop, h]; rfl
set_option maxHeartbeats 800000 in
set_option maxRecDepth 100000 in
theorem taken_any {w : World} {B g : Nat} {v : Value} {rs : List Sg} (m c n : Int) (h : Tk w B g v ((m, c) :: rs)) (hn : 1 ≤ n) (hnm : n ≤ m) (hm : m ≤ 1073741824) (hl : rs.length ≤ 1073741824) :
    Calls Tryd.prog 55 #[v, .int .i64 n] w fun e w' => ∃ v', e = .returned v' ∧ Tk w' B g v' (less m c n rs) ∧ w.grownBy w' (some g) := by
  obtain ⟨R, k, cap, a, h1, h2, h3, h4, rfl, h6⟩ := h
  obtain rfl := h6 (by simp)
  have hk : R[k]? = some (m, c) := by
    have := congrArg (fun l => l[0]?) h4
    simpa using this
  have hkl : k < R.length := (List.getElem?_eq_some_iff.1 hk).1
  have hlen : R.length = k + rs.length + 1 := by
    have := congrArg List.length h4
    simp at this
    omega
  have c0 : w.cell? ⟨g, k * 2, none⟩ = some (.int .i64 m) := by
    rw [World.ownsRow.cellAt h1 _ (by omega)]; exact (cs_get hk).1
  have fz := fun j => World.ownsRow.frozenAt h1 j
  obtain ⟨s1, s2⟩ := World.ownsRow.stored h1 (k * 2) (.int .i64 (m - n))
  rw [cs_set hk] at s1
  have HO : Hid (Own (w.setCell ⟨g, k * 2, none⟩ (.int .i64 (m - n))) B (.slice (some ⟨g, 0, none⟩) (R.set k (m - n, c)).length cap) (R.set k (m - n, c))) := by
    show Own _ _ _ _
    unfold Own
    rw [List.length_set]
    exact s1
  have HG := Hid.mk7 s2
  have H4 := Hid.mk7 (drop_set7 R k (m, c) (m - n, c) rs h4)
  have H5 := Hid.mk7 (drop_succ7 _ k (m - n, c) rs H4.out)
  have HL : Hid ((R.set k (m - n, c)).length = R.length) := by show _ = _; simp
  have hcl : rs.length + 1 ≤ cap - k := by omega
  have hck : cap - k - 1 = cap - (k + 1) := by omega
  clear h1 s1 s2 hk h4 h6
  rw [List.length_cons]
  obtain ⟨N, hN⟩ : ∃ N, N = rs.length + 1 := ⟨_, rfl⟩
  have HN := Hid.mk7 hN
  rw [← hN] at hcl ⊢
  have hp : 0 < N := by omega
  have hp2 : N ≤ 1073741825 := by omega
  clear hN
  by_cases he : m = n
  · subst he
    unfold less
    rw [if_pos rfl]
    rw [Int.sub_self] at HO HG H4 H5 HL
    go_enter Tryd.func55, Tryd.ntmps55
    go_wp2
    · go_ret
      have hN := HN.out
      refine ⟨_, rfl, tk_mk (k := k + 1) HO.out ?_ ?_ H5.out ?_ ?_, HG.out⟩
      · rw [HL.out]; exact h2
      · rw [HL.out]; omega
      · rw [hN]; rfl
      · intro hne
        cases rs with
        | nil => exact absurd rfl hne
        | cons r rs => simp only [List.length_cons] at hN; omega
    · go_ret
      have hN := HN.out
      refine ⟨_, rfl, tk_mk (k := k + 1) HO.out ?_ ?_ H5.out ?_ ?_, HG.out⟩
      · rw [HL.out]; exact h2
      · rw [HL.out]; omega
      · rw [hN]; rfl
      · intro _
        rw [show (k + 1) * 2 = k * 2 + 2 from by omega]
  · unfold less
    rw [if_neg he]
    have d2 : (m - n == 0) = false := by simp; omega
    go_enter Tryd.func55, Tryd.ntmps55
    go_wp2
    go_ret
    have hN := HN.out
    refine ⟨_, rfl, tk_mk (k := k) HO.out ?_ ?_ H4.out ?_ ?_, HG.out⟩
    · rw [HL.out]; exact h2
    · rw [HL.out]; omega
    · rw [hN]; rfl
    · intro _; rfl
set_option maxHeartbeats 400000 in
theorem orNone_any {w : World} {p : Value} {L : List Int} (h : Sub w p L) : Calls Tryd.prog 54 #[p] w fun e w' => e = .returned p ∧ w' = w := by
  obtain ⟨b, v, rfl, _, _⟩ := h
  go_enter Tryd.func54, Tryd.ntmps54
  go_wp2
  go_ret
  exact ⟨rfl, rfl⟩
end Go.Proofs.YtalolaajcmndeaaDoor
