/- algebra's add, taken, once, orNone. -/
import Derived.Test.YtalolaajcmndeaaDoorSubWithO
namespace Go.Proofs.YtalolaajcmndeaaDoor
open Go.RowKit Go.Sort
set_option linter.unusedSimpArgs false
set_option linter.unusedVariables false

set_option maxHeartbeats 400000 in
set_option maxRecDepth 100000 in
theorem aadd_same_calls (B : Nat) (v : Value) (rs : List Sg) (m n c : Int) (w : World) (hm : 0 ≤ m) (hm2 : m ≤ 1099511627776) (hn : 1 ≤ n) (hn2 : n ≤ 1099511627776) (hl : rs.length ≤ 1099511627776) (hown : Own w B v (rs ++ [(m, c)])) :
    Calls Tryd.prog 56 #[v, .int .i64 n, .int .i64 c] w fun e w' => e = .returned v ∧ Own w' B v (rs ++ [(m + n, c)]) ∧ w.grownBy w' v.ownBlock := by
  have hlen : (rs ++ [(m, c)]).length = rs.length + 1 := by simp
  obtain ⟨a, cap, rfl, hcap, hg⟩ := own_shape hown
  obtain ⟨g, rfl⟩ := hg (by simp)
  rw [hlen] at hcap
  have hO : w.ownsRow B 79 2 (.slice (some ⟨g, 0, none⟩) (rs.length + 1) cap) (rs.length + 1) (cs (rs ++ [(m, c)])) := by
    have := hown
    unfold Own at this
    rw [hlen] at this
    exact this
  rw [hlen]
  have hget : (rs ++ [(m, c)])[rs.length]? = some (m, c) := by simp
  have c0 : w.cell? ⟨g, rs.length * 2, none⟩ = some (.int .i64 m) := by
    rw [hO.cellAt _ (by omega)]; exact (cs_get hget).1
  have c1 : w.cell? ⟨g, rs.length * 2 + 1, none⟩ = some (.int .i64 c) := by
    rw [hO.cellAt _ (by omega)]; exact (cs_get hget).2
  have fz := fun j => hO.frozenAt j
  have HO := Hid.mk7 hO
  clear hown hO hlen hget hg
  go_enter Tryd.func56, Tryd.ntmps56
  go_wp2
  obtain ⟨h1, h2⟩ := HO.out.stored (rs.length * 2) (.int .i64 (m + n))
  have e : (cs (rs ++ [(m, c)])).set (rs.length * 2) (.int .i64 (m + n)) = cs (rs ++ [(m + n, c)]) := by
    rw [cs_append, cs_append, List.set_append_right _ _ (by rw [cs_length]; omega), cs_length, cs_one, cs_one]
    simp
  rw [e] at h1
  go_ret
  refine ⟨rfl, ?_, h2⟩
  unfold Own
  rw [List.length_append]
  exact h1
set_option maxHeartbeats 400000 in
set_option maxRecDepth 100000 in
theorem aadd_push_nil (B : Nat) (v : Value) (n c : Int) (w : World) (hB : B ≤ w.heap.size) (hn : 1 ≤ n) (hown : Own w B v []) :
    Calls Tryd.prog 56 #[v, .int .i64 n, .int .i64 c] w fun e w' => ∃ v', e = .returned v' ∧ Own w' B v' [(n, c)] ∧ w.grownBy w' v.ownBlock := by
  obtain ⟨i0, hi, hz0, hz1, hz2⟩ := info_parts Tryd.info_seg
  obtain ⟨a, cap, rfl, _, _⟩ := own_shape hown
  have HO2 : Hid (w.ownsRow B 79 2 (.slice a 0 cap) 0 []) := hown
  clear hown
  go_enter Tryd.func56, Tryd.ntmps56
  go_wp2_with (at_builtin; refine wpList_append_own _ rfl _ _ 46 rfl B 79 i0 (.agg #[.int .i64 0, .int .i64 0]) 2 16 Tryd.underlying46 hi hz0 hz1 hz2 rfl (by decide) _ _ _ rfl (World.ownsRow.alloc HO2.out _) ⟨_, 0, none⟩ 1 1 [.int .i64 n, .int .i64 c] rfl rfl (two_new7 _ _ _ _) (fun u hu => by simp at hu; rcases hu with rfl | rfl <;> rfl) (by decide) (by decide) (by simp; omega) ?_)
  intro v' w3 hown' hgrow _
  go_wp2
  go_ret
  exact ⟨v', rfl, hown', grown_trans (World.grownBy_alloc _ _ _) hgrow⟩
set_option maxHeartbeats 400000 in
set_option maxRecDepth 100000 in
theorem aadd_push_cons (B : Nat) (v : Value) (rs : List Sg) (m d n c : Int) (w : World) (hB : B ≤ w.heap.size) (hl : rs.length ≤ 1099511627776) (hn : 1 ≤ n) (hdc : d ≠ c) (hown : Own w B v (rs ++ [(m, d)])) :
    Calls Tryd.prog 56 #[v, .int .i64 n, .int .i64 c] w fun e w' => ∃ v', e = .returned v' ∧ Own w' B v' (rs ++ [(m, d)] ++ [(n, c)]) ∧ w.grownBy w' v.ownBlock := by
  obtain ⟨i0, hi, hz0, hz1, hz2⟩ := info_parts Tryd.info_seg
  have hlen : (rs ++ [(m, d)]).length = rs.length + 1 := by simp
  obtain ⟨a, cap, rfl, hcap, hg⟩ := own_shape hown
  obtain ⟨g, rfl⟩ := hg (by simp)
  rw [hlen] at hcap
  have hO : w.ownsRow B 79 2 (.slice (some ⟨g, 0, none⟩) (rs.length + 1) cap) (rs.length + 1) (cs (rs ++ [(m, d)])) := by
    have := hown
    unfold Own at this
    rw [hlen] at this
    exact this
  rw [hlen]
  have hget : (rs ++ [(m, d)])[rs.length]? = some (m, d) := by simp
  have c1 : w.cell? ⟨g, rs.length * 2 + 1, none⟩ = some (.int .i64 d) := by
    rw [hO.cellAt _ (by omega)]; exact (cs_get hget).2
  have hd0 : (d == c) = false := by simpa using hdc
  have hd1 : decide (d = c) = false := by simpa using hdc
  have hgl : g < w.heap.size := (hown.lt g rfl).2
  have HO2 := Hid.mk7 hO
  clear hown hO hget hlen hg hdc
  go_enter Tryd.func56, Tryd.ntmps56
  go_wp2_with (at_builtin; refine wpList_append_own _ rfl _ _ 46 rfl B 79 i0 (.agg #[.int .i64 0, .int .i64 0]) 2 16 Tryd.underlying46 hi hz0 hz1 hz2 rfl (by decide) _ _ _ rfl (World.ownsRow.alloc HO2.out _) ⟨_, 0, none⟩ 1 1 [.int .i64 n, .int .i64 c] rfl rfl (two_new7 _ _ _ _) (fun u hu => by simp at hu; rcases hu with rfl | rfl <;> rfl) (by unfold maxLen; omega) (by omega) (by simp; omega) ?_)
  intro v' w3 hown' hgrow _
  go_wp2
  go_ret
  refine ⟨v', rfl, ?_, grown_trans (World.grownBy_alloc _ _ _) hgrow⟩
  unfold Own
  rw [cs_append (rs ++ [(m, d)]), cs_one]
  simpa using hown'
/-- algebra's add: on a row of counts. -/
theorem aadd_any (B : Nat) (v : Value) (A : List Int) (n c : Int) (w : World) (hB : B ≤ w.heap.size) (hl : A.length ≤ 1073741824) (hn : 1 ≤ n) (hn2 : n ≤ 1073741824) (hown : Own w B v (rle A)) :
    Calls Tryd.prog 56 #[v, .int .i64 n, .int .i64 c] w fun e w' => ∃ v', e = .returned v' ∧ Own w' B v' (rle (A ++ List.replicate n.toNat c)) ∧ w.grownBy w' v.ownBlock := by
  have hrl := rle_len A
  rcases List.eq_nil_or_concat (rle A) with hr | ⟨rs, ⟨m, d⟩, hr⟩
  · rw [add_other (by rw [hr]; simp) (by omega), hr]
    rw [hr] at hown
    exact aadd_push_nil B v n c w hB (by omega) hown
  · rw [List.concat_eq_append] at hr
    have hm : (m, d) ∈ rle A := by rw [hr]; simp
    have hm1 := rle_pos hm
    simp only at hm1
    rw [hr] at hown hrl
    rw [List.length_append] at hrl
    have hx : m.toNat ≤ A.length := by
      have e := congrArg List.length (congrArg xp hr)
      rw [xp_rle, xp_append, xp_one, List.length_append, List.length_replicate] at e
      simp only at e
      omega
    by_cases hd : d = c
    · subst hd
      rw [add_same hr (by omega)]
      refine (aadd_same_calls B v rs m n d w (by omega) (by omega) (by omega) (by omega) (by omega) hown).mono ?_
      rintro e w' ⟨rfl, h1, h2⟩
      exact ⟨v, rfl, h1, h2⟩
    · rw [add_other (by rw [hr]; simp; exact fun e => hd e.symm) (by omega), hr]
      exact aadd_push_cons B v rs m d n c w hB (by omega) (by omega) hd hown

/-- What is left of a row of one's own: these runs; the block is g. -/
def Tk (w : World) (B g : Nat) (v : Value) (rs : List Sg) : Prop :=
  ∃ R k cap a, Own w B (.slice (some ⟨g, 0, none⟩) R.length cap) R ∧ R.length ≤ cap ∧ k ≤ R.length ∧ R.drop k = rs ∧ v = .slice a rs.length (cap - k) ∧ (rs ≠ [] → a = some ⟨g, k * 2, none⟩)
theorem Tk.shape {w : World} {B g : Nat} {v : Value} {rs : List Sg} (h : Tk w B g v rs) : ∃ a cap, v = .slice a rs.length cap := by
  obtain ⟨R, k, cap, a, _, _, _, _, e, _⟩ := h
  exact ⟨_, _, e⟩
theorem Tk.kept {w w' : World} {B g : Nat} {v : Value} {rs : List Sg} (h : Tk w B g v rs) {row : Option Nat} (hg : w.grownBy w' row) (hne : some g ≠ row) : Tk w' B g v rs := by
  obtain ⟨R, k, cap, a, h1, h2⟩ := h
  exact ⟨R, k, cap, a, World.ownsRow.kept h1 hg (Or.inr hne), h2⟩
theorem Tk.later {w w' : World} {B g : Nat} {v : Value} {rs : List Sg} (h : Tk w B g v rs) (hb : Below w.heap.size w w') : Tk w' B g v rs := by
  obtain ⟨R, k, cap, a, h1, h2⟩ := h
  exact ⟨R, k, cap, a, h1.later hb, h2⟩
theorem Tk.lt {w : World} {B g : Nat} {v : Value} {rs : List Sg} (h : Tk w B g v rs) : B ≤ g ∧ g < w.heap.size := by
  obtain ⟨R, k, cap, a, h1, h2⟩ := h
  exact h1.lt g rfl
theorem Tk.cells {w : World} {B g : Nat} {a : Option Addr} {n cap : Nat} {r : Sg} {rs : List Sg} (h : Tk w B g (.slice a n cap) (r :: rs)) : ∃ off, a = some ⟨g, off, none⟩ ∧ n = rs.length + 1 ∧ w.cell? ⟨g, off, none⟩ = some (.int .i64 r.1) ∧ w.cell? ⟨g, off + 1, none⟩ = some (.int .i64 r.2) := by
  obtain ⟨R, k, cap, a, h1, h2, h3, h4, h5, h6⟩ := h
  cases h5
  have hk : R[k]? = some r := by
    have := congrArg (fun l => l[0]?) h4
    simpa using this
  have hkl : k < R.length := (List.getElem?_eq_some_iff.1 hk).1
  refine ⟨k * 2, h6 (by simp), by simp, ?_, ?_⟩
  · rw [World.ownsRow.cellAt h1 _ (by omega)]; exact (cs_get hk).1
  · rw [World.ownsRow.cellAt h1 _ (by omega)]; exact (cs_get hk).2
end Go.Proofs.YtalolaajcmndeaaDoor
