/- Both halves together are the whole: plain mathematics. -/
import Derived.Test.YtalolaajcmndeaaDoorFacMath
namespace Go.Proofs.YtalolaajcmndeaaDoor
set_option linter.unusedSimpArgs false
set_option linter.unusedVariables false

theorem ky_chs {base : Int} : ∀ (es : List El) (a : Int) (k : Nat), Ky base a k es → Chs base a (insX a es)
  | [], a, _, h => by have : a = base := h; show a ≤ base; omega
  | (f, t, T) :: es, a, k, h => by
    have hb := ky_le _ _ _ h
    unfold Ky at h
    split at h
    · rename_i hT
      simp only [insX, if_pos hT]
      exact chs_mono _ a t (by omega) (ky_chs es t 2 h.2.2)
    · rename_i hT
      simp only [insX, if_neg hT]
      exact ⟨Int.le_refl _, Int.le_refl _, hb, ky_chs es a 1 h.2.2.2⟩
theorem ky_bce {base : Int} : ∀ (es : List El) (a : Int) (k : Nat), Ky base a k es → bce base a (insX a es) = cel es
  | [], a, _, h => by have : a = base := h; simp [bce, insX, cel, rng_none, this]
  | (f, t, T) :: es, a, k, h => by
    unfold Ky at h
    split at h
    · rename_i hT
      obtain ⟨rfl, h2, h3⟩ := h
      subst hT
      simp only [insX, if_pos]
      rw [bce_from _ f t (by omega) (ky_chs es t 2 h3), ky_bce es t 2 h3, cel_cons]
      rfl
    · rename_i hT
      obtain ⟨rfl, rfl, h3, h4⟩ := h
      simp only [insX, if_neg hT, bce]
      rw [ky_bce es a 1 h4, rng_none (Int.le_refl _), cel_cons, show ce1 (0, 0, T) = ownT T ++ rng 0 0 from rfl, rng_none (Int.le_refl _)]
      simp
/-- Of what keeps all the first half is itself. -/
theorem insE_self {base : Int} {es : List El} (h : isB base es = true) (hc : cpS es = base) : insE base es = es := by
  obtain ⟨h1, h2, h3, h4⟩ := isB_spec.1 h
  have hk := ky_isB h hc
  unfold insE
  rw [elG_tld (ky_chs es 0 0 hk), ky_bce es 0 0 hk]
  exact tld_cel es 0 0 (Int.le_refl _) h2
theorem insX_none : ∀ (es : List El) (en : Int), inS es = 0 → insX en es = []
  | [], _, _ => rfl
  | (f, t, T) :: es, en, h => by
    simp only [inS, List.map_cons, List.sum_cons] at h
    have hT : T = [] := List.eq_nil_of_length_eq_zero (by omega)
    subst hT
    simp only [insX, if_pos]
    exact insX_none es t (by simp only [inS]; omega)
theorem getD_drop {L A : List Int} {a : Nat} (h : L.drop a = A) {i : Nat} (hi : a ≤ i) : L.getD i 0 = A.getD (i - a) 0 := by
  subst h
  rw [List.getD_eq_getElem?_getD, List.getD_eq_getElem?_getD, List.getElem?_drop]
  congr 2
  omega
theorem drop_rep {L A : List Int} {a n : Nat} {c : Int} (h : L.drop a = List.replicate n c ++ A) : L.drop (a + n) = A := by
  rw [← List.drop_drop, h, List.drop_left' (by simp)]
theorem getD_rep {L A : List Int} {a n : Nat} {c : Int} (h : L.drop a = List.replicate n c ++ A) {i : Nat} (h1 : a ≤ i) (h2 : i < a + n) : L.getD i 0 = c := by
  rw [getD_drop h h1, List.getD_eq_getElem?_getD, List.getElem?_append_left (by simp; omega), List.getElem?_replicate, if_pos (by omega)]
  rfl
/-- BOTH HALVES TOGETHER ARE THE WHOLE. -/
theorem spl_join {base : Int} {L : List Int} : ∀ (es : List El) (en : Int) (k : Nat), 0 ≤ en → en ≤ base → Nm base en k es → L.drop en.toNat = gon base en es → fil L (bce base en (insX en es)) = cel es
  | [], en, k, h0, hb, _, hg => by
    simp only [insX, bce, cel, List.flatMap_nil]
    simp only [gon] at hg
    refine fil_gone h0 fun i i1 i2 => ?_
    have hg2 : L.drop en.toNat = List.replicate (base - en).toNat 1 ++ [] := by rw [hg, List.append_nil]
    rw [getD_rep hg2 (by omega) (by omega)]
    omega
  | (f, t, T) :: es, en, k, h0, hb, h, hg => by
    by_cases hT : T = []
    · subst hT
      rw [Nm, if_pos rfl] at h
      obtain ⟨h1, _, h3, h4, h5⟩ := h
      simp only [gon, if_pos] at hg
      have g1 := drop_rep hg
      have g2 := drop_rep g1
      rw [show en.toNat + (f - en).toNat + (t - f).toNat = t.toNat by omega] at g2
      have ih := spl_join es t 2 (by omega) h4 h5 g2
      simp only [insX, if_pos]
      rw [bce_from _ en t (by omega) (chs_insX es t 2 h4 h5), rng_split (m := f) h1 (by omega), fil_append, fil_append, ih, cel_cons,
        fil_gone h0 (fun i i1 i2 => by rw [getD_rep hg (by omega) (by omega)]; omega),
        fil_zero (by omega) (fun i i1 i2 => getD_rep g1 (by omega) (by omega))]
      rfl
    · rw [Nm, if_neg hT] at h
      obtain ⟨rfl, rfl, h3, h4⟩ := h
      simp only [gon, if_neg hT] at hg
      have ih := spl_join es en 1 h0 hb h4 hg
      simp only [insX, if_neg hT, bce]
      rw [fil_append, fil_append, fil_own, ih, rng_none (Int.le_refl _), cel_cons, show ce1 (0, 0, T) = ownT T ++ rng 0 0 from rfl, rng_none (Int.le_refl _)]
      simp [fil]
theorem join_back {base : Int} {es : List El} (h : isB base es = true) : fil (gon base 0 es) (cel (insE base es)) = cel es ∧ tld (fil (gon base 0 es) (cel (insE base es))) = es := by
  obtain ⟨h1, h2, h3, h4⟩ := isB_spec.1 h
  have e : fil (gon base 0 es) (cel (insE base es)) = cel es := by
    rw [insE_cel h]
    exact spl_join es 0 0 (Int.le_refl _) h1.1 h2 rfl
  exact ⟨e, by rw [e]; exact tld_cel es 0 0 (Int.le_refl _) h2⟩
end Go.Proofs.YtalolaajcmndeaaDoor
