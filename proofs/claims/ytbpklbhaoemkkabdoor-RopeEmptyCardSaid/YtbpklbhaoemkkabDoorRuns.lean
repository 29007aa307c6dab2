/- Plain mathematics of code points: texts as rows of numbers. -/
import Derived.Test.YtbpklbhaoemkkabDoorPts
namespace Go.Proofs.YtbpklbhaoemkkabDoor

def flat (cs : List Int) : List UInt8 := cs.flatMap enc
def Good (cs : List Int) : Prop := ∀ c, c ∈ cs → scalar c

theorem flat_nil : flat [] = [] := rfl
theorem flat_cons (c : Int) (cs : List Int) : flat (c :: cs) = enc c ++ flat cs := by simp [flat]
theorem flat_append (a b : List Int) : flat (a ++ b) = flat a ++ flat b := by simp [flat]
theorem Good.tail {c : Int} {cs : List Int} (h : Good (c :: cs)) : Good cs := fun x hx => h x (List.mem_cons_of_mem _ hx)
theorem Good.head {c : Int} {cs : List Int} (h : Good (c :: cs)) : scalar c := h c (List.mem_cons_self ..)
theorem Good.cons {c : Int} {cs : List Int} (hc : scalar c) (h : Good cs) : Good (c :: cs) := by
  intro x hx
  rcases List.mem_cons.1 hx with rfl | hx
  · exact hc
  · exact h x hx
theorem Good.append {a b : List Int} (ha : Good a) (hb : Good b) : Good (a ++ b) := by
  intro x hx
  rcases List.mem_append.1 hx with hx | hx
  · exact ha x hx
  · exact hb x hx
theorem good_nil : Good [] := by intro x hx; cases hx
theorem scalar_bad : scalar 65533 := by unfold scalar; omega

theorem enc_ne (c : Int) : enc c ≠ [] := by
  intro e
  have := enc_length c
  rw [e] at this
  simp at this

/-- The numbers of the code points, what is none as FFFD. -/
def ptsF : Nat → List UInt8 → List Int
  | 0, _ => []
  | f + 1, l => if l = [] then [] else if sz1 l = 0 then 65533 :: ptsF f (l.drop 1) else dec1 l :: ptsF f (l.drop (sz1 l).toNat)
def pts (l : List UInt8) : List Int := ptsF l.length l

def vldF : Nat → List UInt8 → Bool
  | 0, _ => true
  | f + 1, l => if l = [] then true else if sz1 l = 0 then false else vldF f (l.drop (sz1 l).toNat)
def vld (l : List UInt8) : Bool := vldF l.length l

theorem sz1_toNat_pos {l : List UInt8} (h : sz1 l ≠ 0) : 1 ≤ (sz1 l).toNat ∧ (sz1 l).toNat ≤ 4 := by
  have := sz1_nonneg l
  omega

theorem ptsF_fuel : ∀ (f g : Nat) (l : List UInt8), l.length ≤ f → l.length ≤ g → ptsF f l = ptsF g l
  | 0, g, l, hf, _ => by
    have : l = [] := List.eq_nil_of_length_eq_zero (by omega)
    subst this
    cases g <;> simp [ptsF]
  | f + 1, 0, l, _, hg => by
    have : l = [] := List.eq_nil_of_length_eq_zero (by omega)
    subst this
    simp [ptsF]
  | f + 1, g + 1, l, hf, hg => by
    unfold ptsF
    by_cases hl : l = []
    · rw [if_pos hl, if_pos hl]
    · have hp : 1 ≤ l.length := by cases l with | nil => exact absurd rfl hl | cons => simp
      rw [if_neg hl, if_neg hl]
      by_cases hz : sz1 l = 0
      · rw [if_pos hz, if_pos hz, ptsF_fuel f g _ (by simp; omega) (by simp; omega)]
      · have := sz1_toNat_pos hz
        rw [if_neg hz, if_neg hz, ptsF_fuel f g _ (by simp; omega) (by simp; omega)]

theorem vldF_fuel : ∀ (f g : Nat) (l : List UInt8), l.length ≤ f → l.length ≤ g → vldF f l = vldF g l
  | 0, g, l, hf, _ => by
    have : l = [] := List.eq_nil_of_length_eq_zero (by omega)
    subst this
    cases g <;> simp [vldF]
  | f + 1, 0, l, _, hg => by
    have : l = [] := List.eq_nil_of_length_eq_zero (by omega)
    subst this
    simp [vldF]
  | f + 1, g + 1, l, hf, hg => by
    unfold vldF
    by_cases hl : l = []
    · rw [if_pos hl, if_pos hl]
    · have hp : 1 ≤ l.length := by cases l with | nil => exact absurd rfl hl | cons => simp
      rw [if_neg hl, if_neg hl]
      by_cases hz : sz1 l = 0
      · rw [if_pos hz, if_pos hz]
      · have := sz1_toNat_pos hz
        rw [if_neg hz, if_neg hz, vldF_fuel f g _ (by simp; omega) (by simp; omega)]

theorem pts_nil : pts [] = [] := rfl
theorem vld_nil : vld [] = true := rfl
theorem pts_bad {l : List UInt8} (hl : l ≠ []) (hz : sz1 l = 0) : pts l = 65533 :: pts (l.drop 1) := by
  have hp : 1 ≤ l.length := by cases l with | nil => exact absurd rfl hl | cons => simp
  show ptsF l.length l = _
  obtain ⟨n, hn⟩ : ∃ n, l.length = n + 1 := ⟨l.length - 1, by omega⟩
  rw [hn]
  unfold ptsF
  rw [if_neg hl, if_pos hz]
  congr 1
  exact ptsF_fuel _ _ _ (by simp; omega) (by simp)
theorem pts_step {l : List UInt8} (hl : l ≠ []) (hz : sz1 l ≠ 0) : pts l = dec1 l :: pts (l.drop (sz1 l).toNat) := by
  have hp : 1 ≤ l.length := by cases l with | nil => exact absurd rfl hl | cons => simp
  have := sz1_toNat_pos hz
  show ptsF l.length l = _
  obtain ⟨n, hn⟩ : ∃ n, l.length = n + 1 := ⟨l.length - 1, by omega⟩
  rw [hn]
  unfold ptsF
  rw [if_neg hl, if_neg hz]
  congr 1
  exact ptsF_fuel _ _ _ (by simp; omega) (by simp)
theorem vld_bad {l : List UInt8} (hl : l ≠ []) (hz : sz1 l = 0) : vld l = false := by
  have hp : 1 ≤ l.length := by cases l with | nil => exact absurd rfl hl | cons => simp
  show vldF l.length l = _
  obtain ⟨n, hn⟩ : ∃ n, l.length = n + 1 := ⟨l.length - 1, by omega⟩
  rw [hn]
  unfold vldF
  rw [if_neg hl, if_pos hz]
theorem vld_step {l : List UInt8} (hl : l ≠ []) (hz : sz1 l ≠ 0) : vld l = vld (l.drop (sz1 l).toNat) := by
  have hp : 1 ≤ l.length := by cases l with | nil => exact absurd rfl hl | cons => simp
  have := sz1_toNat_pos hz
  show vldF l.length l = _
  obtain ⟨n, hn⟩ : ∃ n, l.length = n + 1 := ⟨l.length - 1, by omega⟩
  rw [hn]
  unfold vldF
  rw [if_neg hl, if_neg hz]
  exact vldF_fuel _ _ _ (by simp; omega) (by simp)

theorem enc_append_ne (c : Int) (t : List UInt8) : enc c ++ t ≠ [] := by
  intro e
  exact enc_ne c (List.append_eq_nil_iff.1 e).1

theorem step_enc {c : Int} (h : scalar c) (t : List UInt8) : sz1 (enc c ++ t) ≠ 0 ∧ (sz1 (enc c ++ t)).toNat = (enc c).length ∧ dec1 (enc c ++ t) = c := by
  obtain ⟨h1, h2⟩ := sz1_enc c h t
  have := enc_length c
  rw [h1]
  exact ⟨by omega, by simp, h2⟩
theorem pts_enc {c : Int} (h : scalar c) (t : List UInt8) : pts (enc c ++ t) = c :: pts t := by
  obtain ⟨h1, h2, h3⟩ := step_enc h t
  rw [pts_step (enc_append_ne c t) h1, h2, h3, List.drop_left']
  rfl
theorem vld_enc {c : Int} (h : scalar c) (t : List UInt8) : vld (enc c ++ t) = vld t := by
  obtain ⟨h1, h2, h3⟩ := step_enc h t
  rw [vld_step (enc_append_ne c t) h1, h2, List.drop_left']
  rfl
theorem pts_flat {cs : List Int} (h : Good cs) (t : List UInt8) : pts (flat cs ++ t) = cs ++ pts t := by
  induction cs with
  | nil => rfl
  | cons c cs ih => rw [flat_cons, List.append_assoc, pts_enc h.head, ih h.tail]; rfl
theorem vld_flat_append {cs : List Int} (h : Good cs) (t : List UInt8) : vld (flat cs ++ t) = vld t := by
  induction cs with
  | nil => rfl
  | cons c cs ih => rw [flat_cons, List.append_assoc, vld_enc h.head, ih h.tail]
theorem vld_flat {cs : List Int} (h : Good cs) : vld (flat cs) = true := by
  have := vld_flat_append h []
  rw [List.append_nil] at this
  rw [this]; rfl
theorem pts_flat' {cs : List Int} (h : Good cs) : pts (flat cs) = cs := by
  have := pts_flat h []
  rw [List.append_nil] at this
  rw [this, pts_nil, List.append_nil]

theorem sz1_split {l : List UInt8} (h : sz1 l ≠ 0) : scalar (dec1 l) ∧ l = enc (dec1 l) ++ l.drop (sz1 l).toNat ∧ (enc (dec1 l)).length = (sz1 l).toNat := by
  have := sz1_nonneg l
  obtain ⟨hs, t, ht⟩ := sz1_pos l (by omega)
  have h2 := step_enc hs t
  rw [← ht] at h2
  refine ⟨hs, ?_, h2.2.1.symm⟩
  have : l.drop (sz1 l).toNat = t := by
    rw [h2.2.1]
    conv => lhs; arg 2; rw [ht]
    exact List.drop_left' rfl
  rw [this]
  exact ht

/-- A text that is valid is its numbers' bytes. -/
theorem flat_pts : ∀ (n : Nat) (l : List UInt8), l.length ≤ n → vld l = true → flat (pts l) = l
  | n, [], _, _ => rfl
  | 0, x :: t, hn, _ => by simp at hn
  | n + 1, x :: t, hn, hv => by
    have hl : x :: t ≠ [] := by simp
    by_cases hz : sz1 (x :: t) = 0
    · rw [vld_bad hl hz] at hv; cases hv
    · have hp := sz1_toNat_pos hz
      rw [vld_step hl hz] at hv
      obtain ⟨h1, h2, h3⟩ := sz1_split hz
      rw [pts_step hl hz, flat_cons, flat_pts n _ (by simp at hn ⊢; omega) hv]
      exact h2.symm
theorem flat_pts' {l : List UInt8} (h : vld l = true) : flat (pts l) = l := flat_pts _ l (Nat.le_refl _) h

theorem good_pts : ∀ (n : Nat) (l : List UInt8), l.length ≤ n → Good (pts l)
  | n, [], _ => good_nil
  | 0, x :: t, hn => by simp at hn
  | n + 1, x :: t, hn => by
    have hl : x :: t ≠ [] := by simp
    by_cases hz : sz1 (x :: t) = 0
    · rw [pts_bad hl hz]
      exact Good.cons scalar_bad (good_pts n _ (by simp at hn ⊢; omega))
    · have hp := sz1_toNat_pos hz
      rw [pts_step hl hz]
      exact Good.cons (sz1_split hz).1 (good_pts n _ (by simp at hn ⊢; omega))
theorem good_pts' (l : List UInt8) : Good (pts l) := good_pts _ l (Nat.le_refl _)

/-- Clean. -/
def cln (l : List UInt8) : List UInt8 := flat (pts l)
theorem cln_valid (l : List UInt8) : vld (cln l) = true := vld_flat (good_pts' l)
theorem cln_of_valid {l : List UInt8} (h : vld l = true) : cln l = l := flat_pts' h
theorem pts_cln (l : List UInt8) : pts (cln l) = pts l := pts_flat' (good_pts' l)

/-- Valid texts are just these. -/
theorem vld_iff (l : List UInt8) : vld l = true ↔ ∃ cs, Good cs ∧ l = flat cs :=
  ⟨fun h => ⟨pts l, good_pts' l, (flat_pts' h).symm⟩, fun ⟨_, hg, e⟩ => e ▸ vld_flat hg⟩

theorem flat_length_ge (cs : List Int) : cs.length ≤ (flat cs).length ∧ (flat cs).length ≤ 4 * cs.length := by
  induction cs with
  | nil => simp [flat]
  | cons c cs ih =>
    have := enc_length c
    rw [flat_cons, List.length_append, List.length_cons]
    omega
theorem pts_length_le : ∀ (n : Nat) (l : List UInt8), l.length ≤ n → (pts l).length ≤ l.length
  | n, [], _ => Nat.le_refl _
  | 0, x :: t, hn => by simp at hn
  | n + 1, x :: t, hn => by
    have hl : x :: t ≠ [] := by simp
    by_cases hz : sz1 (x :: t) = 0
    · rw [pts_bad hl hz]
      have := pts_length_le n (List.drop 1 (x :: t)) (by simp at hn ⊢; omega)
      simp at this ⊢
      omega
    · have hp := sz1_toNat_pos hz
      rw [pts_step hl hz]
      have := pts_length_le n (List.drop (sz1 (x :: t)).toNat (x :: t)) (by simp at hn ⊢; omega)
      simp at this ⊢
      omega
theorem pts_length (l : List UInt8) : (pts l).length ≤ l.length := pts_length_le _ l (Nat.le_refl _)
theorem cln_length (l : List UInt8) : (cln l).length ≤ 4 * l.length := by
  have h1 := (flat_length_ge (pts l)).2
  have h2 := pts_length l
  unfold cln
  omega
end Go.Proofs.YtbpklbhaoemkkabDoor
