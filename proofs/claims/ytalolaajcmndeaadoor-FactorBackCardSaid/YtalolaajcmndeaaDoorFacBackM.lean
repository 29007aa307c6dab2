/- One half after the other: plain mathematics. -/
import Derived.Test.YtalolaajcmndeaaDoorFacSpl
import Derived.Test.YtalolaajcmndeaaDoorAlgDel
namespace Go.Proofs.YtalolaajcmndeaaDoor
set_option linter.unusedSimpArgs false
set_option linter.unusedVariables false

/-- Which are put in. -/
def ownm (cs : List Ce) : List Int := cs.map fun c => if c.1 < 0 then 1 else 0
theorem ownm_append (a b : List Ce) : ownm (a ++ b) = ownm a ++ ownm b := by simp [ownm]
theorem ownm_own (T : List UInt8) : ownm (ownT T) = List.replicate T.length 1 := by
  simp only [ownm, ownT, List.map_map]
  rw [List.eq_replicate_iff]
  refine ⟨by simp, fun b hb => ?_⟩
  obtain ⟨x, _, rfl⟩ := List.mem_map.1 hb
  rfl
theorem ownm_rng {f t : Int} (h : 0 ≤ f) : ownm (rng f t) = List.replicate (t - f).toNat 0 := by
  rw [List.eq_replicate_iff]
  refine ⟨by simp [ownm, rng_len], fun b hb => ?_⟩
  simp only [ownm, List.mem_map] at hb
  obtain ⟨c, hc, rfl⟩ := hb
  have := (rng_mem hc).1
  rw [if_neg (by omega)]
theorem insL_cel {base : Int} : ∀ (es : List El) (last : Int) (k : Nat), 0 ≤ last → Nm base last k es → insL es = ownm (cel es)
  | [], _, _, _, _ => rfl
  | (f, t, T) :: es, last, k, h0, h => by
    rw [cel_cons, ownm_append, show ce1 (f, t, T) = ownT T ++ rng f t from rfl, ownm_append, ownm_own]
    by_cases hT : T = []
    · subst hT
      rw [Nm, if_pos rfl] at h
      rw [ownm_rng (by omega), ← insL_cel es t 2 (by omega) h.2.2.2.2]
      simp [insL]
    · rw [Nm, if_neg hT] at h
      obtain ⟨rfl, rfl, h3, h4⟩ := h
      rw [rng_none (Int.le_refl _), ← insL_cel es last 1 h0 h4]
      simp [insL, ownm]
/-- Bytes that keep all from a on. -/
def Kc (base : Int) : Int → List Ce → Prop
  | a, [] => a = base
  | a, c :: cs => if c.1 < 0 then Kc base a cs else c.1 = a ∧ Kc base (a + 1) cs
theorem kc_own {base a : Int} : ∀ (T : List UInt8) {cs : List Ce}, Kc base a cs → Kc base a (ownT T ++ cs)
  | [], cs, h => h
  | b :: T, cs, h => by
    show Kc base a ((-1, b) :: (ownT T ++ cs))
    rw [Kc, if_pos (by simp only; omega)]
    exact kc_own T h
theorem kc_rng {base t : Int} {cs : List Ce} (h : Kc base t cs) : ∀ (n : Nat) (f : Int), (t - f).toNat = n → f ≤ t → 0 ≤ f → Kc base f (rng f t ++ cs)
  | 0, f, hn, h1, _ => by
    have : f = t := by omega
    subst this
    rw [rng_none (Int.le_refl _)]; exact h
  | n + 1, f, hn, h1, h0 => by
    rw [rng_cons (by omega)]
    show Kc base f ((f, 0) :: (rng (f + 1) t ++ cs))
    rw [Kc, if_neg (by simp only; omega)]
    exact ⟨rfl, kc_rng h n (f + 1) (by omega) (by omega) (by omega)⟩
theorem kc_ky {base : Int} : ∀ (es : List El) (a : Int) (k : Nat), 0 ≤ a → Ky base a k es → Kc base a (cel es)
  | [], a, _, _, h => h
  | (f, t, T) :: es, a, k, h0, h => by
    rw [cel_cons, show ce1 (f, t, T) = ownT T ++ rng f t from rfl]
    unfold Ky at h
    split at h
    · rename_i hT
      obtain ⟨rfl, h2, h3⟩ := h
      subst hT
      exact kc_rng (kc_ky es t 2 (by omega) h3) _ f rfl (by omega) h0
    · obtain ⟨rfl, rfl, h3, h4⟩ := h
      rw [rng_none (Int.le_refl _), List.append_nil]
      exact kc_own T (kc_ky es a 1 h0 h4)
theorem kc_le {base : Int} : ∀ (cs : List Ce) (a : Int), Kc base a cs → a ≤ base
  | [], a, h => by unfold Kc at h; omega
  | c :: cs, a, h => by
    unfold Kc at h
    split at h
    · exact kc_le cs a h
    · have := kc_le cs _ h.2; omega
theorem drop_getD (L : List Int) (a : Nat) (h : a < L.length) : L.drop a = L.getD a 0 :: L.drop (a + 1) := by
  rw [List.drop_eq_getElem_cons h, List.getD_eq_getElem?_getD, List.getElem?_eq_getElem h]; rfl
/-- What is left of what the first half makes, by the other one. -/
theorem del_fil {base : Int} {D : List Int} {s : List UInt8} (hD : (D.length : Int) = base) : ∀ (cs : List Ce) (a : Int), 0 ≤ a → Kc base a cs → del (expd (D.drop a.toNat) (ownm cs)) (apl cs s) = apl (fil D cs) s
  | [], a, _, _ => by simp [ownm, expd, apl, fil, del_nil]
  | c :: cs, a, h0, h => by
    have e1 : apl (c :: cs) s = (if c.1 < 0 then c.2 else s.getD c.1.toNat 0) :: apl cs s := rfl
    unfold Kc at h
    split at h
    · rename_i hc
      have ih := del_fil hD (s := s) cs a h0 h
      have e2 : ownm (c :: cs) = 1 :: ownm cs := by simp [ownm, hc]
      have e3 : fil D (c :: cs) = c :: fil D cs := by simp [fil, hc]
      rw [e1, e2, e3]
      show del (0 :: expd (D.drop a.toNat) (ownm cs)) _ = _
      show (if (0 : Int) = 0 then _ :: del (expd (D.drop a.toNat) (ownm cs)) (apl cs s) else _) = _
      rw [if_pos rfl, ih]
      rfl
    · rename_i hc
      obtain ⟨hca, h⟩ := h
      have hle := kc_le cs _ h
      have ih := del_fil hD (s := s) cs (a + 1) (by omega) h
      have e2 : ownm (c :: cs) = 0 :: ownm cs := by simp [ownm, hc]
      have hg := drop_getD D a.toNat (by omega)
      rw [show (a + 1).toNat = a.toNat + 1 by omega] at ih
      rw [e1, e2, hg]
      show del (D.getD a.toNat 0 :: expd (D.drop (a.toNat + 1)) (ownm cs)) _ = _
      show (if D.getD a.toNat 0 = 0 then _ :: del (expd (D.drop (a.toNat + 1)) (ownm cs)) (apl cs s) else del (expd (D.drop (a.toNat + 1)) (ownm cs)) (apl cs s)) = _
      rw [ih]
      by_cases hd : D.getD a.toNat 0 = 0
      · have e3 : fil D (c :: cs) = c :: fil D cs := by
          unfold fil
          rw [List.filter_cons_of_pos (by rw [hca, hd]; simp)]
        rw [if_pos hd, e3]; rfl
      · have e3 : fil D (c :: cs) = fil D cs := by
          unfold fil
          rw [List.filter_cons_of_neg (by rw [hca]; simp only [Bool.or_eq_true, decide_eq_true_eq, not_or]; exact ⟨by omega, hd⟩)]
        rw [if_neg hd, e3]
/-- Without what was put in it is the text. -/
theorem del_ownm {s : List UInt8} : ∀ (cs : List Ce) (a : Int), 0 ≤ a → Kc s.length a cs → del (ownm cs) (apl cs s) = s.drop a.toNat
  | [], a, _, h => by
    have : a = s.length := h
    simp [ownm, apl, del, this]
  | c :: cs, a, h0, h => by
    have e1 : apl (c :: cs) s = (if c.1 < 0 then c.2 else s.getD c.1.toNat 0) :: apl cs s := rfl
    unfold Kc at h
    split at h
    · rename_i hc
      have e2 : ownm (c :: cs) = 1 :: ownm cs := by simp [ownm, hc]
      rw [e1, e2]
      show (if (1 : Int) = 0 then _ else del (ownm cs) (apl cs s)) = _
      rw [if_neg (by omega)]
      exact del_ownm cs a h0 h
    · rename_i hc
      obtain ⟨hca, h⟩ := h
      have hle := kc_le cs _ h
      have e2 : ownm (c :: cs) = 0 :: ownm cs := by simp [ownm, hc]
      rw [e1, e2]
      show (if (0 : Int) = 0 then _ :: del (ownm cs) (apl cs s) else _) = _
      rw [if_pos rfl, if_neg hc, hca, del_ownm cs (a + 1) (by omega) h, show (a + 1).toNat = a.toNat + 1 by omega, List.drop_eq_getElem_cons (show a.toNat < s.length by omega), List.getD_eq_getElem?_getD, List.getElem?_eq_getElem (show a.toNat < s.length by omega)]
      rfl
end Go.Proofs.YtalolaajcmndeaaDoor
