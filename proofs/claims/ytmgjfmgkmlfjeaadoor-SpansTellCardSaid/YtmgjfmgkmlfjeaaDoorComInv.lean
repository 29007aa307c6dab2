/- The delta back: plain mathematics (layer 13; written ahead of its code). -/
import Derived.Test.YtmgjfmgkmlfjeaaDoorComVal
namespace Go.Proofs.YtmgjfmgkmlfjeaaDoor
set_option linter.unusedSimpArgs false
set_option linter.unusedVariables false

/-- The bytes of the delta back: of what cs makes (i of it are gone through) the text s again (a of it). -/
def invC (s : List UInt8) : Nat → Nat → List Ce → List Ce
  | a, _, [] => ownT (s.drop a)
  | a, i, c :: cs => if c.1 < 0 then invC s a (i + 1) cs else ownT ((s.drop a).take (c.1.toNat - a)) ++ ((i : Int), 0) :: invC s (c.1.toNat + 1) (i + 1) cs
/-- The delta back makes the text again. -/
theorem apl_inv {s t full : List UInt8} (hfull : full = s) : ∀ (cs : List Ce) (a i : Nat), Up s.length a cs → t.drop i = apl cs s → apl (invC s a i cs) t = s.drop a
  | [], a, i, _, _ => by rw [invC, apl_own]
  | c :: cs, a, i, hu, ht => by
    have hi : t.drop (i + 1) = apl cs s := by
      rw [← List.drop_drop, ht]; rfl
    unfold Up at hu
    rw [invC]
    split at hu
    · rename_i hc
      rw [if_pos hc]
      exact apl_inv hfull cs a (i + 1) hu.2 hi
    · rename_i hc
      obtain ⟨u1, u2, u3, u4⟩ := hu
      rw [if_neg hc, apl_append, apl_own]
      have hg : t.getD i 0 = s.getD c.1.toNat 0 := by
        have h0 : t[i]? = (t.drop i)[0]? := by rw [List.getElem?_drop]; rfl
        rw [List.getD_eq_getElem?_getD, h0, ht]
        show (some (if c.1 < 0 then c.2 else s.getD c.1.toNat 0)).getD 0 = _
        rw [if_neg hc]; rfl
      have hl : c.1.toNat < s.length := by omega
      have ih := apl_inv (t := t) hfull cs (c.1.toNat + 1) (i + 1) (by rw [show ((c.1.toNat + 1 : Nat) : Int) = c.1 + 1 by omega]; exact u4) hi
      have e : apl (((i : Int), 0) :: invC s (c.1.toNat + 1) (i + 1) cs) t = t.getD i 0 :: apl (invC s (c.1.toNat + 1) (i + 1) cs) t := by
        show (if ((i : Int) < 0) then (0 : UInt8) else t.getD ((i : Int)).toNat 0) :: _ = _
        rw [if_neg (by omega), Int.toNat_natCast]; rfl
      rw [e, ih, hg, getD_lt _ _ _ hl, ← List.drop_eq_getElem_cons hl]
      have h5 : s.drop c.1.toNat = (s.drop a).drop (c.1.toNat - a) := by rw [List.drop_drop]; congr 1; omega
      rw [h5, List.take_append_drop]
theorem inv_up {s : List UInt8} : ∀ (cs : List Ce) (a i : Nat) (b : Int), Up s.length a cs → b ≤ i → Up ((i : Int) + cs.length) b (invC s a i cs)
  | [], a, i, b, _, _ => by
    rw [invC]
    have := up_own (base := (i : Int) + (([] : List Ce).length : Nat)) (a := b) (s.drop a) (cs := []) trivial
    rw [List.append_nil] at this
    exact this
  | c :: cs, a, i, b, hu, hb => by
    unfold Up at hu
    rw [invC]
    have hl : (i : Int) + ((c :: cs).length : Nat) = ((i + 1 : Nat) : Int) + (cs.length : Nat) := by simp; omega
    rw [hl]
    split at hu
    · rename_i hc
      rw [if_pos hc]
      exact inv_up cs a (i + 1) b hu.2 (by omega)
    · rename_i hc
      obtain ⟨u1, u2, u3, u4⟩ := hu
      rw [if_neg hc]
      refine up_own _ ?_
      rw [Up, if_neg (by simp only; omega)]
      refine ⟨by simp only; omega, by simp only; omega, rfl, ?_⟩
      have := inv_up cs (c.1.toNat + 1) (i + 1) ((i : Int) + 1) (by rw [show ((c.1.toNat + 1 : Nat) : Int) = c.1 + 1 by omega]; exact u4) (by omega)
      exact this
/-- How many are put in, how many are kept. -/
def ownN (cs : List Ce) : Nat := (cs.filter fun c => decide (c.1 < 0)).length
theorem ownN_append (a b : List Ce) : ownN (a ++ b) = ownN a + ownN b := by simp [ownN]
theorem ownN_own (T : List UInt8) : ownN (ownT T) = T.length := by
  unfold ownN
  rw [List.filter_eq_self.2, own_len]
  intro c hc
  simp only [ownT, List.mem_map] at hc
  obtain ⟨b, _, rfl⟩ := hc
  rfl
theorem ownN_le (cs : List Ce) : ownN cs ≤ cs.length := List.length_filter_le _ _
theorem ownN_rng {f t : Int} (h : 0 ≤ f) : ownN (rng f t) = 0 := by
  unfold ownN
  rw [List.filter_eq_nil_iff.2]; · rfl
  intro c hc
  simp only [rng, List.mem_map, List.mem_range] at hc
  obtain ⟨i, hi, rfl⟩ := hc
  simp
  omega
theorem ownN_cel {base : Int} : ∀ (es : List El) (last : Int) (k : Nat), 0 ≤ last → Nm base last k es → ownN (cel es) = inS es
  | [], _, _, _, _ => rfl
  | (f, t, T) :: es, last, k, h0, h => by
    rw [cel_cons, ownN_append, show ce1 (f, t, T) = ownT T ++ rng f t from rfl, ownN_append, ownN_own]
    by_cases hT : T = []
    · subst hT
      rw [Nm, if_pos rfl] at h
      rw [ownN_rng (by omega), ownN_cel es t 2 (by omega) h.2.2.2.2]
      simp [inS]
    · rw [Nm, if_neg hT] at h
      rw [h.1, h.2.1, rng_none (Int.le_refl _), ownN_cel es last 1 h0 h.2.2.2]
      simp [inS, ownN]
theorem inv_own {s : List UInt8} : ∀ (cs : List Ce) (a i : Nat), Up s.length a cs → a ≤ s.length → ownN (invC s a i cs) + (cs.length - ownN cs) = s.length - a ∧ (invC s a i cs).length = s.length - a
  | [], a, i, _, ha => by
    rw [invC, ownN_own, own_len]
    simp [ownN]
  | c :: cs, a, i, hu, ha => by
    unfold Up at hu
    rw [invC]
    have hle := ownN_le cs
    split at hu
    · rename_i hc
      have ih := inv_own cs a (i + 1) hu.2 ha
      have e : ownN (c :: cs) = ownN cs + 1 := by simp [ownN, hc]
      rw [if_pos hc, e, List.length_cons]
      omega
    · rename_i hc
      obtain ⟨u1, u2, u3, u4⟩ := hu
      have ih := inv_own cs (c.1.toNat + 1) (i + 1) (by rw [show ((c.1.toNat + 1 : Nat) : Int) = c.1 + 1 by omega]; exact u4) (by omega)
      have e : ownN (c :: cs) = ownN cs := by simp [ownN, hc]
      have e2 : ownN (((i : Int), 0) :: invC s (c.1.toNat + 1) (i + 1) cs) = ownN (invC s (c.1.toNat + 1) (i + 1) cs) := by
        have : ¬ ((i : Int) < 0) := by omega
        simp [ownN, this]
      have hl : ((s.drop a).take (c.1.toNat - a)).length = c.1.toNat - a := by rw [List.length_take, List.length_drop]; omega
      rw [if_neg hc, ownN_append, ownN_own, e, e2, List.length_append, own_len, hl, List.length_cons, List.length_cons]
      omega
/-- The delta back, element by element. -/
def invE (s : List UInt8) : Nat → Nat → List El → List El
  | a, _, [] => tx (s.drop a)
  | a, i, (f, t, T) :: es => if T = [] then tx ((s.drop a).take (f.toNat - a)) ++ ((i : Int), (i : Int) + (t - f), []) :: invE s t.toNat (i + (t - f).toNat) es else invE s a (i + T.length) es
theorem invC_own (s : List UInt8) : ∀ (T : List UInt8) (cs : List Ce) (a i : Nat), invC s a i (ownT T ++ cs) = invC s a (i + T.length) cs
  | [], cs, a, i => rfl
  | b :: T, cs, a, i => by
    show invC s a i ((-1, b) :: (ownT T ++ cs)) = _
    rw [invC, if_pos (by simp only; omega), invC_own s T cs a (i + 1)]
    congr 1
    simp; omega
theorem invC_rng (s : List UInt8) : ∀ (n : Nat) (f t : Nat) (cs : List Ce) (i : Nat), t - f = n → f ≤ t → invC s f i (rng f t ++ cs) = rng i (i + ((t : Int) - f)) ++ invC s t (i + (t - f)) cs
  | 0, f, t, cs, i, hn, h => by
    have : f = t := by omega
    subst this
    rw [rng_none (Int.le_refl _), rng_none (by omega)]
    simp
  | n + 1, f, t, cs, i, hn, h => by
    rw [rng_cons (by omega : (f : Int) < t)]
    show invC s f i (((f : Int), 0) :: (rng ((f : Int) + 1) t ++ cs)) = _
    rw [invC, if_neg (by simp only; omega)]
    have ih := invC_rng s n (f + 1) t cs (i + 1) (by omega) (by omega)
    rw [show (((f + 1 : Nat) : Int)) = (f : Int) + 1 by omega] at ih
    have e1 : ((f : Int), (0 : UInt8)).1.toNat = f := by simp
    rw [e1, Nat.sub_self, List.take_zero, ih, rng_cons (show (i : Int) < (i : Int) + ((t : Int) - f) by omega)]
    show (ownT [] ++ ((i : Int), (0 : UInt8)) :: _) = _
    rw [show (((i + 1 : Nat) : Int)) = (i : Int) + 1 by omega, show (i : Int) + 1 + ((t : Int) - ((f : Int) + 1)) = (i : Int) + ((t : Int) - f) by omega, show i + 1 + (t - (f + 1)) = i + (t - f) by omega]
    rfl
theorem cel_invE {s : List UInt8} {base : Int} : ∀ (es : List El) (last : Int) (k i : Nat), 0 ≤ last → Nm base last k es → cel (invE s last.toNat i es) = invC s last.toNat i (cel es)
  | [], last, k, i, _, _ => by rw [invE, cel_tx]; rfl
  | (f, t, T) :: es, last, k, i, h0, h => by
    rw [cel_cons, show ce1 (f, t, T) = ownT T ++ rng f t from rfl]
    by_cases hT : T = []
    · subst hT
      rw [Nm, if_pos rfl] at h
      obtain ⟨h1, h2, h3, h4, h5⟩ := h
      obtain ⟨fN, rfl⟩ : ∃ n : Nat, f = (n : Int) := ⟨f.toNat, by omega⟩
      obtain ⟨tN, rfl⟩ : ∃ n : Nat, t = (n : Int) := ⟨t.toNat, by omega⟩
      have ih := cel_invE (s := s) es (tN : Int) 2 (i + ((tN : Int) - fN).toNat) (by omega) h5
      rw [invE, if_pos rfl, cel_append, cel_cons, cel_tx, ih]
      have e2 : invC s last.toNat i ((ownT [] ++ rng fN tN) ++ cel es) = ownT ((s.drop last.toNat).take (fN - last.toNat)) ++ invC s fN i (rng fN tN ++ cel es) := by
        show invC s last.toNat i (rng fN tN ++ cel es) = _
        rw [rng_cons (by omega : (fN : Int) < tN)]
        show invC s last.toNat i (((fN : Int), 0) :: (rng ((fN : Int) + 1) tN ++ cel es)) = _ ++ invC s fN i (((fN : Int), 0) :: (rng ((fN : Int) + 1) tN ++ cel es))
        rw [invC, invC, if_neg (by simp only; omega), if_neg (by simp only; omega)]
        have e1 : ((fN : Int), (0 : UInt8)).1.toNat = fN := by simp
        rw [e1, Nat.sub_self, List.take_zero]
        rfl
      rw [e2, invC_rng s _ fN tN (cel es) i rfl (by omega), Int.toNat_natCast, Int.toNat_natCast, show ((tN : Int) - fN).toNat = tN - fN by omega]
      show _ ++ ((ownT [] ++ rng i (i + ((tN : Int) - fN))) ++ _) = _
      rfl
    · rw [Nm, if_neg hT] at h
      obtain ⟨rfl, rfl, h3, h4⟩ := h
      rw [invE, if_neg hT, rng_none (Int.le_refl _), List.append_nil, invC_own, cel_invE es last 1 _ h0 h4]
/-- As elements the delta back stands as it may. -/
theorem inv_tld {s : List UInt8} {es : List El} (h : Nm s.length 0 0 es) : Nm (cel es).length 0 0 (tld (invC s 0 0 (cel es))) := by
  have := inv_up (s := s) (cel es) 0 0 0 (up_cel es 0 0 (Int.le_refl _) h) (Int.le_refl _)
  rw [show ((0 : Nat) : Int) + ((cel es).length : Nat) = ((cel es).length : Nat) by omega] at this
  exact up_nm _ 0 (Int.le_refl _) this
end Go.Proofs.YtmgjfmgkmlfjeaaDoor
