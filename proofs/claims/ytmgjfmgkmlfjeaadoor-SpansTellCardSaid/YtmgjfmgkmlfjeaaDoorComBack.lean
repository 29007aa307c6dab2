/- The delta back of the delta back: plain mathematics (layer 13; written ahead of its code). -/
import Derived.Test.YtmgjfmgkmlfjeaaDoorComEdge
namespace Go.Proofs.YtmgjfmgkmlfjeaaDoor
set_option linter.unusedSimpArgs false
set_option linter.unusedVariables false

theorem apl_vld {s : List UInt8} : ∀ (es : List El), (∀ e ∈ es, Ok1 s e) → vld (apl (cel es) s) = true
  | [], _ => vld_nil
  | e :: es, h => by
    rw [cel_cons, apl_append, (ok1_ce (h e (by simp))).1, vld_app (h e (by simp)).vl]
    exact apl_vld es fun x hx => h x (by simp [hx])
theorem padd_ede {s : List UInt8} {e : El} (he : vld e.2.2 = true ∧ (e.2.2 = [] → VE s e.1 ∧ VE s e.2.1)) : ∀ (es : List El), EdE s es → EdE s (padd es e)
  | [], _, x, hx => by
    simp only [padd, List.mem_singleton] at hx
    subst hx; exact he
  | [y], h, x, hx => by
    have hy := h y (by simp)
    simp only [padd] at hx
    split at hx
    · rename_i hm
      simp only [List.mem_singleton] at hx
      subst hx
      exact ⟨vld_nil, fun _ => ⟨(hy.2 hm.1).1, (he.2 hm.2.1).2⟩⟩
    · split at hx
      · rename_i hm
        simp only [List.mem_singleton] at hx
        subst hx
        exact ⟨vld_two hy.1 he.1, fun e0 => absurd (by simpa using e0 : y.2.2 = [] ∧ e.2.2 = []).1 hm.1⟩
      · rcases List.mem_cons.1 hx with rfl | hx
        · exact hy
        · simp only [List.mem_singleton] at hx
          subst hx; exact he
  | y :: z :: r, h, x, hx => by
    simp only [padd] at hx
    rcases List.mem_cons.1 hx with rfl | hx
    · exact h x (by simp)
    · exact padd_ede he (z :: r) (fun q hq => h q (by simp at hq ⊢; exact Or.inr hq)) x hx
theorem foldl_ede {s : List UInt8} : ∀ (es acc : List El), EdE s es → EdE s acc → EdE s (es.foldl padd acc)
  | [], acc, _, h => h
  | e :: es, acc, h1, h2 => foldl_ede es (padd acc e) (fun x hx => h1 x (by simp [hx])) (padd_ede (h1 e (by simp)) acc h2)
theorem ve_add {t : List UInt8} {i : Nat} {p : List UInt8} {r : List UInt8} (h : VE t i) (hd : t.drop i = p ++ r) (hp : vld p = true) : VE t ((i + p.length : Nat) : Int) := by
  unfold VE at *
  rw [Int.toNat_natCast] at *
  rw [List.take_add, vld_app h, hd, List.take_left' rfl]
  exact hp
theorem invE_ede {s t : List UInt8} {base : Int} (hs : vld s = true) (hb : base ≤ s.length) : ∀ (es : List El) (last : Int) (k i : Nat), 0 ≤ last → VE s last → Nm base last k es → EdE s es → VE t i → t.drop i = apl (cel es) s →
    EdE t (invE s last.toNat i es)
  | [], last, k, i, h0, hv, _, _, _, _ => by
    intro e he
    simp only [invE] at he
    unfold tx at he
    split at he
    · cases he
    · rename_i hne
      simp only [List.mem_singleton] at he
      subst he
      exact ⟨ve_rest hv hs, fun e => absurd e hne⟩
  | (f, u, T) :: es, last, k, i, h0, hv, h, hed, hi, hd => by
    have h1 := hed (f, u, T) (by simp)
    have hed2 : EdE s es := fun e he => hed e (by simp [he])
    rw [cel_cons, apl_append] at hd
    by_cases hT : T = []
    · subst hT
      rw [Nm, if_pos rfl] at h
      have h2 := h1.2 rfl
      have hp := ve_piece h0 h.1 hv h2.1
      have hok : Ok1 s (f, u, []) := ok1_copy (by omega) h.2.2.1 (by have := h.2.2.2.1; omega) (by
        rw [show (u - f).toNat = u.toNat - f.toNat by omega]
        exact ve_piece (by omega) (by omega) h2.1 h2.2)
      obtain ⟨b1, b2⟩ := ok1_ce hok
      have hlen : (pb s (f, u, [])).length = (u - f).toNat := by rw [← b2]; show (ownT [] ++ rng f u).length = _; simp [ownT, rng_len]
      rw [b1] at hd
      have hi2 := ve_add hi hd hok.vl
      rw [hlen] at hi2
      have hd2 : t.drop (i + (u - f).toNat) = apl (cel es) s := by rw [← List.drop_drop, hd, List.drop_left' hlen]
      have ih := invE_ede hs hb es u 2 (i + (u - f).toNat) (by omega) h2.2 h.2.2.2.2 hed2 hi2 hd2
      rw [invE, if_pos rfl]
      intro e he
      rcases List.mem_append.1 he with he | he
      · unfold tx at he
        split at he
        · cases he
        · rename_i hne
          simp only [List.mem_singleton] at he
          subst he
          exact ⟨hp, fun e => absurd e hne⟩
      · rcases List.mem_cons.1 he with rfl | he
        · refine ⟨vld_nil, fun _ => ⟨hi, ?_⟩⟩
          rw [show ((i + (u - f).toNat : Nat) : Int) = (i : Int) + (u - f) by have := h.2.2.1; omega] at hi2
          exact hi2
        · exact ih e he
    · rw [Nm, if_neg hT] at h
      obtain ⟨rfl, rfl, h3, h4⟩ := h
      have hok : Ok1 s (0, 0, T) := ok1_text hT h1.1
      rw [(ok1_ce hok).1, show pb s (0, 0, T) = T from by simp [pb]] at hd
      have hi2 := ve_add hi hd h1.1
      have hd2 : t.drop (i + T.length) = apl (cel es) s := by rw [← List.drop_drop, hd, List.drop_left' rfl]
      rw [invE, if_neg hT]
      exact invE_ede hs hb es last 1 _ h0 hv h4 hed2 hi2 hd2
/-- The delta back is cut at edges of what was made. -/
theorem inv_ede {s : List UInt8} {es : List El} (hs : vld s = true) (h : Nm s.length 0 0 es) (hed : EdE s es) :
    EdE (apl (cel es) s) (tld (invC s 0 0 (cel es))) ∧ vld (apl (cel es) s) = true := by
  obtain ⟨a1, a2, a3⟩ := invE_ok hs (Int.le_refl _) es 0 0 0 (Int.le_refl _) (ve_zero s) h hed
  have e := cel_invE (s := s) es 0 0 0 (Int.le_refl _) h
  have e2 : tld (invC s 0 0 (cel es)) = (invE s 0 0 es).foldl padd [] := by
    rw [show (0 : Int).toNat = 0 from rfl] at e
    rw [← e]
    exact tld_elems (fun x hx => (a1 x hx).2) []
  rw [e2]
  refine ⟨foldl_ede _ [] ?_ (fun x hx => by cases hx), apl_vld es (ede_ok1 (Int.le_refl _) es 0 0 (Int.le_refl _) h hed)⟩
  exact invE_ede (t := apl (cel es) s) hs (Int.le_refl _) es 0 0 0 (Int.le_refl _) (ve_zero s) h hed (ve_zero _) rfl
end Go.Proofs.YtmgjfmgkmlfjeaaDoor
