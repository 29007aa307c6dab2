/- One that keeps all, ahead and behind: plain mathematics (layer 13). -/
import Derived.Test.YtiienebioebjpaaDoorComTwo
namespace Go.Proofs.YtiienebioebjpaaDoor
set_option linter.unusedSimpArgs false
set_option linter.unusedVariables false

/-- The delta that keeps all. -/
abbrev KE (n : Int) : List El := elG n [] 0 []
theorem cel_KE {n : Int} (h0 : 0 ≤ n) : cel (KE n) = rng 0 n := by
  simp only [KE, elG, cel_append, cel_tx]
  by_cases h : 0 < n
  · rw [if_pos h]; simp [cel, ce1, ownT]
  · rw [if_neg h, rng_none (by omega)]; rfl
theorem isB_KE {n : Int} (h0 : 0 ≤ n) (h1 : n ≤ 20000) : isB n (KE n) = true := by
  have hf : flt n [] = 0 := by
    unfold flt
    rw [show wthB n [] = true from rfl, show ordB [] = true from rfl, show vldB [] = true from rfl, decide_eq_true ⟨h0, h1⟩]
    have : sz8 n [] = n := by simp [sz8]
    rw [this]
    simp
    omega
  refine isB_elG hf ?_
  simp only [elG]
  unfold tx
  split <;> split <;> simp
theorem elG_inS {base : Int} : ∀ (l : List El) (txt : List UInt8) (en : Int), inS (elG base txt en l) ≤ txt.length + inS l
  | [], txt, en => by
    have h1 : inS (tx txt) = txt.length := by unfold tx; split <;> simp_all [inS]
    simp only [elG, inS_append, h1]
    split <;> simp [inS]
  | (f, t, T) :: l, txt, en => by
    have h1 : inS (tx txt) = txt.length := by unfold tx; split <;> simp_all [inS]
    have h2 : inS ((f, t, T) :: l) = T.length + inS l := by simp [inS]
    simp only [elG]
    split
    · have := elG_inS (base := base) l txt en; omega
    · split
      · have := elG_inS (base := base) l T t
        have h3 : inS ((en, f, []) :: elG base T t l) = inS (elG base T t l) := by simp [inS]
        rw [inS_append, h1, h3]
        omega
      · have := elG_inS (base := base) l (txt ++ T) t
        rw [List.length_append] at this
        omega
/-- Behind one that keeps all. -/
theorem keep_ahead {n : Int} {es : List El} (hi : isB n es = true) : tld (twoC (cel (KE n)) (cel es)) = es := by
  have hd := dl_of hi
  have hu := up_cel es 0 0 (Int.le_refl _) hd.nm
  obtain ⟨N, hN⟩ : ∃ N : Nat, n = (N : Int) := ⟨n.toNat, by have := hd.b0; omega⟩
  subst hN
  rw [cel_KE (by omega), two_keepL (n := N) (up_inC hu (Int.le_refl _)) ?_, tld_cel es 0 0 (Int.le_refl _) hd.nm]
  intro c hc h0
  rcases up_one _ 0 (Int.le_refl _) hu c hc with h | h
  · omega
  · exact h.2.2
theorem keep_behind {n : Int} {es : List El} (hi : isB n es = true) : tld (twoC (cel es) (cel (KE ((cel es).length : Nat)))) = es := by
  have hd := dl_of hi
  rw [cel_KE (by omega), two_keepR, tld_cel es 0 0 (Int.le_refl _) hd.nm]
theorem keep_len {n : Int} (h0 : 0 ≤ n) : (((cel (KE n)).length : Nat) : Int) = n := by
  rw [cel_KE h0, rng_len]; omega
end Go.Proofs.YtiienebioebjpaaDoor
