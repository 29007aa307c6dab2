/- One text put in, one part taken away: where places go; plain mathematics. -/
import Derived.Test.YtmgjfmgkmlfjeaaDoorOffLaw
import Derived.Test.YtmgjfmgkmlfjeaaDoorOffRun
namespace Go.Proofs.YtmgjfmgkmlfjeaaDoor
set_option linter.unusedSimpArgs false
set_option linter.unusedVariables false

theorem inS_one14 (f t : Int) (T : List UInt8) : inS [(f, t, T)] = T.length := by simp [inS]
theorem elG_one14 {n f q : Int} {T : List UInt8} : (elG n [] 0 [(f, q, T)]).length ≤ 60 := by
  have tl : ∀ T : List UInt8, (tx T).length ≤ 1 := fun T => by unfold tx; split <;> simp
  simp only [elG]
  have h1 := tl T
  have h2 := tl ([] : List UInt8)
  have h3 := tl ([] ++ T)
  repeat' split
  all_goals simp only [List.length_append, List.length_cons, List.length_nil]
  all_goals omega
theorem flt_one14 {N a b : Nat} {T : List UInt8} (hN : N ≤ 1000) (hab : a ≤ b) (hb : b ≤ N) (hT : T.length ≤ 1000) (hv : vld T = true) : flt N [((a : Int), (b : Int), T)] = 0 := by
  unfold flt
  have h1 : wthB N [((a : Int), (b : Int), T)] = true := by
    show (wthE N ((a : Int), (b : Int), T) && true) = true
    rw [show wthE N ((a : Int), (b : Int), T) = true from decide_eq_true ⟨by simp only; omega, by simp only; omega, by simp only; omega⟩]; rfl
  have h2 : ordB [((a : Int), (b : Int), T)] = true := rfl
  have h3 : vldB [((a : Int), (b : Int), T)] = true := by show (vld T && true) = true; rw [hv]; rfl
  rw [h1, h2, h3, decide_eq_true (show (0 : Int) ≤ (N : Int) ∧ (N : Int) ≤ 20000 by omega)]
  simp [sz8]
  omega
theorem flt_bad14 {N a : Nat} {T : List UInt8} (hN : N ≤ 1000) (hb : a ≤ N) (hv : vld T = false) : flt N [((a : Int), (a : Int), T)] = 12 := by
  unfold flt
  have h1 : wthB N [((a : Int), (a : Int), T)] = true := by
    show (wthE N ((a : Int), (a : Int), T) && true) = true
    rw [show wthE N ((a : Int), (a : Int), T) = true from decide_eq_true ⟨by simp only; omega, by simp only; omega, by simp only; omega⟩]; rfl
  have h2 : ordB [((a : Int), (a : Int), T)] = true := rfl
  have h3 : vldB [((a : Int), (a : Int), T)] = false := by show (vld T && true) = false; rw [hv]; rfl
  rw [h1, h2, h3, decide_eq_true (show (0 : Int) ≤ (N : Int) ∧ (N : Int) ≤ 20000 by omega)]
  rfl
/-- What was built has these bytes, and is a delta. -/
theorem built14 {base : Int} {l : List El} (hf : flt base l = 0) (hm : (elG base [] 0 l).length ≤ 60) : isB base (elG base [] 0 l) = true ∧ cel (elG base [] 0 l) = bce base 0 l := by
  refine ⟨isB_elG hf hm, ?_⟩
  rw [cel_elG l [] 0 (gd_of hf).ch]
  rfl
theorem hld_in {x n : Int} (h0 : 0 ≤ x) (h1 : x ≤ n) : hld x n = x := by
  unfold hld
  rw [Int.min_def, Int.max_def]
  repeat' split
  all_goals omega
theorem mvV_in {base : Int} {es : List El} {x : Int} (hi : isB base es = true) (h0 : 0 ≤ x) (h1 : x ≤ base) : mvV base es x false = (mvN x (cel es) : Nat) ∧ mvV base es x true = (frK x (cel es) : Nat) := by
  unfold mvV
  rw [if_pos hi, if_pos hi, hld_in h0 h1]
  exact ⟨rfl, rfl⟩
/-- What the law asks of the one. -/
structure Pm (N a x : Nat) (T : List UInt8) (P : List El) : Prop where
  len : P.length ≤ 60
  is : isB N P = true
  no : mvV N P x false = if (a : Int) < x then (x : Int) + (T.length : Nat) else x
  yes : mvV N P x true = if (a : Int) ≤ x then (x : Int) + (T.length : Nat) else x
theorem pm_of {N a x : Nat} {T : List UInt8} (hN : N ≤ 1000) (ha : a ≤ N) (hx : x ≤ N) (hT : T.length ≤ 1000) (hv : vld T = true) : Pm N a x T (elG N [] 0 [((a : Int), (a : Int), T)]) := by
  obtain ⟨h1, h2⟩ := built14 (flt_one14 hN (Nat.le_refl a) ha hT hv) elG_one14
  obtain ⟨h3, h4⟩ := mvV_in (x := (x : Int)) h1 (by omega) (by omega)
  refine ⟨elG_one14, h1, ?_, ?_⟩
  · rw [h3, h2, mvN_ins (by omega) (by omega) (by omega) (by omega)]
  · rw [h4, h2, frK_ins (by omega) (by omega) (by omega) (by omega)]
/-- .. of the other. -/
structure Qm (N a b x : Nat) (Q : List El) : Prop where
  len : Q.length ≤ 60
  is : isB N Q = true
  no : mvV N Q x false = if (a : Int) < x then max (a : Int) (x - (b - a)) else x
  yes : mvV N Q x true = if (a : Int) < x then max (a : Int) (x - (b - a)) else x
theorem qm_of {N a b x : Nat} (hN : N ≤ 1000) (hab : a ≤ b) (hb : b ≤ N) (hx : x ≤ N) : Qm N a b x (elG N [] 0 [((a : Int), (b : Int), [])]) := by
  obtain ⟨h1, h2⟩ := built14 (flt_one14 (T := []) hN hab hb (by simp) rfl) elG_one14
  obtain ⟨h3, h4⟩ := mvV_in (x := (x : Int)) h1 (by omega) (by omega)
  refine ⟨elG_one14, h1, ?_, ?_⟩
  · rw [h3, h2, mvN_cut (by omega) (by omega) (by omega) (by omega) (by omega)]
  · rw [h4, h2, frK_cut (by omega) (by omega) (by omega) (by omega) (by omega)]
end Go.Proofs.YtmgjfmgkmlfjeaaDoor
