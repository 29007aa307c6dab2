/- Runs of both kinds, one behind the other: plain mathematics. -/
import Derived.Test.YtbkjcibfcpejfaaMapMath
namespace Go.Proofs.Ytbkjcibfcpejfaa
open Go.RowKit
set_option linter.unusedSimpArgs false
set_option linter.unusedVariables false

/-- How many intervals there are ahead. -/
def nI (b : Bool) (R : List Sg) (j : Nat) : Nat := (ivf b 0 (R.take j)).length
theorem nI_zero (b : Bool) (R : List Sg) : nI b R 0 = 0 := rfl
theorem tot_take {R : List Sg} {j : Nat} {r : Sg} (h : R[j]? = some r) : tot (R.take (j + 1)) = tot (R.take j) + r.1 := by rw [take_snoc7 h, tot_append, tot_one]
theorem nI_in {b : Bool} {R : List Sg} {j : Nat} {n c : Int} (h : R[j]? = some (n, c)) (hc : decide (0 < c) = b) : nI b R (j + 1) = nI b R j + 1 := by
  unfold nI
  rw [take_snoc7 h, ivf_append, List.length_append]
  simp only [ivf]
  rw [if_pos hc]; rfl
theorem nI_out {b : Bool} {R : List Sg} {j : Nat} {n c : Int} (h : R[j]? = some (n, c)) (hc : decide (0 < c) ≠ b) : nI b R (j + 1) = nI b R j := by
  unfold nI
  rw [take_snoc7 h, ivf_append, List.length_append]
  simp only [ivf]
  rw [if_neg hc]; rfl
theorem ivf_cut (b : Bool) {R : List Sg} {j : Nat} {r : Sg} (h : R[j]? = some r) : ivf b 0 R = ivf b 0 (R.take j) ++ ivf b (tot (R.take j)) (r :: R.drop (j + 1)) := by
  have hj := (List.getElem?_eq_some_iff.1 h).1
  have e : R = R.take j ++ r :: R.drop (j + 1) := by
    have : R[j] = r := by rw [List.getElem?_eq_getElem hj] at h; exact Option.some.inj h
    rw [← this, ← List.drop_eq_getElem_cons hj, List.take_append_drop]
  have := ivf_append b (R.take j) (r :: R.drop (j + 1)) 0
  rw [← e, Int.zero_add] at this
  exact this
theorem iv_get {b : Bool} {R : List Sg} {j : Nat} {n c : Int} (h : R[j]? = some (n, c)) (hc : decide (0 < c) = b) : (ivf b 0 R)[nI b R j]? = some (tot (R.take j), tot (R.take j) + n) := by
  rw [ivf_cut b h]
  unfold nI
  rw [List.getElem?_append_right (Nat.le_refl _), Nat.sub_self]
  simp only [ivf]
  rw [if_pos hc]; rfl
theorem iv_other {b : Bool} {R : List Sg} {j : Nat} {n c f t : Int} (hp : ∀ r ∈ R, 1 ≤ r.1) (h : R[j]? = some (n, c)) (hc : decide (0 < c) ≠ b) (hg : (ivf b 0 R)[nI b R j]? = some (f, t)) : f ≠ tot (R.take j) := by
  rw [ivf_cut b h] at hg
  unfold nI at hg
  rw [List.getElem?_append_right (Nat.le_refl _), Nat.sub_self] at hg
  simp only [ivf] at hg
  rw [if_neg hc] at hg
  have hm := List.mem_of_getElem? hg
  have h1 := (ivf_in (fun r hr => hp r (List.mem_of_mem_drop hr)) _ hm).1
  have h2 := hp _ (List.mem_of_getElem? h)
  simp only at h1 h2
  omega
theorem nI_all (b : Bool) (R : List Sg) : nI b R R.length = (ivf b 0 R).length := by unfold nI; rw [List.take_length]
theorem nI_sum (R : List Sg) : ∀ j, j ≤ R.length → nI true R j + nI false R j = j
  | 0, _ => rfl
  | j + 1, hj => by
    have ih := nI_sum R j (by omega)
    obtain ⟨⟨n, c⟩, hr⟩ : ∃ r, R[j]? = some r := ⟨R[j], List.getElem?_eq_getElem (by omega)⟩
    by_cases hc : 0 < c
    · rw [nI_in hr (decide_eq_true hc), nI_out hr (by rw [decide_eq_true hc]; simp)]; omega
    · rw [nI_out hr (by rw [decide_eq_false hc]; simp), nI_in hr (decide_eq_false hc)]; omega
theorem nI_le (b : Bool) (R : List Sg) (j : Nat) : nI b R j ≤ (ivf b 0 R).length := by
  unfold nI
  have e := congrArg (ivf b 0) (List.take_append_drop j R)
  rw [ivf_append] at e
  have := congrArg List.length e
  rw [List.length_append] at this
  omega
theorem tot_nonneg {R : List Sg} (hp : ∀ r ∈ R, 1 ≤ r.1) (j : Nat) : 0 ≤ tot (R.take j) ∧ tot (R.take j) ≤ tot R := by
  have h1 : tot (R.take j) = (xp (R.take j)).length := tot_xp (fun r hr => hp r (List.mem_of_mem_take hr))
  have h2 := tot_xp hp
  have := xp_take_le R j
  omega
/-- One step of the way along both kinds of runs. -/
theorem both_step {R : List Sg} (hp : ∀ r ∈ R, 1 ≤ r.1) {i k : Nat} (hj : i + k < R.length) (hi : i = nI true R (i + k)) (hk : k = nI false R (i + k)) :
    ∃ t, tot (R.take (i + k)) < t ∧ t = tot (R.take (i + k + 1)) ∧
      (((ivf true 0 R)[i]? = some (tot (R.take (i + k)), t) ∧ i + 1 = nI true R (i + k + 1) ∧ k = nI false R (i + k + 1)) ∨
       ((ivf false 0 R)[k]? = some (tot (R.take (i + k)), t) ∧ i = nI true R (i + k + 1) ∧ k + 1 = nI false R (i + k + 1) ∧ ∀ f u, (ivf true 0 R)[i]? = some (f, u) → f ≠ tot (R.take (i + k)))) := by
  obtain ⟨⟨n, c⟩, hr⟩ : ∃ r, R[i + k]? = some r := ⟨R[i + k], List.getElem?_eq_getElem hj⟩
  have hn := hp _ (List.mem_of_getElem? hr)
  simp only at hn
  refine ⟨tot (R.take (i + k)) + n, by omega, (tot_take hr).symm, ?_⟩
  by_cases hc : 0 < c
  · left
    have h1 := iv_get hr (decide_eq_true hc)
    rw [← hi] at h1
    refine ⟨h1, ?_, ?_⟩
    · rw [nI_in hr (decide_eq_true hc)]; omega
    · rw [nI_out hr (by rw [decide_eq_true hc]; simp)]; omega
  · right
    have h1 := iv_get hr (decide_eq_false hc)
    rw [← hk] at h1
    refine ⟨h1, ?_, ?_, ?_⟩
    · rw [nI_out hr (by rw [decide_eq_false hc]; simp)]; omega
    · rw [nI_in hr (decide_eq_false hc)]; omega
    · intro f u hfu
      rw [hi] at hfu
      exact iv_other hp hr (by rw [decide_eq_false hc]; simp) hfu
end Go.Proofs.Ytbkjcibfcpejfaa
