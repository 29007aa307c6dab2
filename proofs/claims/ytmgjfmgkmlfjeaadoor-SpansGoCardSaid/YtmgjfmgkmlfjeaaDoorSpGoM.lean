/- Styles go along with a text that is put in: plain mathematics of SpansGo. -/
import Derived.Test.YtmgjfmgkmlfjeaaDoorSpEdit
import Derived.Test.YtmgjfmgkmlfjeaaDoorSpProg
namespace Go.Proofs.YtmgjfmgkmlfjeaaDoor
set_option linter.unusedSimpArgs false
set_option linter.unusedVariables false

/-- Whether a place lies within one of these spans. -/
def insB (l : List Sp) (p : Int) : Bool := l.any fun x => decide (x.1 < p) && decide (p < x.2.1)
theorem insB_take {l : List Sp} {i : Nat} {x y z p : Int} (h : l[i]? = some (x, y, z)) : insB (l.take (i + 1)) p = (insB (l.take i) p || (decide (x < p) && decide (p < y))) := by
  have e : l.take (i + 1) = l.take i ++ [(x, y, z)] := by rw [List.take_add_one, h]; rfl
  unfold insB
  rw [e, List.any_append]
  simp
theorem insB_spec {l : List Sp} {p : Int} : insB l p = true ↔ ∃ x ∈ l, x.1 < p ∧ p < x.2.1 := by
  unfold insB
  rw [List.any_eq_true]
  simp
/-- What SpansGo asks. -/
structure Gone (N p t : Nat) (M U : List Sp) : Prop where
  iu : isS ((N : Int) + (t : Nat)) U = true
  ln : U.length ≤ 60
  lo : ∀ i : Nat, i < p → atS U i = atS M i
  hi : ∀ i : Nat, p ≤ i → i < N → atS U ((i : Int) + (t : Nat)) = atS M i
  ins : ∀ j : Nat, j < t → atS U ((p : Int) + (j : Nat)) = if insB M p = true then atS M p else 0
theorem gone_of {N p : Nat} {T : List UInt8} {M : List Sp} (hN : N ≤ 1000) (hp : p ≤ N) (hT : T.length ≤ 1000) (hv : vld T = true) (hM : OkS N 0 0 M) (hl : M.length ≤ 60) :
    flt N [((p : Int), (p : Int), T)] = 0 ∧ isB N (elG N [] 0 [((p : Int), (p : Int), T)]) = true ∧ Gone N p T.length M (edS N (elG N [] 0 [((p : Int), (p : Int), T)]) M) := by
  have hf := flt_one14 hN (Nat.le_refl p) hp hT hv
  obtain ⟨hi, hc⟩ := built14 hf elG_one14
  have hc2 := hc
  rw [bce_one_change] at hc2
  have hlen : ((cel (elG N [] 0 [((p : Int), (p : Int), T)])).length : Int) = (N : Int) + (T.length : Nat) := by
    rw [hc2, List.length_append, List.length_append, rng_len, own_len, rng_len]
    omega
  obtain ⟨o1, o2⟩ := edS_ok hi hlen hM
  have o3 := edS_len N (elG N [] 0 [((p : Int), (p : Int), T)]) M
  refine ⟨hf, hi, isS_spec.2 ⟨by omega, o1.mono (by omega)⟩, by omega, fun i h => ?_, fun i h1 h2 => ?_, fun j h => ?_⟩
  · have e : cel (elG N [] 0 [((p : Int), (p : Int), T)]) = rng 0 (i : Int) ++ ((i : Int), 0) :: (rng ((i : Int) + 1) p ++ (ownT T ++ rng p N)) := by
      rw [hc2, rng_split (show (0 : Int) ≤ (i : Int) by omega) (show (i : Int) ≤ (p : Int) by omega), rng_cons (show (i : Int) < (p : Int) by omega), List.append_assoc, List.cons_append]
    have := at_mov hi (i := (i : Int)) (by omega) e M 0 0 hM (Int.le_refl _)
    rw [rng_len, show (((i : Int) - 0).toNat : Int) = (i : Int) by omega] at this
    rw [o2, this]
  · have e : cel (elG N [] 0 [((p : Int), (p : Int), T)]) = (rng 0 (p : Int) ++ (ownT T ++ rng p (i : Int))) ++ ((i : Int), 0) :: rng ((i : Int) + 1) N := by
      rw [hc2, rng_split (show (p : Int) ≤ (i : Int) by omega) (show (i : Int) ≤ (N : Int) by omega), rng_cons (show (i : Int) < (N : Int) by omega), List.append_assoc, List.append_assoc]
    have := at_mov hi (i := (i : Int)) (by omega) e M 0 0 hM (Int.le_refl _)
    rw [List.length_append, List.length_append, rng_len, own_len, rng_len, show (((((p : Int) - 0).toNat + (T.length + ((i : Int) - (p : Int)).toNat)) : Nat) : Int) = (i : Int) + (T.length : Nat) by omega] at this
    rw [o2, this]
  · rw [o2, at_mov_ins hi hc hp h M 0 0 hM (Int.le_refl _)]
    by_cases hx : insB M p = true
    · rw [if_pos hx, if_pos (insB_spec.1 hx)]
    · rw [if_neg hx, if_neg (fun h => hx (insB_spec.2 h))]
/-- A span that may be put among these. -/
theorem put_go {N : Nat} {M : List Sp} {x y z : Int} (hN : N ≤ 1000) (hM : OkS N 0 0 M) (hl : M.length ≤ 30) (h0 : 0 ≤ x) (h1 : x ≤ y) (h2 : y ≤ N) (h3 : 0 ≤ z) (h4 : z ≤ 100) :
    putE M (x, y, z) = 0 ∧ OkS N 0 0 (putL M (x, y, z)) ∧ (putL M (x, y, z)).length ≤ M.length + 2 := by
  have hpl := putS_len (S := z) hM h1
  obtain ⟨e1, e2⟩ := putE_ok (l := M) (x := (x, y, z)) ⟨isS_spec.2 ⟨by omega, hM.mono (by omega)⟩, toP_spec.2 (by omega)⟩ (by omega)
  rw [e2]
  exact ⟨e1, (putS_ok hM h0 h1 h2 h3 h4).1, hpl⟩
end Go.Proofs.YtmgjfmgkmlfjeaaDoor
