/- way. -/
import Derived.Test.YtbpklbhaoemkkabDoorSl
namespace Go.Proofs.YtbpklbhaoemkkabDoor
open Go.RowKit Go.Sort
set_option linter.unusedSimpArgs false
set_option linter.unusedVariables false

set_option maxHeartbeats 1000000 in
set_option maxRecDepth 100000 in
/-- way: which kid has the leaf, and where. -/
theorem way_any (E : Env) (A : Nat → Prop) (d g : Nat) (ks : List (Nat × List ByteArray)) (kb off cap at0 : Nat) (w : World) (hl : (ks.flatMap Prod.snd).length ≤ 1099511627776) (hkl : ks.length ≤ 3)
    (hN : ∀ k ∈ ks, NdA E A w d k.1 k.2) (h7 : w.cell? ⟨g, 7, none⟩ = some (.slice (some ⟨kb, off, none⟩) ks.length cap)) (hP : Ptrs w kb off (ks.map Prod.fst)) (hat : at0 < (ks.flatMap Prod.snd).length) :
    Calls Tryd.prog 45 #[.pointer (some ⟨g, 0, none⟩), .int .i64 (at0 : Nat)] w fun e w' => ∃ (i j : Nat) (k : Nat × List ByteArray), e = .returned (.tuple #[.int .i64 (i : Nat), .int .i64 (j : Nat)]) ∧ ks[i]? = some k ∧ at0 = ((ks.take i).flatMap Prod.snd).length + j ∧ j < k.2.length ∧ w' = w := by
  have HN := Hid.mk4 hN
  have HP := Hid.mk4 hP
  have HL := Hid.mk4 hl
  have HAT := Hid.mk4 hat
  clear hN hP hl hat
  go_enter Tryd.func45, Tryd.ntmps45
  go_wp2
  go_loopw [1, 6] (fun at_ ii wr => ∃ (i j : Nat), at_ = .int .i64 (j : Nat) ∧ ii = .int .i64 (i : Nat) ∧ Hid (at0 = ((ks.take i).flatMap Prod.snd).length + j) ∧ i < ks.length ∧ wr = w) (fun _ ii _ => ks.length - (intOf ii).toNat)
  case atStart =>
    refine ⟨0, at0, rfl, rfl, by show _ = _; simp, ?_, rfl⟩
    have := HAT.out
    rcases Nat.lt_or_ge 0 ks.length with h | h
    · exact h
    · have : ks = [] := List.eq_nil_of_length_eq_zero (by omega)
      subst this
      simp at *
  case round =>
    obtain ⟨i, j, rfl, rfl, HJ, hi, rfl⟩ := hrel
    obtain ⟨k, hk⟩ : ∃ k, ks[i]? = some k := ⟨ks[i], List.getElem?_eq_getElem hi⟩
    have pk : wr.cell? ⟨kb, off + i, none⟩ = some (.pointer (some ⟨k.1, 0, none⟩)) := HP.out i _ (by simp [hk])
    have nk := HN.out k (List.mem_of_getElem? hk)
    have s1 := nk.cells.2.1
    have HT := Hid.mk4 (take_flat hk)
    have hb := take_flat_le ks (i + 1)
    rw [HT.out, List.length_append] at hb
    have hjl : j ≤ 1099511627776 := by have := HJ.out; have := HAT.out; have := HL.out; omega
    have hkk : k.2.length ≤ 1099511627776 := by have := HL.out; omega
    have HK := Hid.mk4 hk
    clear nk hb hk
    by_cases hlt : j < k.2.length
    · have t1 : decide ((j : Int) ≥ (k.2.length : Int)) = false := by simp; omega
      have t2 : decide ((k.2.length : Int) ≤ (j : Int)) = false := by simp; omega
      have t3 : decide (k.2.length ≤ j) = false := by simp; omega
      go_wp2
      go_ret2
      exact ⟨i, j, k, rfl, HK.out, HJ.out, hlt, rfl⟩
    · have t1 : k.2.length ≤ j := by omega
      have HJ2 : Hid (at0 = ((ks.take (i + 1)).flatMap Prod.snd).length + (j - k.2.length)) := by
        show _ = _
        rw [HT.out, List.length_append, HJ.out]
        omega
      have hi2 : i + 1 < ks.length := by
        rcases Nat.lt_or_ge (i + 1) ks.length with h | h
        · exact h
        · have h1 := HJ2.out
          rw [List.take_of_length_le h] at h1
          have := HAT.out
          omega
      clear hlt
      go_wp2
      go_roundw
      case rel => exact ⟨i + 1, j - k.2.length, by go_num, by go_num, HJ2, hi2, trivial⟩
      case measure => simp [intOf]; omega
end Go.Proofs.YtbpklbhaoemkkabDoor
