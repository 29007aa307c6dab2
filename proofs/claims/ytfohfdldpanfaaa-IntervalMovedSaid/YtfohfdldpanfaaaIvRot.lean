/- slices.rotateCmpFunc. -/
import Derived.Test.YtfohfdldpanfaaaIvRow
namespace Go.Proofs.Ytfohfdldpanfaaa
open Go.Shelf Go.RowKit Go.Lib Go.Sort
set_option linter.unusedSimpArgs false
set_option linter.unusedVariables false

set_option maxHeartbeats 4000000 in
set_option maxRecDepth 1000000 in
theorem rotate_any (g : Nat) (cb : Array Value) (blk off cap a m b : Nat) (d0 d : Array (Int × Int)) (w0 w : World)
    (R : RowK encI 2 w0 blk off d0) (hs : d0.size = d.size) (S : SWK encI 2 w0 blk off d w) (ham : a < m) (hmb : m < b) (hb : b ≤ d.size) (hsz : d.size < 4611686018427387904) :
    Calls Try.prog 28 #[.slice (some ⟨blk, off, none⟩) d.size cap, .int .i64 a, .int .i64 m, .int .i64 b, .func (.func g) #[] cb] w fun e w' => e = .returned (.tuple #[]) ∧ ∃ d', Rot a m b d d' ∧ SWK encI 2 w0 blk off d' w' := by
  have S0 : Aside (SWK encI 2 w0 blk off d w) := S
  clear S
  have e1 : (m : Int) - (a : Int) = ((m - a : Nat) : Int) := by omega
  have e2 : (b : Int) - (m : Int) = ((b - m : Nat) : Int) := by omega
  have HX : Hid (∀ (A B N : Nat) (D : Array (Int × Int)) (W : World), D.size = d.size → SWK encI 2 w0 blk off D W → A + N ≤ B → B + N ≤ d.size → Calls Try.prog 29 #[.slice (some ⟨blk, off, none⟩) d.size cap, .int .i64 A, .int .i64 B, .int .i64 N, .func (.func g) #[] cb] W fun e w' => e = .returned (.tuple #[]) ∧ SWK encI 2 w0 blk off (swr D A B N) w') := fun A B N D W hD hS h1 h2 => by
    have := swapRange_any g cb blk off cap A B N d0 D w0 W R (by omega) hS h1 (by omega) (by omega)
    rwa [hD] at this
  go_enter Try.func28, Try.ntmps28
  go_wp2
  go_loopg [10, 11] (b - a) (fun kx s10 s11 wr => ∃ (i j : Nat) (dk : Array (Int × Int)), s10 = .int .i64 i ∧ s11 = .int .i64 j ∧ 1 ≤ i ∧ 1 ≤ j ∧ i + a ≤ m ∧ m + j ≤ b ∧ i + j ≤ kx ∧ dk.size = d.size ∧ Aside (SWK encI 2 w0 blk off dk wr) ∧ Hid (∀ f, Rot (m - i) m (m + j) dk f → Rot a m b d f))
  case atStart => exact ⟨m - a, b - m, d, rfl, rfl, by omega, by omega, by omega, by omega, by omega, rfl, S0, (fun f h => by rwa [show m - (m - a) = a from by omega, show m + (b - m) = b from by omega] at h)⟩
  case round =>
    clear S0
    obtain ⟨i, j, dk, rfl, rfl, hi1, hj1, him, hjb, hkx, hds, S1, HF⟩ := hrel
    have z1 : (m : Int) - (i : Int) = ((m - i : Nat) : Int) := by omega
    by_cases hij : i = j
    · subst hij
      have hne : ((i : Int) != (i : Int)) = false := by simp
      have hc := HX.out (m - i) m i dk wr hds S1.out (by omega) (by omega)
      have HE : Hid (Rot a m b d (swr dk (m - i) m i)) := HF.out _ (rot_even (by omega) (by omega))
      clear S1 HF
      go_wp2_with (go_at_call 29; refine hc.mono ?_; rintro e w1 ⟨rfl, S3⟩)
      go_end0
      exact ⟨rfl, _, HE.out, S3⟩
    · have hne : ((i : Int) != (j : Int)) = true := by simp; omega
      by_cases hgt : j < i
      · have hgz : decide ((i : Int) > (j : Int)) = true := by simp; omega
        have hgz2 : (j : Int) < (i : Int) := by omega
        have z2 : (i : Int) - (j : Int) = ((i - j : Nat) : Int) := by omega
        have hc := HX.out (m - i) m j dk wr hds S1.out (by omega) (by omega)
        clear S1
        go_wp2_with (go_at_call 29; refine hc.mono ?_; rintro e w1 ⟨rfl, S3⟩)
        go_roundg (i - j + j)
        case measure => omega
        case rel => exact ⟨i - j, j, swr dk (m - i) m j, rfl, rfl, by omega, hj1, by omega, hjb, Nat.le_refl _, by rw [size_swr]; exact hds, S3, (fun f h => HF.out f (rot_left (by omega) (by omega) hgt (by rwa [show m - i + j = m - (i - j) from by omega])))⟩
      · have hgz : decide ((i : Int) > (j : Int)) = false := by simp; omega
        have hgz2 : ¬ (j : Int) < (i : Int) := by omega
        have z2 : (j : Int) - (i : Int) = ((j - i : Nat) : Int) := by omega
        have z3 : (m : Int) + (j : Int) - (i : Int) = ((m + j - i : Nat) : Int) := by omega
        have hc := HX.out (m - i) (m + j - i) i dk wr hds S1.out (by omega) (by omega)
        clear S1
        go_wp2_with (go_at_call 29; refine hc.mono ?_; rintro e w1 ⟨rfl, S3⟩)
        go_roundg (i + (j - i))
        case measure => omega
        case rel => exact ⟨i, j - i, swr dk (m - i) (m + j - i) i, rfl, rfl, hi1, by omega, him, by omega, Nat.le_refl _, by rw [size_swr]; exact hds, S3, (fun f h => HF.out f (rot_right (by omega) (by omega) (by omega) (by rw [show m + (j - i) = m + j - i from by omega] at h; exact h)))⟩
end Go.Proofs.Ytfohfdldpanfaaa
