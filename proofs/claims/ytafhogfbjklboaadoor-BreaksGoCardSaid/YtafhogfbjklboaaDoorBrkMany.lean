/- BreaksMany walked. -/
import Derived.Test.YtafhogfbjklboaaDoorBrkLWrap
namespace Go.Proofs.YtafhogfbjklboaaDoor
open Go.RowKit Go.Sort
set_option linter.unusedSimpArgs false
set_option linter.unusedVariables false

/-- The first odd places. -/
def od (k : Nat) : List Int := (List.range k).map fun i : Nat => 2 * (i : Int) + 1
theorem od_put : ∀ k : Nat, k < 60 → pbE (2 * (k : Int) + 1) (od k) = 0 ∧ pbL (2 * (k : Int) + 1) (od k) = od (k + 1) := by decide +kernel
theorem od_last : ∀ k : Nat, k < 60 → pbE (2 * (k : Int) + 2) (od 60) = 70 ∧ pbE (2 * (k : Int) + 1) (od 60) = 0 ∧ pbL (2 * (k : Int) + 1) (od 60) = od 60 ∧ tkE (2 * (k : Int) + 1) (od 60) = 0 ∧ (tkL (2 * (k : Int) + 1) (od 60)).length = 59 ∧
    pbE (2 * (k : Int) + 2) (tkL (2 * (k : Int) + 1) (od 60)) = 0 ∧ (pbL (2 * (k : Int) + 2) (tkL (2 * (k : Int) + 1) (od 60))).length = 60 := by decide +kernel
theorem od_len (k : Nat) : (od k).length = k := by simp [od]
theorem kb_9 : pbE 0 [] = 12 ∧ pbE 20000 [] = 12 := by decide
theorem put_w16 {w : World} {v : Value} {L M : List Int} {y e : Int} (h : NAt w v L) (hl : L.length ≤ 1000) (he : pbE y L = e) (hM : pbL y L = M) :
    Calls Tryd.prog 11 #[v, .int .i64 y] w fun r w' => ∃ v', r = .returned (.tuple #[v', .int .i64 e]) ∧ NAt w' v' M ∧ Below w.heap.size w w' := by
  subst he hM
  exact put_any16 y h (by omega)
theorem take_w16 {w : World} {v : Value} {L M : List Int} {y e : Int} (h : NAt w v L) (hl : L.length ≤ 1000) (he : tkE y L = e) (hM : tkL y L = M) :
    Calls Tryd.prog 13 #[v, .int .i64 y] w fun r w' => ∃ v', r = .returned (.tuple #[v', .int .i64 e]) ∧ NAt w' v' M ∧ Below w.heap.size w w' := by
  subst he hM
  exact take_any16 y h (by omega)
set_option maxHeartbeats 4000000 in
set_option maxRecDepth 100000 in
theorem many_any16 (n : Int) (w : World) (h0 : 0 ≤ n ∧ n ≤ 255) (hU : UT w) :
    Calls Tryd.prog 8 #[.int .u8 n] w fun e w' => e = .returned (.bool true) ∧ Below w.heap.size w w' := by
  have HK := Hid.mk7 (known16_any w hU)
  clear hU
  go_enter Tryd.func8, Tryd.ntmps8
  go_wp2_with fail
  refine HK.out.mono ?_
  rintro e w0 ⟨rfl, b0⟩
  have G0 := Hid.mk7 b0
  have V0 : Hid (NAt w0 (.slice none 0 0) (od 0)) := nat_nil w0
  clear b0 HK
  go_wp2
  go_loopw [3, 4] (fun mv iv wr => ∃ k : Nat, k ≤ 60 ∧ iv = .int .i64 (k : Nat) ∧ Hid (NAt wr mv (od k)) ∧ Hid (Below w.heap.size w wr)) (fun _ iv _ => 60 - (intOf iv).toNat)
  case atStart => exact ⟨0, Nat.zero_le _, rfl, V0, G0⟩
  case round =>
    obtain ⟨k, hk, rfl, HV, HB⟩ := hrel
    by_cases hlt : k < 60
    · obtain ⟨e1, e2⟩ := od_put k hlt
      have HP := Hid.mk7 (put_w16 HV.out (by rw [od_len]; omega) e1 e2)
      clear e1 e2
      go_wp2_with fail
      refine HP.out.mono ?_
      rintro e w1 ⟨v1, rfl, h1, b1⟩
      have H1 := Hid.mk7 h1
      have G1 := Hid.mk7 (below_old HB.out b1)
      clear h1 b1 HP HV HB
      go_wp2
      go_roundw
      case rel => exact ⟨k + 1, by omega, by go_num, H1, G1⟩
      case measure => simp [intOf]; omega
    · obtain rfl : k = 60 := by omega
      have hq : (((n % 60).toNat : Nat) : Int) = n % 60 := by omega
      have hall := od_last (n % 60).toNat (by omega)
      rw [hq] at hall
      obtain ⟨q1, q2, q3, q4, q5, q6, q7⟩ := hall
      obtain ⟨M, hM⟩ : ∃ M, tkL (2 * (n % 60) + 1) (od 60) = M := ⟨_, rfl⟩
      obtain ⟨N, hN⟩ : ∃ N, pbL (2 * (n % 60) + 2) M = N := ⟨_, rfl⟩
      rw [hM] at q5 q6 q7
      rw [hN] at q7
      obtain ⟨va, ca, hsh⟩ := nat_shape HV.out
      subst hsh
      have C1 := Hid.mk7 (fun (W : World) (h : NAt W (.slice va (od 60).length ca) (od 60)) => put_w16 h (by rw [od_len]; omega) q1 rfl)
      have C2 := Hid.mk7 (fun (W : World) (h : NAt W (.slice va (od 60).length ca) (od 60)) => put_w16 h (by rw [od_len]; omega) q2 q3)
      have C3 := Hid.mk7 (fun (W : World) (h : NAt W (.slice va (od 60).length ca) (od 60)) => take_w16 h (by rw [od_len]; omega) q4 hM)
      have C4 := Hid.mk7 (fun (W : World) (u : Value) (h : NAt W u M) => put_w16 h (by omega) q6 hN)
      have HQ := Hid.mk7 q5
      have HR := Hid.mk7 q7
      have ho : (od 60).length = 60 := od_len 60
      clear q1 q2 q3 q4 q5 q6 q7 hM hN hq
      go_wp2_with fail
      refine (C1.out _ HV.out).mono ?_
      rintro e w1 ⟨v1, rfl, _, b1⟩
      have H1 := Hid.mk7 (HV.out.later b1)
      have G1 := Hid.mk7 (below_old HB.out b1)
      clear b1 HV HB
      go_wp2_with fail
      refine (C2.out _ H1.out).mono ?_
      rintro e w2 ⟨v2, rfl, m2, b2⟩
      have H2 := Hid.mk7 (H1.out.later b2)
      have M2 := Hid.mk7 m2
      have G2 := Hid.mk7 (below_old G1.out b2)
      clear b2 m2 H1 G1
      go_wp2_with fail
      refine (C3.out _ H2.out).mono ?_
      rintro e w3 ⟨v3, rfl, m3, b3⟩
      have H3 := Hid.mk7 (H2.out.later b3)
      have M3 := Hid.mk7 (M2.out.later b3)
      have G3 := Hid.mk7 (below_old G2.out b3)
      have T3 := Hid.mk7 m3
      obtain ⟨ta, tc, rfl⟩ := nat_shape m3
      rw [HQ.out] at T3 ⊢
      clear b3 m3 H2 M2 G2
      go_wp2_with fail
      refine (C4.out _ _ T3.out).mono ?_
      rintro e w4 ⟨v4, rfl, m4, b4⟩
      have H4 := Hid.mk7 (H3.out.later b4)
      have M4 := Hid.mk7 (M3.out.later b4)
      have G4 := Hid.mk7 (below_old G3.out b4)
      obtain ⟨ua, uc, rfl⟩ := nat_shape m4
      rw [HR.out]
      clear b4 m4 H3 M3 G3 T3
      go_wp2_with fail
      refine (put_w16 (nat_nil _) (by simp) kb_9.1 rfl).mono ?_
      rintro e w5 ⟨v5, rfl, _, b5⟩
      have H5 := Hid.mk7 (H4.out.later b5)
      have M5 := Hid.mk7 (M4.out.later b5)
      have G5 := Hid.mk7 (below_old G4.out b5)
      clear b5 H4 M4 G4
      go_wp2_with fail
      refine (put_w16 (nat_nil _) (by simp) kb_9.2 rfl).mono ?_
      rintro e w6 ⟨v6, rfl, _, b6⟩
      have HS := Hid.mk7 (same_yes16 (M5.out.later b6) (H5.out.later b6) (by omega))
      have G6 := Hid.mk7 (below_old G5.out b6)
      clear b6 H5 M5 G5 C1 C2 C3 C4
      go_wp2_with fail
      refine HS.out.mono ?_
      rintro e w7 ⟨rfl, b7⟩
      have G7 := Hid.mk7 (below_old G6.out b7)
      have d60 : (((od 60).length : Int) == 60) = true := by rw [ho]; rfl
      clear b7
      go_wp2
      go_ret
      exact ⟨rfl, G7.out⟩
end Go.Proofs.YtafhogfbjklboaaDoor
