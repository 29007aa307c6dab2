/- CountBack, walked: it answers true at every text. -/
import Derived.Test.YthlmfmaiecmebaaDoorKnownC
import Derived.Test.YthlmfmaiecmebaaDoorCntTo
import Derived.Test.YthlmfmaiecmebaaDoorRefEdge
namespace Go.Proofs.YthlmfmaiecmebaaDoor
open Go.RowKit Go.Sort

set_option maxHeartbeats 1000000 in
set_option maxRecDepth 100000 in
theorem cback_long (s : ByteArray) (hs : s.size ≤ maxLen) (hlong : 120 < s.size) (w : World) (tb : Nat × Nat) (hT : Tabs w tb) :
    Calls Tryd.prog 5 #[.string s] w fun e w' => e = .returned (.bool true) ∧ Below w.heap.size w w' := by
  unfold maxLen at hs
  have h1 : (120 : Int) < s.size := by omega
  go_enter Tryd.func5, Tryd.ntmps5
  go_wp2_with fail
  refine (known2_any _ tb hT).mono ?_
  rintro e w1 ⟨rfl, b1⟩
  go_wp2
  go_ret
  exact ⟨rfl, b1⟩

set_option maxHeartbeats 1000000 in
set_option maxRecDepth 100000 in
theorem cback_bad (s : ByteArray) (hs : s.size ≤ 120) (hv : vld s.data.toList = false) (w : World) (tb : Nat × Nat) (hT : Tabs w tb) :
    Calls Tryd.prog 5 #[.string s] w fun e w' => e = .returned (.bool true) ∧ Below w.heap.size w w' := by
  have h1 : decide ((120 : Int) < s.size) = false := by simp; omega
  have HV : Hid (∀ W, Calls Tryd.prog 20 #[.string s] W fun e w' => e = .returned (.bool false) ∧ w' = W) := fun W => by have := refvalid_any s W (by unfold maxLen; omega); rwa [hv] at this
  clear hv
  go_enter Tryd.func5, Tryd.ntmps5
  go_wp2_with fail
  refine (known2_any _ tb hT).mono ?_
  rintro e w1 ⟨rfl, b1⟩
  go_wp2_with fail
  refine (HV.out _).mono ?_
  rintro e w2 ⟨rfl, rfl⟩
  go_wp2
  go_ret
  exact ⟨rfl, b1⟩

/-- What the inner round needs, of a place and a kind. -/
theorem cback_step (s : ByteArray) (hs : s.size ≤ 120) (hv : vld s.data.toList = true) (tb : Nat × Nat) (i k : Nat) (hi : i ≤ s.size) (hk : k ≤ 3) :
    ((∀ W, Calls Tryd.prog 21 #[.string s, .int .i64 (i : Nat)] W fun e w' => e = .returned (.bool false) ∧ w' = W) ∧
      (∀ W, Tabs W tb → Calls Tryd.prog 12 #[.string s, .int .i64 (k : Nat), .int .i64 (i : Nat)] W fun e w' => e = .returned (.tuple #[.int .i64 0, .int .i64 11]) ∧ Below W.heap.size W w')) ∨
    ((∀ W, Calls Tryd.prog 21 #[.string s, .int .i64 (i : Nat)] W fun e w' => e = .returned (.bool true) ∧ w' = W) ∧ ∃ (n : Int) (b : Nat),
      (∀ W, Tabs W tb → Calls Tryd.prog 12 #[.string s, .int .i64 (k : Nat), .int .i64 (i : Nat)] W fun e w' => e = .returned (.tuple #[.int .i64 n, .int .i64 0]) ∧ Below W.heap.size W w') ∧
      (∀ W, Tabs W tb → Calls Tryd.prog 10 #[.string s, .int .i64 (k : Nat), .int .i64 n] W fun e w' => e = .returned (.tuple #[.int .i64 (b : Nat), .int .i64 0]) ∧ Below W.heap.size W w') ∧
      b ≤ i ∧ (k ≤ 2 → b = i) ∧ (k = 3 → b = 0 ∨ ∃ hb : b - 1 < s.size, 0 < b ∧ (s[b - 1]'hb).toNat = 10)) := by
  have HE := fun W => refedge_any s i W (by unfold maxLen; omega)
  cases he : edg s i with
  | false =>
    left
    refine ⟨fun W => by have := HE W; rwa [he] at this, fun W h => ?_⟩
    have := from_any s k i W tb (by omega) h
    have hf := fr_within hv hi he k hk
    rwa [hf.1, hf.2] at this
  | true =>
    right
    obtain ⟨cs1, cs2, e1, e2⟩ := edge_split hv he
    have hf := fr_edge hv e1 k hk
    rw [← e2] at hf
    by_cases hk2 : k ≤ 2
    · have ht := to_edge_same hv e1 k hk2
      rw [← e2] at ht
      refine ⟨fun W => by have := HE W; rwa [he] at this, kG k cs1, i, fun W h => ?_, fun W h => ?_, Nat.le_refl _, fun _ => rfl, fun h3 => by omega⟩
      · have := from_any s k i W tb (by omega) h
        rwa [hf.1, hf.2] at this
      · have := to_any s k (kG k cs1) W tb (by omega) h
        rwa [ht.1, ht.2] at this
    · obtain rfl : k = 3 := by omega
      obtain ⟨t1, b, t2, t3, t4⟩ := to_edge_lines hv e1
      refine ⟨fun W => by have := HE W; rwa [he] at this, kG 3 cs1, b, fun W h => ?_, fun W h => ?_, by omega, fun h3 => by omega, fun _ => t4⟩
      · have := from_any s (3 : Nat) i W tb (by omega) h
        rwa [hf.1, hf.2] at this
      · have := to_any s 3 (kG 3 cs1) W tb (by omega) h
        rwa [t1, t2] at this

set_option maxHeartbeats 2000000 in
set_option maxRecDepth 100000 in
theorem cback_good (s : ByteArray) (hs : s.size ≤ 120) (hv : vld s.data.toList = true) (w : World) (tb : Nat × Nat) (hT : Tabs w tb) :
    Calls Tryd.prog 5 #[.string s] w fun e w' => e = .returned (.bool true) ∧ Below w.heap.size w w' := by
  have h1 : decide ((120 : Int) < s.size) = false := by simp; omega
  have HV : Hid (∀ W, Calls Tryd.prog 20 #[.string s] W fun e w' => e = .returned (.bool true) ∧ w' = W) := fun W => by have := refvalid_any s W (by unfold maxLen; omega); rwa [hv] at this
  have HS : Hid (∀ i k : Nat, i ≤ s.size → k ≤ 3 → _) := Hid.mk4 (fun i k hi hk => cback_step s hs hv tb i k hi hk)
  have hc : ∀ k : Nat, k ≤ 3 → ctb s k = true := fun k hk => by unfold ctb; rw [hv, Bool.and_true]; simp; omega
  have HF : Hid (∀ W, Tabs W tb → Calls Tryd.prog 12 #[.string s, .int .i64 0, .int .i64 ((s.size : Int) + 1)] W fun e w' => e = .returned (.tuple #[.int .i64 0, .int .i64 10]) ∧ Below W.heap.size W w') := fun W h => by
    have := from_any s 0 ((s.size : Int) + 1) W tb (by omega) h
    have h0 := hc 0 (by omega)
    have eB : frB s 0 ((s.size : Int) + 1) = 0 := by unfold frB; rw [if_neg (by rw [show ctb s 0 = true from h0]; simp), if_pos (by omega)]
    have eE : frE s 0 ((s.size : Int) + 1) = 10 := by unfold frE; rw [if_neg (by rw [show ctb s 0 = true from h0]; simp), if_pos (by omega)]
    rwa [eB, eE] at this
  have HTo : Hid (∀ W, Tabs W tb → Calls Tryd.prog 10 #[.string s, .int .i64 1, .int .i64 (-1)] W fun e w' => e = .returned (.tuple #[.int .i64 0, .int .i64 10]) ∧ Below W.heap.size W w') := fun W h => by
    have := to_any s 1 (-1) W tb (by omega) h
    have h0 := hc 1 (by omega)
    have eB : toB s 1 (-1) = 0 := by unfold toB; rw [if_neg (by rw [show ctb s 1 = true from h0]; simp), if_pos (by omega)]
    have eE : toE s 1 (-1) = 10 := by unfold toE; rw [if_neg (by rw [show ctb s 1 = true from h0]; simp), if_pos (by omega)]
    rwa [eB, eE] at this
  clear hv hc
  go_enter Tryd.func5, Tryd.ntmps5
  go_wp2_with fail
  refine (known2_any _ tb hT).mono ?_
  rintro e w1 ⟨rfl, g1⟩
  go_wp2_with fail
  refine (HV.out _).mono ?_
  rintro e w2 ⟨rfl, rfl⟩
  clear HV
  go_wp2
  go_loopw [3] (fun a wr => ∃ i : Nat, i ≤ s.size + 1 ∧ a = .int .i64 (i : Nat) ∧ Below w.heap.size w wr) (fun a _ => s.size + 1 - (intOf a).toNat)
  case atStart => exact ⟨0, by omega, rfl, g1⟩
  case round =>
    obtain ⟨i, hi, rfl, hb⟩ := hrel
    by_cases hlt : (i : Int) ≤ (s.size : Int)
    · go_wp2
      go_loopw [4] (fun b wx => ∃ k : Nat, k ≤ 4 ∧ b = .int .i64 (k : Nat) ∧ Below w.heap.size w wx) (fun b _ => 4 - (intOf b).toNat)
      case atStart => exact ⟨0, by omega, rfl, hb⟩
      case round =>
        obtain ⟨k, hk, rfl, hx⟩ := hrel
        have tx := hT.later hx
        by_cases hk3 : (k : Int) ≤ 3
        · rcases HS.out i k (by omega) (by omega) with ⟨E1, E2⟩ | ⟨E1, n, b, E2, E3, E4, E5, E6⟩
          · have HE1 := Hid.mk4 E1
            have HE2 := Hid.mk4 E2
            clear E1 E2 HS HF HTo
            go_wp2_with fail
            refine (HE2.out _ tx).mono ?_
            rintro e w3 ⟨rfl, b3⟩
            have g3 := hx.trans (b3.mono hx.size)
            clear b3
            go_wp2_with fail
            refine (HE1.out _).mono ?_
            rintro e w4 ⟨rfl, rfl⟩
            go_wp2
            go_roundw
            case rel => exact ⟨k + 1, by omega, by go_num, g3⟩
            case measure => simp [intOf]; omega
          · have HE1 := Hid.mk4 E1
            have HE2 := Hid.mk4 E2
            have HE3 := Hid.mk4 E3
            have key : ((k == 3) = false ∧ b = i) ∨ ((k == 3) = true ∧ b = 0) ∨ ((k == 3) = true ∧ ∃ m : Nat, b = m + 1 ∧ ∃ hm : m < s.size, (s[m]'hm).toNat = 10) := by
              by_cases hk2 : k ≤ 2
              · exact Or.inl ⟨by simp; omega, E5 hk2⟩
              · rcases E6 (by omega) with h | ⟨hb1, h0, h2⟩
                · exact Or.inr (Or.inl ⟨by simp; omega, h⟩)
                · exact Or.inr (Or.inr ⟨by simp; omega, b - 1, by omega, hb1, h2⟩)
            clear E1 E2 E3 E5 E6 HS HF HTo
            rcases key with ⟨hq, hbi⟩ | ⟨hq, hb0⟩ | ⟨hq, m, hbm, hm, hmv⟩
            · subst hbi
              have hqI : ((k : Int) == 3) = false := by simp at hq ⊢; omega
              have hqN : ((k : Int) != 3) = true := by simp at hq ⊢; omega
              go_wp2_with fail
              refine (HE2.out _ tx).mono ?_
              rintro e w3 ⟨rfl, b3⟩
              have g3 := hx.trans (b3.mono hx.size)
              have t3 := hT.later g3
              clear b3
              go_wp2_with fail
              refine (HE1.out _).mono ?_
              rintro e w4 ⟨rfl, rfl⟩
              go_wp2_with fail
              refine (HE3.out _ t3).mono ?_
              rintro e w5 ⟨rfl, b5⟩
              have g5 := g3.trans (b5.mono g3.size)
              clear b5 g3 t3
              go_wp2
              all_goals
                go_roundw
                case rel => exact ⟨k + 1, by omega, by go_num, g5⟩
                case measure => simp [intOf]; omega
            · subst hb0
              have hk33 : k = 3 := by simpa using hq
              subst hk33
              have hni : decide ((i : Int) < 0) = false := by simp
              go_wp2_with fail
              refine (HE2.out _ tx).mono ?_
              rintro e w3 ⟨rfl, b3⟩
              have g3 := hx.trans (b3.mono hx.size)
              have t3 := hT.later g3
              clear b3
              go_wp2_with fail
              refine (HE1.out _).mono ?_
              rintro e w4 ⟨rfl, rfl⟩
              go_wp2_with fail
              refine (HE3.out _ t3).mono ?_
              rintro e w5 ⟨rfl, b5⟩
              have g5 := g3.trans (b5.mono g3.size)
              clear b5 g3 t3
              go_wp2
              go_roundw
              case rel => exact ⟨3 + 1, by omega, by go_num, g5⟩
              case measure => simp [intOf]
            · subst hbm
              have hk33 : k = 3 := by simpa using hq
              subst hk33
              have hmi : (m : Int) < (s.size : Int) := by omega
              have hmvI : ((s[m]'hm).toNat : Int) = 10 := by omega
              go_wp2_with fail
              refine (HE2.out _ tx).mono ?_
              rintro e w3 ⟨rfl, b3⟩
              have g3 := hx.trans (b3.mono hx.size)
              have t3 := hT.later g3
              clear b3
              go_wp2_with fail
              refine (HE1.out _).mono ?_
              rintro e w4 ⟨rfl, rfl⟩
              go_wp2_with fail
              refine (HE3.out _ t3).mono ?_
              rintro e w5 ⟨rfl, b5⟩
              have g5 := g3.trans (b5.mono g3.size)
              clear b5 g3 t3
              go_wp2
              go_roundw
              case rel => exact ⟨3 + 1, by omega, by go_num, g5⟩
              case measure => simp [intOf]
        · go_wp2
          go_roundw
          case rel => exact ⟨i + 1, by omega, by go_num, hx⟩
          case measure => simp [intOf]; omega
    · have tr := hT.later hb
      clear HS
      go_wp2_with fail
      refine (HF.out _ tr).mono ?_
      rintro e w3 ⟨rfl, b3⟩
      have g3 := hb.trans (b3.mono hb.size)
      have t3 := hT.later g3
      clear b3
      go_wp2_with fail
      refine (HTo.out _ t3).mono ?_
      rintro e w4 ⟨rfl, b4⟩
      have g4 := g3.trans (b4.mono g3.size)
      go_wp2
      go_ret
      exact ⟨rfl, g4⟩

theorem cback_any (s : ByteArray) (hs : s.size ≤ maxLen) (w : World) (tb : Nat × Nat) (hT : Tabs w tb) :
    Calls Tryd.prog 5 #[.string s] w fun e w' => e = .returned (.bool true) ∧ Below w.heap.size w w' := by
  by_cases hl : 120 < s.size
  · exact cback_long s hs hl w tb hT
  · cases hv : vld s.data.toList with
    | false => exact cback_bad s (by omega) hv w tb hT
    | true => exact cback_good s (by omega) hv w tb hT
end Go.Proofs.YthlmfmaiecmebaaDoor
