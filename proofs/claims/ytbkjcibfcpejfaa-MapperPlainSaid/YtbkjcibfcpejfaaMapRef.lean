/- The reference's Down, Up, Next, Runs; same. -/
import Derived.Test.YtbkjcibfcpejfaaMapFn
import Derived.Test.YtbkjcibfcpejfaaSubRefS
namespace Go.Proofs.Ytbkjcibfcpejfaa
open Go.RowKit Go.Sort
set_option linter.unusedSimpArgs false
set_option linter.unusedVariables false

set_option maxHeartbeats 800000 in
set_option maxRecDepth 100000 in
theorem refdown_any {w : World} {v : Value} {L : List Int} (at0 : Int) (h : NumAt .i64 w v L) (hL : Ok8 L) :
    Calls Try.prog 11 #[v, .int .i64 at0] w fun e w' => e = .returned (.int .i64 (dn L at0 : Nat)) ∧ w' = w := by
  obtain ⟨a, cap, rfl, hcap, hcells⟩ := h
  have HC := Hid.mk7 hcells
  have HOK := Hid.mk7 hL.2
  have hl := hL.1
  clear hcells hL
  go_enter Try.func11, Try.ntmps11
  go_wp2
  go_loopw [5, 6] (fun nv iv wr => ∃ k P : Nat, k ≤ L.length ∧ iv = .int .i64 (k : Nat) ∧ nv = .int .i64 (P : Nat) ∧ Hid (P = (zs (L.take k)).length) ∧ P ≤ k ∧ (k : Int) ≤ max at0 0 ∧ wr = w) (fun _ iv _ => L.length - (intOf iv).toNat)
  case atStart => exact ⟨0, 0, Nat.zero_le _, rfl, rfl, rfl, by omega, by omega, rfl⟩
  case round =>
    obtain ⟨k, P, hk, rfl, rfl, HP, hP, hka, rfl⟩ := hrel
    by_cases hlt : k < L.length
    · by_cases hat : (k : Int) < at0
      · obtain ⟨z, hz⟩ : ∃ r, L[k]? = some r := ⟨L[k], List.getElem?_eq_getElem hlt⟩
        obtain ⟨g, off, rfl, q0⟩ := HC.out k _ hz
        have hzb := HOK.out z (List.mem_of_getElem? hz)
        have hs := congrArg List.length (zs_take_succ hz)
        rw [List.length_append, ← HP.out] at hs
        have HS := Hid.mk7 hs
        clear hz hs HP
        by_cases h0 : z = 0
        · subst h0
          have HS2 : Hid (P + 1 = (zs (L.take (k + 1))).length) := by have := HS.out; simp at this; exact this.symm
          clear HS
          go_wp2
          go_roundw
          case rel => exact ⟨k + 1, P + 1, by omega, by go_num, by go_num, HS2, by omega, by omega, by trivial⟩
          case measure => simp [intOf]; omega
        · have d0 : (z == 0) = false := by simpa using h0
          have HS2 : Hid (P = (zs (L.take (k + 1))).length) := by have := HS.out; rw [if_pos (by omega)] at this; exact this.symm
          clear HS
          go_wp2
          go_roundw
          case rel => exact ⟨k + 1, P, by omega, by go_num, by go_num, HS2, by omega, by omega, by trivial⟩
          case measure => simp [intOf]; omega
      · have HE : Hid (dn L at0 = P) := by
          show _ = _
          rw [HP.out, dn_held]
          exact dn_take hk hka (Or.inr (by omega))
        have d0 : decide ((k : Int) < at0) = false := decide_eq_false hat
        clear HP
        go_wp2
        go_ret
        exact ⟨ret_int7 (by rw [HE.out]), by trivial⟩
    · obtain rfl : k = L.length := by omega
      have HE : Hid (dn L at0 = P) := by
        show _ = _
        rw [HP.out, dn_held]
        exact dn_take hk hka (Or.inl rfl)
      clear HP
      go_wp2
      go_ret
      exact ⟨ret_int7 (by rw [HE.out]), by trivial⟩

set_option maxHeartbeats 1600000 in
set_option maxRecDepth 100000 in
theorem refup_any {w : World} {v : Value} {L : List Int} (at0 : Int) (h : NumAt .i64 w v L) (hL : Ok8 L) (hhi : at0 ≤ 9223372036854775807) :
    Calls Try.prog 13 #[v, .int .i64 at0] w fun e w' => e = .returned (.int .i64 (up L at0 : Nat)) ∧ w' = w := by
  obtain ⟨a, cap, rfl, hcap, hcells⟩ := h
  have HC := Hid.mk7 hcells
  have HOK := Hid.mk7 hL.2
  have hl := hL.1
  clear hcells hL
  obtain ⟨A, hA⟩ : ∃ A : Nat, A = at0.toNat := ⟨_, rfl⟩
  have HUP : Hid (up L at0 = (zs L)[A]?.getD L.length) := by show _ = _; rw [hA]; rfl
  have hA2 : A ≤ 9223372036854775807 := by omega
  go_enter Try.func13, Try.ntmps13
  rcases (show 0 < at0 ∧ at0 = (A : Int) ∨ at0 ≤ 0 ∧ A = 0 from by omega) with ⟨h1, h2⟩ | ⟨h1, h2⟩
  · subst h2
    clear hA
    go_wp2
    go_loopw [5, 6] (fun kv iv wr => ∃ k P K : Nat, k ≤ L.length ∧ iv = .int .i64 (k : Nat) ∧ kv = .int .i64 (K : Nat) ∧ Hid (P = (zs (L.take k)).length) ∧ K + P = A ∧ wr = w) (fun _ iv _ => L.length - (intOf iv).toNat)
    case atStart => exact ⟨0, 0, A, Nat.zero_le _, rfl, rfl, rfl, by omega, rfl⟩
    case round =>
      obtain ⟨k, P, K, hk, rfl, rfl, HP, hKP, rfl⟩ := hrel
      have HKP := Hid.mk7 hKP
      have hK2 : K ≤ 9223372036854775807 := by omega
      clear hKP
      by_cases hlt : k < L.length
      · obtain ⟨z, hz⟩ : ∃ r, L[k]? = some r := ⟨L[k], List.getElem?_eq_getElem hlt⟩
        obtain ⟨g, off, rfl, q0⟩ := HC.out k _ hz
        have hzb := HOK.out z (List.mem_of_getElem? hz)
        have hs := congrArg List.length (zs_take_succ hz)
        rw [List.length_append, ← HP.out] at hs
        have HS := Hid.mk7 hs
        have HZ := Hid.mk7 hz
        clear hz hs
        by_cases h0 : z = 0
        · subst h0
          have HS2 : Hid (P + 1 = (zs (L.take (k + 1))).length) := by have := HS.out; simp at this; exact this.symm
          clear HS
          cases K with
          | zero =>
            have HE : Hid (up L A = k) := by
              show _ = _
              rw [HUP.out]
              exact up_at HZ.out (by omega) (by have := HKP.out; have := HP.out; omega)
            clear HP HS2
            go_wp2
            go_ret
            exact ⟨ret_int7 (by rw [HE.out]), by trivial⟩
          | succ K =>
            have d0 : (((K + 1 : Nat) : Int) == 0) = false := by simp; omega
            have d1 : ((K : Int) + 1 == 0) = false := by simp; omega
            clear HP
            go_wp2
            go_roundw
            case rel => exact ⟨k + 1, P + 1, K, by omega, by go_num, by go_num, HS2, by have := HKP.out; omega, by trivial⟩
            case measure => simp [intOf]; omega
        · have d0 : (z == 0) = false := by simpa using h0
          have d1 : (z != 0) = true := by simpa using h0
          have HS2 : Hid (P = (zs (L.take (k + 1))).length) := by have := HS.out; rw [if_pos (by omega)] at this; exact this.symm
          clear HS HP
          go_wp2
          go_roundw
          case rel => exact ⟨k + 1, P, K, by omega, by go_num, by go_num, HS2, HKP.out, by trivial⟩
          case measure => simp [intOf]; omega
      · obtain rfl : k = L.length := by omega
        have HE : Hid (up L A = L.length) := by
          have h1 := HP.out
          rw [List.take_length] at h1
          show _ = _
          rw [HUP.out, List.getElem?_eq_none (by have := HKP.out; omega)]
          rfl
        clear HP
        go_wp2
        go_ret
        exact ⟨ret_int7 (by rw [HE.out]), by trivial⟩
  · subst h2
    clear hA
    go_wp2
    go_loopw [5, 6] (fun kv iv wr => ∃ k P K : Nat, k ≤ L.length ∧ iv = .int .i64 (k : Nat) ∧ kv = .int .i64 (K : Nat) ∧ Hid (P = (zs (L.take k)).length) ∧ K + P = 0 ∧ wr = w) (fun _ iv _ => L.length - (intOf iv).toNat)
    case atStart => exact ⟨0, 0, 0, Nat.zero_le _, rfl, rfl, rfl, by omega, rfl⟩
    case round =>
      obtain ⟨k, P, K, hk, rfl, rfl, HP, hKP, rfl⟩ := hrel
      have HKP := Hid.mk7 hKP
      have hK2 : K ≤ 9223372036854775807 := by omega
      clear hKP
      by_cases hlt : k < L.length
      · obtain ⟨z, hz⟩ : ∃ r, L[k]? = some r := ⟨L[k], List.getElem?_eq_getElem hlt⟩
        obtain ⟨g, off, rfl, q0⟩ := HC.out k _ hz
        have hzb := HOK.out z (List.mem_of_getElem? hz)
        have hs := congrArg List.length (zs_take_succ hz)
        rw [List.length_append, ← HP.out] at hs
        have HS := Hid.mk7 hs
        have HZ := Hid.mk7 hz
        clear hz hs
        by_cases h0 : z = 0
        · subst h0
          have HS2 : Hid (P + 1 = (zs (L.take (k + 1))).length) := by have := HS.out; simp at this; exact this.symm
          clear HS
          cases K with
          | zero =>
            have HE : Hid (up L at0 = k) := by
              show _ = _
              rw [HUP.out]
              exact up_at HZ.out (by omega) (by have := HKP.out; have := HP.out; omega)
            clear HP HS2
            go_wp2
            go_ret
            exact ⟨ret_int7 (by rw [HE.out]), by trivial⟩
          | succ K =>
            have d0 : (((K + 1 : Nat) : Int) == 0) = false := by simp; omega
            have d1 : ((K : Int) + 1 == 0) = false := by simp; omega
            clear HP
            go_wp2
            go_roundw
            case rel => exact ⟨k + 1, P + 1, K, by omega, by go_num, by go_num, HS2, by have := HKP.out; omega, by trivial⟩
            case measure => simp [intOf]; omega
        · have d0 : (z == 0) = false := by simpa using h0
          have d1 : (z != 0) = true := by simpa using h0
          have HS2 : Hid (P = (zs (L.take (k + 1))).length) := by have := HS.out; rw [if_pos (by omega)] at this; exact this.symm
          clear HS HP
          go_wp2
          go_roundw
          case rel => exact ⟨k + 1, P, K, by omega, by go_num, by go_num, HS2, HKP.out, by trivial⟩
          case measure => simp [intOf]; omega
      · obtain rfl : k = L.length := by omega
        have HE : Hid (up L at0 = L.length) := by
          have h1 := HP.out
          rw [List.take_length] at h1
          show _ = _
          rw [HUP.out, List.getElem?_eq_none (by have := HKP.out; omega)]
          rfl
        clear HP
        go_wp2
        go_ret
        exact ⟨ret_int7 (by rw [HE.out]), by trivial⟩

set_option maxHeartbeats 1600000 in
set_option maxRecDepth 100000 in
theorem refnext_any {w : World} {v : Value} {L : List Int} (at0 : Int) (h : NumAt .i64 w v L) (hL : Ok8 L) (hhi : at0 ≤ 9223372036854775807) :
    Calls Try.prog 15 #[v, .int .i64 at0] w fun e w' => e = .returned (.int .i64 (nx L at0 : Nat)) ∧ w' = w := by
  obtain ⟨a, cap, rfl, hcap, hcells⟩ := h
  have HC := Hid.mk7 hcells
  have HOK := Hid.mk7 hL.2
  have hl := hL.1
  clear hcells hL
  obtain ⟨A, hA⟩ : ∃ A : Nat, A = at0.toNat := ⟨_, rfl⟩
  go_enter Try.func15, Try.ntmps15
  rcases (show 0 < at0 ∧ at0 = (A : Int) ∨ at0 ≤ 0 ∧ A = 0 from by omega) with ⟨h1, h2⟩ | ⟨h1, h2⟩
  · subst h2
    clear hA
    go_wp2
    go_loopw [5] (fun iv wr => ∃ k : Nat, iv = .int .i64 (k : Nat) ∧ Hid (∀ i ∈ zs L, i < k → (i : Int) < (A : Int)) ∧ (A : Int) ≤ (k : Int) ∧ (k : Int) ≤ 9223372036854775807 ∧ wr = w) (fun iv _ => L.length - (intOf iv).toNat)
    case atStart => exact ⟨A, rfl, (fun i _ h => by omega), by omega, by omega, rfl⟩
    case round =>
      obtain ⟨k, rfl, HP, hka, hkb, rfl⟩ := hrel
      by_cases hlt : k < L.length
      · obtain ⟨z, hz⟩ : ∃ r, L[k]? = some r := ⟨L[k], List.getElem?_eq_getElem hlt⟩
        obtain ⟨g, off, rfl, q0⟩ := HC.out k _ hz
        have hzb := HOK.out z (List.mem_of_getElem? hz)
        have HZ := Hid.mk7 hz
        clear hz
        by_cases h0 : z = 0
        · subst h0
          have HE : Hid (nx L (A : Int) = k) := nx_at HZ.out (by omega) hka HP.out
          clear HP
          go_wp2
          go_ret
          exact ⟨ret_int7 (by rw [HE.out]), by trivial⟩
        · have d0 : (z == 0) = false := by simpa using h0
          have HP2 : Hid (∀ i ∈ zs L, i < k + 1 → (i : Int) < (A : Int)) := fun i hi hik => by
            by_cases e : i = k
            · subst e
              have := (mem_zs.1 hi).2
              rw [HZ.out] at this
              simp at this
              omega
            · exact HP.out i hi (by omega)
          clear HP
          go_wp2
          go_roundw
          case rel => exact ⟨k + 1, by go_num, HP2, by omega, by omega, by trivial⟩
          case measure => simp [intOf]; omega
      · have HE : Hid (nx L (A : Int) = L.length) := nx_out (fun i hi => HP.out i hi (by have := zs_lt hi; omega))
        have hlt2 : decide ((k : Int) < (L.length : Int)) = false := decide_eq_false (by omega)
        have hlt3 : decide (k < L.length) = false := decide_eq_false (by omega)
        clear HP
        go_wp2
        go_ret
        exact ⟨ret_int7 (by rw [HE.out]), by trivial⟩
  · subst h2
    clear hA
    go_wp2
    go_loopw [5] (fun iv wr => ∃ k : Nat, iv = .int .i64 (k : Nat) ∧ Hid (∀ i ∈ zs L, i < k → (i : Int) < at0) ∧ at0 ≤ (k : Int) ∧ (k : Int) ≤ 9223372036854775807 ∧ wr = w) (fun iv _ => L.length - (intOf iv).toNat)
    case atStart => exact ⟨0, rfl, (fun i _ h => by omega), by omega, by omega, rfl⟩
    case round =>
      obtain ⟨k, rfl, HP, hka, hkb, rfl⟩ := hrel
      by_cases hlt : k < L.length
      · obtain ⟨z, hz⟩ : ∃ r, L[k]? = some r := ⟨L[k], List.getElem?_eq_getElem hlt⟩
        obtain ⟨g, off, rfl, q0⟩ := HC.out k _ hz
        have hzb := HOK.out z (List.mem_of_getElem? hz)
        have HZ := Hid.mk7 hz
        clear hz
        by_cases h0 : z = 0
        · subst h0
          have HE : Hid (nx L at0 = k) := nx_at HZ.out (by omega) hka HP.out
          clear HP
          go_wp2
          go_ret
          exact ⟨ret_int7 (by rw [HE.out]), by trivial⟩
        · have d0 : (z == 0) = false := by simpa using h0
          have HP2 : Hid (∀ i ∈ zs L, i < k + 1 → (i : Int) < at0) := fun i hi hik => by
            by_cases e : i = k
            · subst e
              have := (mem_zs.1 hi).2
              rw [HZ.out] at this
              simp at this
              omega
            · exact HP.out i hi (by omega)
          clear HP
          go_wp2
          go_roundw
          case rel => exact ⟨k + 1, by go_num, HP2, by omega, by omega, by trivial⟩
          case measure => simp [intOf]; omega
      · have HE : Hid (nx L at0 = L.length) := nx_out (fun i hi => HP.out i hi (by have := zs_lt hi; omega))
        have hlt2 : decide ((k : Int) < (L.length : Int)) = false := decide_eq_false (by omega)
        have hlt3 : decide (k < L.length) = false := decide_eq_false (by omega)
        clear HP
        go_wp2
        go_ret
        exact ⟨ret_int7 (by rw [HE.out]), by trivial⟩
end Go.Proofs.Ytbkjcibfcpejfaa
