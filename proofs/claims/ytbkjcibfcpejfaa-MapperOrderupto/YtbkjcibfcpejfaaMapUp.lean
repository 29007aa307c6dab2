/- mapper's Up, Next. -/
import Derived.Test.YtbkjcibfcpejfaaMapFn
namespace Go.Proofs.Ytbkjcibfcpejfaa
open Go.RowKit Go.Sort
set_option linter.unusedSimpArgs false
set_option linter.unusedVariables false

set_option maxHeartbeats 1600000 in
set_option maxRecDepth 100000 in
theorem mup_any {w : World} {p : Value} {L : List Int} (at0 : Int) (h : SubN w p L) (hl : L.length ≤ 20000) (hhi : at0 ≤ 9223372036854775807) :
    Calls Try.prog 12 #[p, .int .i64 at0] w fun e w' => e = .returned (.int .i64 (up L at0 : Nat)) ∧ Below w.heap.size w w' := by
  have HR := Hid.mk7 (mruns_any false h hl)
  have HSN := Hid.mk7 h
  clear h
  obtain ⟨A, hA⟩ : ∃ A : Nat, A = at0.toNat := ⟨_, rfl⟩
  have HUP : Hid (up L at0 = (fl9 (rn false L))[A]?.getD L.length) := by show _ = _; rw [fl9_rn, hA]; rfl
  have HW := Hid.mk7 (rn_wf false L)
  have HB : Hid (∀ k, (fl9 ((rn false L).take k)).length ≤ 20000) := fun k => Nat.le_trans (fl9_bound L k) hl
  have hrl := rn_len false L
  obtain ⟨qs, hqs⟩ : ∃ qs, qs = rn false L := ⟨_, rfl⟩
  rw [← hqs] at HR HUP HW hrl HB
  clear hqs
  go_enter Try.func12, Try.ntmps12
  rcases (show at0 < 0 ∧ A = 0 ∨ 0 ≤ at0 ∧ at0 = (A : Int) from by omega) with ⟨h1, h2⟩ | ⟨h1, h2⟩
  · subst h2
    clear hA
    go_wp2_with fail
    refine HR.out.mono ?_
    rintro e w1 ⟨v, rfl, hs, b1⟩
    obtain ⟨a, cap, rfl, hcap, _, hcells⟩ := hs
    have HC := Hid.mk7 hcells
    clear hcells HR
    go_wp2
    go_loopw [1, 13] (fun av iv wr => ∃ k P : Nat, k ≤ qs.length ∧ iv = .int .i64 (k : Nat) ∧ av = .int .i64 (((0 : Nat) : Int) - (P : Int)) ∧ Hid (P = (fl9 (qs.take k)).length) ∧ P ≤ 0 ∧ P ≤ 20000 ∧ Below w1.heap.size w1 wr ∧ Below w.heap.size w wr) (fun _ iv _ => qs.length - (intOf iv).toNat)
    case atStart => exact ⟨0, 0, Nat.zero_le _, rfl, by simp, rfl, by omega, by omega, Below.refl _ _, b1⟩
    case round =>
      clear b1
      obtain ⟨k, P, hk, rfl, rfl, HP, hPA, hP, hb, hg⟩ := hrel
      by_cases hlt : k < qs.length
      · obtain ⟨⟨f, t⟩, hr⟩ : ∃ r, qs[k]? = some r := ⟨qs[k], List.getElem?_eq_getElem hlt⟩
        obtain ⟨g, off, rfl, q0, q1⟩ := HC.out k _ hr
        have c0 := cell_later7 hb (Nat.le_refl _) q0
        have c1 := cell_later7 hb (Nat.le_refl _) q1
        have hw := HW.out _ (List.mem_of_getElem? hr)
        simp only at c0 c1 hw
        obtain ⟨hf0, hft, htl⟩ := hw
        have bA := below_new7 hb (.cells #[.int .i64 f, .int .i64 t] 38)
        have gA := below_new7 hg (.cells #[.int .i64 f, .int .i64 t] 38)
        have hbd := HB.out (k + 1)
        have hfl := congrArg List.length (fl9_take hr)
        rw [List.length_append, List.length_range', ← HP.out] at hfl
        rw [hfl] at hbd
        simp only at hfl hbd
        have HFL := Hid.mk7 hfl
        have HAT : Hid (((0 : Nat) : Int) - P < t - f → ((up L at0 : Nat) : Int) = f + (((0 : Nat) : Int) - P)) := fun hlt2 => by
          rw [HUP.out, up_run hr hf0 hft (by rw [← HP.out]; exact hPA) (by rw [← HP.out]; exact hlt2), HP.out]
        clear q0 q1 hr hfl HP
        by_cases hin : ((0 : Nat) : Int) - (P : Int) < t - f
        · go_wp2
          go_ret
          exact ⟨ret_int7 (by have := HAT.out hin; omega), gA⟩
        · omega
      · obtain rfl : k = qs.length := by omega
        have HE : Hid (up L at0 = L.length) := by
          have h1 := HP.out
          rw [List.take_length] at h1
          have h2 := HUP.out
          rw [up_past (by omega)] at h2
          exact h2
        clear HP
        have H1 := Hid.mk7 (orNone9_any (HSN.out.later hg))
        go_wp2_with fail
        refine H1.out.mono ?_
        rintro e w5 ⟨q5, rfl, hs5, b5⟩
        have H2 := Hid.mk7 (len_any7 hs5 (by omega))
        have g5 := hg.trans (b5.mono hg.size)
        clear hs5 H1
        go_wp2_with fail
        refine H2.out.mono ?_
        rintro e w6 ⟨rfl, b6⟩
        have g6 := g5.trans (b6.mono g5.size)
        clear H2
        go_wp2
        go_ret
        exact ⟨ret_int7 (by rw [HE.out]), g6⟩
  · subst h2
    clear hA
    go_wp2_with fail
    refine HR.out.mono ?_
    rintro e w1 ⟨v, rfl, hs, b1⟩
    obtain ⟨a, cap, rfl, hcap, _, hcells⟩ := hs
    have HC := Hid.mk7 hcells
    clear hcells HR
    go_wp2
    go_loopw [1, 13] (fun av iv wr => ∃ k P : Nat, k ≤ qs.length ∧ iv = .int .i64 (k : Nat) ∧ av = .int .i64 (((A : Nat) : Int) - (P : Int)) ∧ Hid (P = (fl9 (qs.take k)).length) ∧ P ≤ A ∧ P ≤ 20000 ∧ Below w1.heap.size w1 wr ∧ Below w.heap.size w wr) (fun _ iv _ => qs.length - (intOf iv).toNat)
    case atStart => exact ⟨0, 0, Nat.zero_le _, rfl, by simp, rfl, by omega, by omega, Below.refl _ _, b1⟩
    case round =>
      clear b1
      obtain ⟨k, P, hk, rfl, rfl, HP, hPA, hP, hb, hg⟩ := hrel
      by_cases hlt : k < qs.length
      · obtain ⟨⟨f, t⟩, hr⟩ : ∃ r, qs[k]? = some r := ⟨qs[k], List.getElem?_eq_getElem hlt⟩
        obtain ⟨g, off, rfl, q0, q1⟩ := HC.out k _ hr
        have c0 := cell_later7 hb (Nat.le_refl _) q0
        have c1 := cell_later7 hb (Nat.le_refl _) q1
        have hw := HW.out _ (List.mem_of_getElem? hr)
        simp only at c0 c1 hw
        obtain ⟨hf0, hft, htl⟩ := hw
        have bA := below_new7 hb (.cells #[.int .i64 f, .int .i64 t] 38)
        have gA := below_new7 hg (.cells #[.int .i64 f, .int .i64 t] 38)
        have hbd := HB.out (k + 1)
        have hfl := congrArg List.length (fl9_take hr)
        rw [List.length_append, List.length_range', ← HP.out] at hfl
        rw [hfl] at hbd
        simp only at hfl hbd
        have HFL := Hid.mk7 hfl
        have HAT : Hid (((A : Nat) : Int) - P < t - f → ((up L A : Nat) : Int) = f + (((A : Nat) : Int) - P)) := fun hlt2 => by
          rw [HUP.out, up_run hr hf0 hft (by rw [← HP.out]; exact hPA) (by rw [← HP.out]; exact hlt2), HP.out]
        clear q0 q1 hr hfl HP
        by_cases hin : ((A : Nat) : Int) - (P : Int) < t - f
        · go_wp2
          go_ret
          exact ⟨ret_int7 (by have := HAT.out hin; omega), gA⟩
        · have hle : (P : Int) + (t - f) ≤ ((A : Nat) : Int) := by omega
          go_wp2
          go_roundw
          case rel =>
            refine ⟨k + 1, P + (t - f).toNat, by omega, by go_num, by simp; omega, HFL.out.symm, by omega, by omega, bA, gA⟩
          case measure => simp [intOf]; omega
      · obtain rfl : k = qs.length := by omega
        have HE : Hid (up L A = L.length) := by
          have h1 := HP.out
          rw [List.take_length] at h1
          have h2 := HUP.out
          rw [up_past (by omega)] at h2
          exact h2
        clear HP
        have H1 := Hid.mk7 (orNone9_any (HSN.out.later hg))
        go_wp2_with fail
        refine H1.out.mono ?_
        rintro e w5 ⟨q5, rfl, hs5, b5⟩
        have H2 := Hid.mk7 (len_any7 hs5 (by omega))
        have g5 := hg.trans (b5.mono hg.size)
        clear hs5 H1
        go_wp2_with fail
        refine H2.out.mono ?_
        rintro e w6 ⟨rfl, b6⟩
        have g6 := g5.trans (b6.mono g5.size)
        clear H2
        go_wp2
        go_ret
        exact ⟨ret_int7 (by rw [HE.out]), g6⟩
set_option maxHeartbeats 1600000 in
set_option maxRecDepth 100000 in
theorem mnext_any {w : World} {p : Value} {L : List Int} (at0 : Int) (h : SubN w p L) (hl : L.length ≤ 20000) :
    Calls Try.prog 14 #[p, .int .i64 at0] w fun e w' => e = .returned (.int .i64 (nx L at0 : Nat)) ∧ Below w.heap.size w w' := by
    have HR := Hid.mk7 (mruns_any false h hl)
    have HSN := Hid.mk7 h
    clear h
    have HNX : Hid (nx L at0 = ((fl9 (rn false L)).find? fun i : Nat => decide (at0 ≤ (i : Int))).getD L.length) := by show _ = _; rw [fl9_rn]; rfl
    have HW := Hid.mk7 (rn_wf false L)
    have hrl := rn_len false L
    obtain ⟨qs, hqs⟩ : ∃ qs, qs = rn false L := ⟨_, rfl⟩
    rw [← hqs] at HR HNX HW hrl
    clear hqs
    go_enter Try.func14, Try.ntmps14
    go_wp2_with fail
    refine HR.out.mono ?_
    rintro e w1 ⟨v, rfl, hs, b1⟩
    obtain ⟨a, cap, rfl, hcap, _, hcells⟩ := hs
    have HC := Hid.mk7 hcells
    clear hcells HR
    go_wp2
    go_loopw [10] (fun iv wr => ∃ k : Nat, k ≤ qs.length ∧ iv = .int .i64 (k : Nat) ∧ Hid (∀ i ∈ fl9 (qs.take k), (i : Int) < at0) ∧ Below w1.heap.size w1 wr ∧ Below w.heap.size w wr) (fun iv _ => qs.length - (intOf iv).toNat)
    case atStart => exact ⟨0, Nat.zero_le _, rfl, (fun i hi => by simp [fl9] at hi), Below.refl _ _, b1⟩
    case round =>
      clear b1
      obtain ⟨k, hk, rfl, HP, hb, hg⟩ := hrel
      by_cases hlt : k < qs.length
      · obtain ⟨⟨f, t⟩, hr⟩ : ∃ r, qs[k]? = some r := ⟨qs[k], List.getElem?_eq_getElem hlt⟩
        obtain ⟨g, off, rfl, q0, q1⟩ := HC.out k _ hr
        have c0 := cell_later7 hb (Nat.le_refl _) q0
        have c1 := cell_later7 hb (Nat.le_refl _) q1
        have hw := HW.out _ (List.mem_of_getElem? hr)
        simp only at c0 c1 hw
        obtain ⟨hf0, hft, htl⟩ := hw
        have bA := below_new7 hb (.cells #[.int .i64 f, .int .i64 t] 38)
        have gA := below_new7 hg (.cells #[.int .i64 f, .int .i64 t] 38)
        have HR := Hid.mk7 hr
        clear q0 q1 hr
        by_cases hin : at0 < t
        · have HE : Hid (((nx L at0 : Nat) : Int) = max at0 f) := by show _ = _; rw [HNX.out, nx_run HR.out hf0 hft HP.out hin]
          go_wp2
          all_goals
            go_ret
            refine ⟨ret_int7 ?_, gA⟩
            have := HE.out
            omega
        · have HP2 : Hid (∀ i ∈ fl9 (qs.take (k + 1)), (i : Int) < at0) := nx_step HR.out hf0 HP.out (by omega)
          go_wp2
          go_roundw
          case rel => exact ⟨k + 1, by omega, by go_num, HP2, bA, gA⟩
          case measure => simp [intOf]; omega
      · obtain rfl : k = qs.length := by omega
        have HE : Hid (nx L at0 = L.length) := by
          have h1 := HP.out
          rw [List.take_length] at h1
          show _ = _
          rw [HNX.out, nx_past h1]
        clear HP
        have H1 := Hid.mk7 (orNone9_any (HSN.out.later hg))
        go_wp2_with fail
        refine H1.out.mono ?_
        rintro e w5 ⟨q5, rfl, hs5, b5⟩
        have H2 := Hid.mk7 (len_any7 hs5 (by omega))
        have g5 := hg.trans (b5.mono hg.size)
        clear hs5 H1
        go_wp2_with fail
        refine H2.out.mono ?_
        rintro e w6 ⟨rfl, b6⟩
        have g6 := g5.trans (b6.mono g5.size)
        clear H2
        go_wp2
        go_ret
        exact ⟨ret_int7 (by rw [HE.out]), g6⟩
end Go.Proofs.Ytbkjcibfcpejfaa
