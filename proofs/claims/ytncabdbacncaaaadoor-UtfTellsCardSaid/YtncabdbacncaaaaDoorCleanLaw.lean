/- UtfClean, walked: it answers true at every two texts. -/
import Derived.Test.YtncabdbacncaaaaDoorKnown
import Derived.Test.YtncabdbacncaaaaDoorSteps
namespace Go.Proofs.YtncabdbacncaaaaDoor
open Go.RowKit Go.Sort

theorem cln_append {a : List UInt8} (h : vld a = true) (b : List UInt8) : cln (a ++ b) = a ++ cln b := by
  have e := flat_pts' h
  unfold cln
  conv => lhs; rw [← e]
  rw [pts_flat (good_pts' a), flat_append, e]
theorem vld_append {a b : List UInt8} (ha : vld a = true) (hb : vld b = true) : vld (a ++ b) = true := by
  have e := flat_pts' ha
  rw [← e, vld_flat_append (good_pts' a), hb]
theorem cln_length_ge : ∀ (n : Nat) (l : List UInt8), l.length ≤ n → l.length ≤ (cln l).length
  | n, [], _ => Nat.le_refl _
  | 0, x :: t, hn => by simp at hn
  | n + 1, x :: t, hn => by
    have hl : x :: t ≠ [] := by simp
    by_cases hz : sz1 (x :: t) = 0
    · rw [cln_bad hl hz]
      have := cln_length_ge n (List.drop 1 (x :: t)) (by simp at hn ⊢; omega)
      have := enc_length 65533
      rw [List.length_append]
      simp at *
      omega
    · have hp := sz1_toNat_pos hz
      rw [cln_step hl hz]
      have := cln_length_ge n (List.drop (sz1 (x :: t)).toNat (x :: t)) (by simp at hn ⊢; omega)
      rw [List.length_append, List.length_take, List.length_drop] at *
      omega

theorem array_eq {s : ByteArray} {l : List UInt8} (h : s.data.toList = l) : (⟨l.toArray⟩ : ByteArray) = s := by
  subst h
  cases s
  simp
theorem bytes_append (a b : ByteArray) : (a ++ b).data.toList = a.data.toList ++ b.data.toList := by
  rw [ByteArray.data_append, Array.toList_append]

set_option maxHeartbeats 1000000 in
set_option maxRecDepth 100000 in
theorem clean_long (a b : ByteArray) (hA : a.size ≤ maxLen) (hB : b.size ≤ maxLen) (hlong : 200 < a.size ∨ 200 < b.size) (w : World) (tb : Nat × Nat) (hT : Tab w tb) :
    Calls Tryd.prog 5 #[.string a, .string b] w fun e w' => e = .returned (.bool true) ∧ Below w.heap.size w w' := by
  unfold maxLen at hA hB
  by_cases h1 : (200 : Int) < a.size
  · clear hlong
    go_enter Tryd.func5, Tryd.ntmps5
    go_wp2_with fail
    refine (known_any _ tb hT).mono ?_
    rintro e w1 ⟨rfl, b1⟩
    go_wp2
    go_ret
    exact ⟨rfl, b1⟩
  · have h2 : (200 : Int) < b.size := by omega
    clear hlong
    go_enter Tryd.func5, Tryd.ntmps5
    go_wp2_with fail
    refine (known_any _ tb hT).mono ?_
    rintro e w1 ⟨rfl, b1⟩
    go_wp2
    go_ret
    exact ⟨rfl, b1⟩

set_option maxHeartbeats 1000000 in
set_option maxRecDepth 100000 in
theorem clean_good (a b : ByteArray) (hA : a.size ≤ 200) (hB : b.size ≤ 200) (hv : vld a.data.toList = true) (w : World) (tb : Nat × Nat) (hT : Tab w tb) :
    Calls Tryd.prog 5 #[.string a, .string b] w fun e w' => e = .returned (.bool true) ∧ Below w.heap.size w w' := by
  have h1 : decide ((200 : Int) < a.size) = false := by simp; omega
  have h2 : decide ((200 : Int) < b.size) = false := by simp; omega
  have HV : Hid (∀ W, Tab W tb → Calls Tryd.prog 16 #[.string a] W fun e w' => e = .returned (.bool true) ∧ Below W.heap.size W w') := by
    intro W h
    have := valid_any a W tb (by unfold maxLen; omega) h
    rwa [hv] at this
  have HC : Hid (∀ W, Tab W tb → Calls Tryd.prog 18 #[.string a] W fun e w' => e = .returned (.string a) ∧ Below W.heap.size W w') := by
    intro W h
    have := clean_any a W tb (by omega) h
    rwa [cln_of_valid hv, array_eq rfl] at this
  obtain ⟨S, hS⟩ : ∃ S : ByteArray, S = ⟨(cln b.data.toList).toArray⟩ := ⟨_, rfl⟩
  have hSl : S.size ≤ 800 := by
    rw [hS]
    have := cln_length b.data.toList
    rw [bytes_length] at this
    show (cln b.data.toList).length ≤ 800
    omega
  have HCb : Hid (∀ W, Tab W tb → Calls Tryd.prog 18 #[.string b] W fun e w' => e = .returned (.string S) ∧ Below W.heap.size W w') := by
    intro W h
    rw [hS]
    exact clean_any b W tb (by omega) h
  have HCab : Hid (∀ W, Tab W tb → Calls Tryd.prog 18 #[.string (a ++ b)] W fun e w' => e = .returned (.string (a ++ S)) ∧ Below W.heap.size W w') := by
    intro W h
    have := clean_any (a ++ b) W tb (by rw [ByteArray.size_append]; omega) h
    rwa [array_eq (s := a ++ S) (l := cln (a ++ b).data.toList) (by rw [bytes_append, bytes_append, cln_append hv, hS])] at this
  clear hv hS
  go_enter Tryd.func5, Tryd.ntmps5
  go_wp2_with fail
  refine (known_any _ tb hT).mono ?_
  rintro e w1 ⟨rfl, b1⟩
  have t1 := hT.later b1
  go_wp2_with fail
  refine (HC.out _ t1).mono ?_
  rintro e w2 ⟨rfl, b2⟩
  have t2 := t1.later b2
  go_wp2_with fail
  refine (HV.out _ t2).mono ?_
  rintro e w3 ⟨rfl, b3⟩
  have t3 := t2.later b3
  go_wp2_with fail
  refine (HC.out _ t3).mono ?_
  rintro e w4 ⟨rfl, b4⟩
  have t4 := t3.later b4
  go_wp2_with fail
  refine (HV.out _ t4).mono ?_
  rintro e w5 ⟨rfl, b5⟩
  have t5 := t4.later b5
  go_wp2_with fail
  refine (HV.out _ t5).mono ?_
  rintro e w6 ⟨rfl, b6⟩
  have t6 := t5.later b6
  go_wp2_with fail
  refine (HCab.out _ t6).mono ?_
  rintro e w7 ⟨rfl, b7⟩
  have t7 := t6.later b7
  go_wp2_with fail
  refine (HCb.out _ t7).mono ?_
  rintro e w8 ⟨rfl, b8⟩
  go_wp2
  go_ret
  have g1 := b1.trans (b2.mono b1.size)
  have g2 := g1.trans (b3.mono g1.size)
  have g3 := g2.trans (b4.mono g2.size)
  have g4 := g3.trans (b5.mono g3.size)
  have g5 := g4.trans (b6.mono g4.size)
  have g6 := g5.trans (b7.mono g5.size)
  exact ⟨rfl, g6.trans (b8.mono g6.size)⟩

set_option maxHeartbeats 1000000 in
set_option maxRecDepth 100000 in
theorem clean_bad (a b : ByteArray) (hA : a.size ≤ 200) (hB : b.size ≤ 200) (hv : vld a.data.toList = false) (w : World) (tb : Nat × Nat) (hT : Tab w tb) :
    Calls Tryd.prog 5 #[.string a, .string b] w fun e w' => e = .returned (.bool true) ∧ Below w.heap.size w w' := by
  have h1 : decide ((200 : Int) < a.size) = false := by simp; omega
  have h2 : decide ((200 : Int) < b.size) = false := by simp; omega
  obtain ⟨S, hS⟩ : ∃ S : ByteArray, S = ⟨(cln a.data.toList).toArray⟩ := ⟨_, rfl⟩
  have hSd : S.data.toList = cln a.data.toList := by rw [hS]
  have hSl : S.size ≤ 800 := by
    rw [hS]
    have := cln_length a.data.toList
    rw [bytes_length] at this
    show (cln a.data.toList).length ≤ 800
    omega
  have hge : a.size ≤ S.size := by
    rw [hS]
    exact cln_length_ge _ a.data.toList (Nat.le_refl _)
  have hne : (S.toList == a.toList) = false := by
    rw [ByteArray.toList_eq, ByteArray.toList_eq, hSd]
    rw [beq_eq_false_iff_ne]
    intro e
    have := cln_valid a.data.toList
    rw [e, hv] at this
    cases this
  have HV : Hid (∀ W, Tab W tb → Calls Tryd.prog 16 #[.string a] W fun e w' => e = .returned (.bool false) ∧ Below W.heap.size W w') := by
    intro W h
    have := valid_any a W tb (by unfold maxLen; omega) h
    rwa [hv] at this
  have HVS : Hid (∀ W, Tab W tb → Calls Tryd.prog 16 #[.string S] W fun e w' => e = .returned (.bool true) ∧ Below W.heap.size W w') := by
    intro W h
    have := valid_any S W tb (by unfold maxLen; omega) h
    rwa [hSd, cln_valid] at this
  have HC : Hid (∀ W, Tab W tb → Calls Tryd.prog 18 #[.string a] W fun e w' => e = .returned (.string S) ∧ Below W.heap.size W w') := by
    intro W h
    rw [hS]
    exact clean_any a W tb (by omega) h
  have HCS : Hid (∀ W, Tab W tb → Calls Tryd.prog 18 #[.string S] W fun e w' => e = .returned (.string S) ∧ Below W.heap.size W w') := by
    intro W h
    have := clean_any S W tb (by omega) h
    rwa [array_eq (s := S) (l := cln S.data.toList) (by rw [hSd, cln_of_valid (cln_valid _)])] at this
  clear hv hS hSd
  go_enter Tryd.func5, Tryd.ntmps5
  go_wp2_with fail
  refine (known_any _ tb hT).mono ?_
  rintro e w1 ⟨rfl, b1⟩
  have t1 := hT.later b1
  go_wp2_with fail
  refine (HC.out _ t1).mono ?_
  rintro e w2 ⟨rfl, b2⟩
  have t2 := t1.later b2
  go_wp2_with fail
  refine (HVS.out _ t2).mono ?_
  rintro e w3 ⟨rfl, b3⟩
  have t3 := t2.later b3
  go_wp2_with fail
  refine (HCS.out _ t3).mono ?_
  rintro e w4 ⟨rfl, b4⟩
  have t4 := t3.later b4
  go_wp2_with fail
  refine (HV.out _ t4).mono ?_
  rintro e w5 ⟨rfl, b5⟩
  have t5 := t4.later b5
  go_wp2_with fail
  refine (HV.out _ t5).mono ?_
  rintro e w6 ⟨rfl, b6⟩
  go_wp2
  go_ret
  have g1 := b1.trans (b2.mono b1.size)
  have g2 := g1.trans (b3.mono g1.size)
  have g3 := g2.trans (b4.mono g2.size)
  have g4 := g3.trans (b5.mono g3.size)
  exact ⟨rfl, g4.trans (b6.mono g4.size)⟩

theorem cleanlaw_any (a b : ByteArray) (hA : a.size ≤ maxLen) (hB : b.size ≤ maxLen) (w : World) (tb : Nat × Nat) (hT : Tab w tb) :
    Calls Tryd.prog 5 #[.string a, .string b] w fun e w' => e = .returned (.bool true) ∧ Below w.heap.size w w' := by
  by_cases hl : 200 < a.size ∨ 200 < b.size
  · exact clean_long a b hA hB hl w tb hT
  · cases hv : vld a.data.toList with
    | true => exact clean_good a b (by omega) (by omega) hv w tb hT
    | false => exact clean_bad a b (by omega) (by omega) hv w tb hT
end Go.Proofs.YtncabdbacncaaaaDoor
