/- The reference's From, walked. -/
import Derived.Test.YtfgefdkkjfjjjabGreatDoorRefOf
import Derived.Test.YtfgefdkkjfjjjabGreatDoorCountTo
namespace Go.Proofs.YtfgefdkkjfjjjabGreatDoor
open Go.RowKit Go.Sort

set_option maxHeartbeats 1000000 in
set_option maxRecDepth 100000 in
theorem reffrom_form (s : ByteArray) (k n : Int) (w : World) (hs : s.size ≤ 5000) (hc : ctb s k = false) :
    Calls Tryz.prog 12 #[.string s, .int .i64 k, .int .i64 n] w fun e w' => e = .returned (.tuple #[.int .i64 0, .int .i64 12]) ∧ Below w.heap.size w w' := by
  by_cases h0 : k < 0
  · go_enter Tryz.func12, Tryz.ntmps12
    go_wp2
    go_ret2
    exact ⟨rfl, Below.refl _ _⟩
  · have q0 : decide (k < 0) = false := by simpa using h0
    by_cases h1 : 3 < k
    · go_enter Tryz.func12, Tryz.ntmps12
      go_wp2
      go_ret2
      exact ⟨rfl, Below.refl _ _⟩
    · have q1 : decide (3 < k) = false := by simpa using h1
      have hv : vld s.data.toList = false := by
        unfold ctb at hc
        cases hv : vld s.data.toList with
        | false => rfl
        | true => rw [hv, Bool.and_true] at hc; simp at hc; omega
      have HV : Hid (∀ W, Calls Tryz.prog 23 #[.string s] W fun e w' => e = .returned (.bool false) ∧ w' = W) := fun W => by have := refvalid_any s W (by unfold maxLen; omega); rwa [hv] at this
      clear hc hv
      go_enter Tryz.func12, Tryz.ntmps12
      go_wp2_with fail
      refine (HV.out _).mono ?_
      rintro e w1 ⟨rfl, rfl⟩
      go_wp2
      go_ret2
      exact ⟨rfl, Below.refl _ _⟩

set_option maxHeartbeats 1000000 in
set_option maxRecDepth 100000 in
/-- The reference's From. -/
theorem reffrom_any (s : ByteArray) (k a : Int) (w : World) (hs : s.size ≤ 5000) :
    Calls Tryz.prog 12 #[.string s, .int .i64 k, .int .i64 a] w fun e w' => e = .returned (.tuple #[.int .i64 (frB s k a), .int .i64 (frE s k a)]) ∧ Below w.heap.size w w' := by
  cases hc : ctb s k with
  | false =>
    have eB : frB s k a = 0 := by unfold frB; rw [if_pos hc]
    have eE : frE s k a = 12 := by unfold frE; rw [if_pos hc]
    rw [eB, eE]
    exact reffrom_form s k a w hs hc
  | true =>
    have hv : vld s.data.toList = true ∧ 0 ≤ k ∧ k ≤ 3 := by
      unfold ctb at hc
      simp at hc
      exact ⟨hc.2, hc.1⟩
    have HV : Hid (∀ W, Calls Tryz.prog 23 #[.string s] W fun e w' => e = .returned (.bool true) ∧ w' = W) := fun W => by have := refvalid_any s W (by unfold maxLen; omega); rwa [hv.1] at this
    have q0 : decide (k < 0) = false := by simp; omega
    have q1 : decide (3 < k) = false := by simp; omega
    have HB : Hid (frB s k a = if a < 0 ∨ (s.size : Int) < a then 0 else if edg s a = false then 0 else kG k (pts (s.extract 0 a.toNat).data.toList)) := by
      show _ = _
      unfold frB
      rw [if_neg (by rw [hc]; simp)]
    have HE : Hid (frE s k a = if a < 0 ∨ (s.size : Int) < a then 10 else if edg s a = false then 11 else 0) := by
      show _ = _
      unfold frE
      rw [if_neg (by rw [hc]; simp)]
    generalize frB s k a = tB at *
    generalize frE s k a = tE at *
    clear hc hv
    by_cases ho : a < 0 ∨ (s.size : Int) < a
    · have eB := HB.out
      have eE := HE.out
      rw [if_pos ho] at eB eE
      subst eB eE
      clear HB HE
      rcases Classical.em (a < 0) with h0 | h0
      · clear ho
        go_enter Tryz.func12, Tryz.ntmps12
        go_wp2_with fail
        refine (HV.out _).mono ?_
        rintro e w1 ⟨rfl, rfl⟩
        go_wp2
        go_ret2
        exact ⟨rfl, Below.refl _ _⟩
      · have h1 : (s.size : Int) < a := by omega
        have p0 : decide (a < 0) = false := by simpa using h0
        clear ho
        go_enter Tryz.func12, Tryz.ntmps12
        go_wp2_with fail
        refine (HV.out _).mono ?_
        rintro e w1 ⟨rfl, rfl⟩
        go_wp2
        go_ret2
        exact ⟨rfl, Below.refl _ _⟩
    · obtain ⟨i, rfl⟩ : ∃ i : Nat, a = i := ⟨a.toNat, by omega⟩
      have hi : i ≤ s.size := by omega
      have hiI : (i : Int) ≤ (s.size : Int) := by omega
      have hni : decide ((s.size : Int) < (i : Int)) = false := by simp; omega
      have HEd : Hid (∀ W, Calls Tryz.prog 36 #[.string s, .int .i64 (i : Nat)] W fun e w' => e = .returned (.bool (edg s i)) ∧ w' = W) := fun W => refedge_any s i W (by unfold maxLen; omega)
      cases he : edg s i with
      | false =>
        have eB := HB.out
        have eE := HE.out
        rw [if_neg ho, if_pos he] at eB eE
        subst eB eE
        rw [he] at HEd
        clear HB HE ho he
        go_enter Tryz.func12, Tryz.ntmps12
        go_wp2_with fail
        refine (HV.out _).mono ?_
        rintro e w1 ⟨rfl, rfl⟩
        go_wp2_with fail
        refine (HEd.out _).mono ?_
        rintro e w2 ⟨rfl, rfl⟩
        go_wp2
        go_ret2
        exact ⟨rfl, Below.refl _ _⟩
      | true =>
        have eB := HB.out
        have eE := HE.out
        rw [if_neg ho, if_neg (by rw [he]; simp), Int.toNat_natCast] at eB
        rw [if_neg ho, if_neg (by rw [he]; simp)] at eE
        subst eE
        rw [he] at HEd
        have HOf : Hid (∀ W, Calls Tryz.prog 16 #[.string (s.extract 0 i)] W fun e w' => e = .returned (.agg #[.int .i64 (kB (pts (s.extract 0 i).data.toList)), .int .i64 (kP (pts (s.extract 0 i).data.toList)), .int .i64 (kU (pts (s.extract 0 i).data.toList)), .int .i64 (kL (pts (s.extract 0 i).data.toList))]) ∧ Below W.heap.size W w') := fun W => refof_any _ W (by rw [ByteArray.size_extract]; omega)
        have HGet : Hid (∀ W, Calls Tryz.prog 15 #[.agg #[.int .i64 (kB (pts (s.extract 0 i).data.toList)), .int .i64 (kP (pts (s.extract 0 i).data.toList)), .int .i64 (kU (pts (s.extract 0 i).data.toList)), .int .i64 (kL (pts (s.extract 0 i).data.toList))], .int .i64 k] W fun e w' => e = .returned (.int .i64 tB) ∧ Below W.heap.size W w') := fun W => by rw [eB]; exact refget_any k _ _ _ _ W
        clear HB HE ho he eB
        generalize kB (pts (s.extract 0 i).data.toList) = vB at *
        generalize kP (pts (s.extract 0 i).data.toList) = vP at *
        generalize kU (pts (s.extract 0 i).data.toList) = vU at *
        generalize kL (pts (s.extract 0 i).data.toList) = vL at *
        go_enter Tryz.func12, Tryz.ntmps12
        go_wp2_with fail
        refine (HV.out _).mono ?_
        rintro e w1 ⟨rfl, rfl⟩
        go_wp2_with fail
        refine (HEd.out _).mono ?_
        rintro e w2 ⟨rfl, rfl⟩
        go_wp2_with fail
        refine (HOf.out _).mono ?_
        rintro e w3 ⟨rfl, b3⟩
        go_wp2_with fail
        refine (HGet.out _).mono ?_
        rintro e w4 ⟨rfl, b4⟩
        go_wp2
        go_ret2
        exact ⟨rfl, b3.trans (b4.mono b3.size)⟩
end Go.Proofs.YtfgefdkkjfjjjabGreatDoor
