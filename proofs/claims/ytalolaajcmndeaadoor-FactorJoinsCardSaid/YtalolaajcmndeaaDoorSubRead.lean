/- Len, Count, Size, Has, Empty: what a subset tells. -/
import Derived.Test.YtalolaajcmndeaaDoorSubAdd
namespace Go.Proofs.YtalolaajcmndeaaDoor
open Go.RowKit Go.Sort
set_option linter.unusedSimpArgs false
set_option linter.unusedVariables false

/-- A subset in memory: its runs are those of this row of counts. -/
def Sub (w : World) (p : Value) (L : List Int) : Prop := ∃ b v, p = .pointer (some ⟨b, 0, none⟩) ∧ w.cell? ⟨b, 0, none⟩ = some v ∧ SgAt w v (rle L)
theorem Sub.later {w w' : World} {p : Value} {L : List Int} (h : Sub w p L) (hb : Below w.heap.size w w') : Sub w' p L := by
  obtain ⟨b, v, e, h1, h2⟩ := h
  exact ⟨b, v, e, cell_later7 hb (Nat.le_refl _) h1, h2.later hb⟩
/-- How often a place is in it. -/
def cnt (L : List Int) (at' : Int) : Int := if at' < 0 then 0 else L[at'.toNat]?.getD 0
theorem below_new7 {a w : World} (h : Below a.heap.size a w) (o : Obj) : Below a.heap.size a (w.alloc o) := h.alloc h.size o

set_option maxHeartbeats 800000 in
set_option maxRecDepth 100000 in
theorem len_any7 {w : World} {p : Value} {L : List Int} (h : Sub w p L) (hl : L.length ≤ 1073741824) :
    Calls Tryd.prog 35 #[p] w fun e w' => e = .returned (.int .i64 (L.length : Nat)) ∧ Below w.heap.size w w' := by
  obtain ⟨b, v, rfl, hp, hrow⟩ := h
  have HL : Hid (xp (rle L) = L) := xp_rle L
  have HP : Hid (∀ r ∈ rle L, 1 ≤ r.1) := fun r hr => rle_pos hr
  have hrl := rle_len L
  generalize rle L = rs at *
  obtain ⟨a, cap, rfl, hcap, hnone, hcells⟩ := hrow
  have HC0 := Hid.mk7 hcells
  clear hcells hnone
  go_enter Tryd.func35, Tryd.ntmps35
  go_wp2
  clear hp
  go_loopw [3, 11] (fun nv iv wr => ∃ k : Nat, k ≤ rs.length ∧ iv = .int .i64 (k : Nat) ∧ nv = .int .i64 ((xp (rs.take k)).length : Nat) ∧ Below w.heap.size w wr) (fun _ iv _ => rs.length - (intOf iv).toNat)
  case atStart => exact ⟨0, Nat.zero_le _, rfl, by simp [xp], Below.refl _ _⟩
  case round =>
    obtain ⟨k, hk, rfl, rfl, hb⟩ := hrel
    by_cases hlt : k < rs.length
    · obtain ⟨r, hr⟩ : ∃ r, rs[k]? = some r := ⟨rs[k], List.getElem?_eq_getElem hlt⟩
      obtain ⟨g, off, rfl, q0, q1⟩ := HC0.out k r hr
      have c0 := cell_later7 hb (Nat.le_refl _) q0
      have c1 := cell_later7 hb (Nat.le_refl _) q1
      obtain ⟨n, c⟩ := r
      simp only at c0 c1
      have hn := HP.out _ (List.mem_of_getElem? hr)
      simp only at hn
      have hP := xp_take_le2 hr
      rw [HL.out] at hP
      simp only at hP
      have hxl : (xp (rs.take (k + 1))).length = (xp (rs.take k)).length + n.toNat := by rw [xp_take hr]; simp
      have HXL := Hid.mk7 hxl
      obtain ⟨N, rfl⟩ : ∃ N : Nat, n = (N : Int) := ⟨n.toNat, by omega⟩
      rw [Int.toNat_natCast] at HXL hP
      clear hxl q0 q1 hr
      generalize (xp (rs.take k)).length = P at *
      have hb2 := below_new7 hb (.cells #[.int .i64 (N : Nat), .int .i64 c] 79)
      go_wp2
      go_roundw
      case rel => exact ⟨k + 1, by omega, by go_num, by rw [HXL.out]; go_num, hb2⟩
      case measure => simp [intOf]; omega
    · obtain rfl : k = rs.length := by omega
      have HE : Hid ((xp (rs.take rs.length)).length = L.length) := by show _ = _; rw [List.take_length, HL.out]
      generalize (xp (rs.take rs.length)).length = P at *
      go_wp2
      go_ret
      exact ⟨ret_int7 (by rw [HE.out]), hb⟩

set_option maxHeartbeats 800000 in
set_option maxRecDepth 100000 in
theorem size_any7 {w : World} {p : Value} {L : List Int} (h : Sub w p L) (hl : L.length ≤ 1073741824) :
    Calls Tryd.prog 36 #[p] w fun e w' => e = .returned (.int .i64 (szc L : Nat)) ∧ Below w.heap.size w w' := by
  obtain ⟨b, v, rfl, hp, hrow⟩ := h
  have HL : Hid (xp (rle L) = L) := xp_rle L
  have HP : Hid (∀ r ∈ rle L, 1 ≤ r.1) := fun r hr => rle_pos hr
  have hrl := rle_len L
  generalize rle L = rs at *
  obtain ⟨a, cap, rfl, hcap, hnone, hcells⟩ := hrow
  have HC0 := Hid.mk7 hcells
  clear hcells hnone
  go_enter Tryd.func36, Tryd.ntmps36
  go_wp2
  clear hp
  go_loopw [3, 11] (fun nv iv wr => ∃ k : Nat, k ≤ rs.length ∧ iv = .int .i64 (k : Nat) ∧ nv = .int .i64 (szc (xp (rs.take k)) : Nat) ∧ Below w.heap.size w wr) (fun _ iv _ => rs.length - (intOf iv).toNat)
  case atStart => exact ⟨0, Nat.zero_le _, rfl, by simp [xp, szc], Below.refl _ _⟩
  case round =>
    obtain ⟨k, hk, rfl, rfl, hb⟩ := hrel
    by_cases hlt : k < rs.length
    · obtain ⟨r, hr⟩ : ∃ r, rs[k]? = some r := ⟨rs[k], List.getElem?_eq_getElem hlt⟩
      obtain ⟨g, off, rfl, q0, q1⟩ := HC0.out k r hr
      have c0 := cell_later7 hb (Nat.le_refl _) q0
      have c1 := cell_later7 hb (Nat.le_refl _) q1
      obtain ⟨n, c⟩ := r
      simp only at c0 c1
      have hn := HP.out _ (List.mem_of_getElem? hr)
      simp only at hn
      have hP := xp_take_le2 hr
      rw [HL.out] at hP
      simp only at hP
      have hs := szc_le (xp (rs.take k))
      have hxl := szc_take hr
      simp only at hxl
      have HXL := Hid.mk7 hxl
      obtain ⟨N, rfl⟩ : ∃ N : Nat, n = (N : Int) := ⟨n.toNat, by omega⟩
      rw [Int.toNat_natCast] at HXL hP
      clear hxl q0 q1 hr
      have hPs : szc (xp (rs.take k)) + N ≤ L.length := by omega
      clear hs hP
      generalize szc (xp (rs.take k)) = P at *
      have hb2 := below_new7 hb (.cells #[.int .i64 (N : Nat), .int .i64 c] 79)
      by_cases hc : 0 < c
      · have HX2 : Hid (szc (xp (rs.take (k + 1))) = P + N) := by have := HXL.out; rw [if_pos hc] at this; exact this
        clear HXL
        go_wp2
        go_roundw
        case rel => exact ⟨k + 1, by omega, by go_num, by rw [HX2.out]; go_num, hb2⟩
        case measure => simp [intOf]; omega
      · have HX2 : Hid (szc (xp (rs.take (k + 1))) = P) := by have := HXL.out; rw [if_neg hc] at this; exact this
        clear HXL
        go_wp2
        go_roundw
        case rel => exact ⟨k + 1, by omega, by go_num, by rw [HX2.out], hb2⟩
        case measure => simp [intOf]; omega
    · obtain rfl : k = rs.length := by omega
      have HE : Hid (szc (xp (rs.take rs.length)) = szc L) := by show _ = _; rw [List.take_length, HL.out]
      generalize szc (xp (rs.take rs.length)) = P at *
      go_wp2
      go_ret
      exact ⟨ret_int7 (by rw [HE.out]), hb⟩

theorem cnt_at {rs : List Sg} {k : Nat} {n c : Int} {at' : Int} (hr : rs[k]? = some (n, c)) (h0 : ((xp (rs.take k)).length : Int) ≤ at') (h1 : at' < (xp (rs.take k)).length + n) : cnt (xp rs) at' = c := by
  unfold cnt
  rw [if_neg (by omega), xp_split hr, List.getElem?_append_right (by omega), List.getElem?_append_left (by simp; omega), List.getElem?_replicate, if_pos (by omega)]
  rfl
theorem cnt_out {L : List Int} {at' : Int} (h : (L.length : Int) ≤ at') : cnt L at' = 0 := by
  unfold cnt
  rw [if_neg (by omega), List.getElem?_eq_none (by omega)]
  rfl
theorem cnt_neg {L : List Int} {at' : Int} (h : at' < 0) : cnt L at' = 0 := by unfold cnt; rw [if_pos h]
theorem cnt_in {L : List Int} {i : Nat} (h : i < L.length) : cnt L (i : Int) = L[i] := by
  unfold cnt
  rw [if_neg (by omega), Int.toNat_natCast, List.getElem?_eq_getElem h]
  rfl

set_option maxHeartbeats 800000 in
set_option maxRecDepth 100000 in
theorem count_any {w : World} {p : Value} {L : List Int} (at' : Int) (h : Sub w p L) (hl : L.length ≤ 1073741824) (ha : at' ≤ 1099511627776) :
    Calls Tryd.prog 38 #[p, .int .i64 at'] w fun e w' => e = .returned (.int .i64 (cnt L at')) ∧ Below w.heap.size w w' := by
  obtain ⟨b, v, rfl, hp, hrow⟩ := h
  by_cases hneg : at' < 0
  · rw [cnt_neg hneg]
    go_enter Tryd.func38, Tryd.ntmps38
    go_wp2
    go_ret
    exact ⟨rfl, Below.refl _ _⟩
  have HL : Hid (xp (rle L) = L) := xp_rle L
  have HP : Hid (∀ r ∈ rle L, 1 ≤ r.1) := fun r hr => rle_pos hr
  have hrl := rle_len L
  generalize rle L = rs at *
  obtain ⟨a, cap, rfl, hcap, hnone, hcells⟩ := hrow
  have HC0 := Hid.mk7 hcells
  clear hcells hnone
  have hd : decide (at' < 0) = false := by simpa using hneg
  go_enter Tryd.func38, Tryd.ntmps38
  go_wp2
  clear hp
  go_loopw [1, 14] (fun av iv wr => ∃ k : Nat, k ≤ rs.length ∧ iv = .int .i64 (k : Nat) ∧ av = .int .i64 (at' - ((xp (rs.take k)).length : Nat)) ∧ ((xp (rs.take k)).length : Int) ≤ at' ∧ Below w.heap.size w wr) (fun _ iv _ => rs.length - (intOf iv).toNat)
  case atStart => exact ⟨0, Nat.zero_le _, rfl, by simp [xp], by simp [xp]; omega, Below.refl _ _⟩
  case round =>
    obtain ⟨k, hk, rfl, rfl, hge, hb⟩ := hrel
    by_cases hlt : k < rs.length
    · obtain ⟨r, hr⟩ : ∃ r, rs[k]? = some r := ⟨rs[k], List.getElem?_eq_getElem hlt⟩
      obtain ⟨g, off, rfl, q0, q1⟩ := HC0.out k r hr
      have c0 := cell_later7 hb (Nat.le_refl _) q0
      have c1 := cell_later7 hb (Nat.le_refl _) q1
      obtain ⟨n, c⟩ := r
      simp only at c0 c1
      have hn := HP.out _ (List.mem_of_getElem? hr)
      simp only at hn
      have hP := xp_take_le2 hr
      rw [HL.out] at hP
      simp only at hP
      have hxl : (xp (rs.take (k + 1))).length = (xp (rs.take k)).length + n.toNat := by rw [xp_take hr]; simp
      have HXL := Hid.mk7 hxl
      have HAT : Hid (at' < (xp (rs.take k)).length + n → cnt L at' = c) := fun h1 => by rw [← HL.out]; exact cnt_at hr hge h1
      obtain ⟨N, rfl⟩ : ∃ N : Nat, n = (N : Int) := ⟨n.toNat, by omega⟩
      rw [Int.toNat_natCast] at HXL hP
      clear hxl q0 q1 hr
      generalize (xp (rs.take k)).length = P at *
      have hb2 := below_new7 hb (.cells #[.int .i64 (N : Nat), .int .i64 c] 79)
      by_cases hin : at' - (P : Int) < (N : Int)
      · go_wp2
        go_ret
        exact ⟨ret_int7 (HAT.out (by omega)).symm, hb2⟩
      · go_wp2
        go_roundw
        case rel => exact ⟨k + 1, by omega, by go_num, by rw [HXL.out]; go_num, by rw [HXL.out]; omega, hb2⟩
        case measure => simp [intOf]; omega
    · obtain rfl : k = rs.length := by omega
      have HE : Hid (cnt L at' = 0) := cnt_out (by rw [List.take_length, HL.out] at hge; exact hge)
      clear hge
      generalize (xp (rs.take rs.length)).length = P at *
      go_wp2
      go_ret
      exact ⟨ret_int7 HE.out.symm, hb⟩

set_option maxHeartbeats 800000 in
theorem empty_any7 {w : World} {p : Value} {L : List Int} (h : Sub w p L) (hl : L.length ≤ 1073741824) :
    Calls Tryd.prog 34 #[p] w fun e w' => e = .returned (.bool (decide (szc L = 0))) ∧ Below w.heap.size w w' := by
  have HC := Hid.mk7 (size_any7 h hl)
  clear h
  generalize szc L = P at *
  go_enter Tryd.func34, Tryd.ntmps34
  go_wp2_with fail
  refine HC.out.mono ?_
  rintro e w1 ⟨rfl, b1⟩
  go_wp2
  go_ret
  refine ⟨ret_bool7 ?_, b1⟩
  rw [Bool.eq_iff_iff]; simp
end Go.Proofs.YtalolaajcmndeaaDoor
