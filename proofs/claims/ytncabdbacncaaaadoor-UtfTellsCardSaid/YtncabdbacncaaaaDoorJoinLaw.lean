/- UtfJoin, walked: it answers true at every two texts and place. -/
import Derived.Test.YtncabdbacncaaaaDoorCleanLaw
namespace Go.Proofs.YtncabdbacncaaaaDoor
open Go.RowKit Go.Sort

/-- A place of a text: where a code point begins (or the end), or within one. -/
theorem place_cases : ∀ (cs : List Int) (k : Nat), k ≤ (flat cs).length →
    (∃ cs1 cs2, cs = cs1 ++ cs2 ∧ k = (flat cs1).length) ∨ (∃ cs1 c cs2 j, cs = cs1 ++ c :: cs2 ∧ k = (flat cs1).length + j ∧ 0 < j ∧ j < (enc c).length)
  | [], k, h => Or.inl ⟨[], [], rfl, by simp [flat] at h ⊢; exact h⟩
  | c :: cs, k, h => by
    rw [flat_cons, List.length_append] at h
    by_cases h0 : k = 0
    · exact Or.inl ⟨[], c :: cs, rfl, by rw [h0]; rfl⟩
    · by_cases h1 : k < (enc c).length
      · exact Or.inr ⟨[], c, cs, k, rfl, by simp [flat], by omega, h1⟩
      · rcases place_cases cs (k - (enc c).length) (by omega) with ⟨cs1, cs2, e, hk⟩ | ⟨cs1, d, cs2, j, e, hk, hj⟩
        · exact Or.inl ⟨c :: cs1, cs2, by rw [e]; rfl, by rw [flat_cons, List.length_append]; omega⟩
        · exact Or.inr ⟨c :: cs1, d, cs2, j, by rw [e]; rfl, by rw [flat_cons, List.length_append]; omega, hj⟩

theorem good_left {a b : List Int} (h : Good (a ++ b)) : Good a := fun x hx => h x (List.mem_append.2 (Or.inl hx))
theorem good_right {a b : List Int} (h : Good (a ++ b)) : Good b := fun x hx => h x (List.mem_append.2 (Or.inr hx))

theorem edge_join (a b : ByteArray) (ha : vld a.data.toList = true) (hb : vld b.data.toList = true) (k : Nat) (hk : k ≤ a.size) : edg (a ++ b) (k : Int) = edg a (k : Int) := by
  have ea := flat_pts' ha
  have eb := flat_pts' hb
  have ga := good_pts' a.data.toList
  have gb := good_pts' b.data.toList
  have hl : (flat (pts a.data.toList)).length = a.size := by rw [ea]; rfl
  rcases place_cases (pts a.data.toList) k (by omega) with ⟨cs1, cs2, e, rfl⟩ | ⟨cs1, c, cs2, j, e, rfl, h0, h1⟩
  · rw [e] at ga ea
    rw [edge_start (s := a) (cs1 := cs1) (cs2 := cs2) (by rw [← ea, flat_append]) (good_left ga) (good_right ga)]
    exact edge_start (s := a ++ b) (cs1 := cs1) (cs2 := cs2 ++ pts b.data.toList) (by rw [bytes_append, ← ea, ← eb, flat_append, flat_append, pts_flat' gb, List.append_assoc]) (good_left ga) ((good_right ga).append gb)
  · rw [e] at ga ea
    have hc : scalar c := (good_right ga).head
    rw [edge_within (s := a) (cs1 := cs1) (c := c) (cs2 := cs2) (by rw [← ea, flat_append]) hc j h0 h1]
    exact edge_within (s := a ++ b) (cs1 := cs1) (c := c) (cs2 := cs2 ++ pts b.data.toList) (by rw [bytes_append, ← ea, ← eb, flat_append, flat_cons, flat_cons, flat_append, pts_flat' gb]; simp) hc j h0 h1

theorem pts_append {a : List UInt8} (h : vld a = true) (b : List UInt8) : pts (a ++ b) = pts a ++ pts b := by
  have e := flat_pts' h
  conv => lhs; rw [← e]
  exact pts_flat (good_pts' a) b
theorem map_tor {cs : List Int} (h : Good cs) : cs.map tor = cs := by
  induction cs with
  | nil => rfl
  | cons c cs ih =>
    have hc := h.head
    unfold scalar at hc
    rw [List.map_cons, ih h.tail]
    unfold tor
    rw [if_pos hc]

theorem ints_shape {w : World} {v : Value} {zs : List Int} (h : IntsAt w v zs) : ∃ ad cap, v = .slice ad zs.length cap := by
  rcases h with ⟨rfl, rfl⟩ | ⟨blk, off, cap, rfl, _⟩
  · exact ⟨none, 0, rfl⟩
  · exact ⟨_, _, rfl⟩

theorem good_int {cs : List Int} (h : Good cs) : ∀ i, i < cs.length → -9223372036854775808 ≤ cs.getD i 0 ∧ cs.getD i 0 ≤ 9223372036854775807 := by
  intro i hi
  have := h (cs.getD i 0) (by rw [List.getD_eq_getElem?_getD, List.getElem?_eq_getElem hi]; exact List.getElem_mem hi)
  unfold scalar at this
  omega

set_option maxHeartbeats 1000000 in
set_option maxRecDepth 100000 in
theorem join_long (a b : ByteArray) (p : Int) (hA : a.size ≤ maxLen) (hB : b.size ≤ maxLen) (hlong : 100 < a.size ∨ 100 < b.size) (w : World) (tb : Nat × Nat) (hT : Tab w tb) :
    Calls Tryd.prog 8 #[.string a, .string b, .int .u8 p] w fun e w' => e = .returned (.bool true) ∧ Below w.heap.size w w' := by
  unfold maxLen at hA hB
  by_cases h1 : (100 : Int) < a.size
  · clear hlong
    go_enter Tryd.func8, Tryd.ntmps8
    go_wp2_with fail
    refine (known_any _ tb hT).mono ?_
    rintro e w1 ⟨rfl, b1⟩
    go_wp2
    go_ret
    exact ⟨rfl, b1⟩
  · have h2 : (100 : Int) < b.size := by omega
    clear hlong
    go_enter Tryd.func8, Tryd.ntmps8
    go_wp2_with fail
    refine (known_any _ tb hT).mono ?_
    rintro e w1 ⟨rfl, b1⟩
    go_wp2
    go_ret
    exact ⟨rfl, b1⟩

set_option maxHeartbeats 1000000 in
set_option maxRecDepth 100000 in
theorem join_bad (a b : ByteArray) (p : Int) (hA : a.size ≤ 100) (hB : b.size ≤ 100) (hv : vld a.data.toList = false ∨ vld b.data.toList = false) (w : World) (tb : Nat × Nat) (hT : Tab w tb) :
    Calls Tryd.prog 8 #[.string a, .string b, .int .u8 p] w fun e w' => e = .returned (.bool true) ∧ Below w.heap.size w w' := by
  have h1 : decide ((100 : Int) < a.size) = false := by simp; omega
  have h2 : decide ((100 : Int) < b.size) = false := by simp; omega
  have HVa : Hid (∀ W, Tab W tb → Calls Tryd.prog 16 #[.string a] W fun e w' => e = .returned (.bool (vld a.data.toList)) ∧ Below W.heap.size W w') := fun W h => valid_any a W tb (by unfold maxLen; omega) h
  have HVb : Hid (∀ W, Tab W tb → Calls Tryd.prog 16 #[.string b] W fun e w' => e = .returned (.bool (vld b.data.toList)) ∧ Below W.heap.size W w') := fun W h => valid_any b W tb (by unfold maxLen; omega) h
  cases hva : vld a.data.toList with
  | false =>
    rw [hva] at HVa
    clear hv hva HVb
    go_enter Tryd.func8, Tryd.ntmps8
    go_wp2_with fail
    refine (known_any _ tb hT).mono ?_
    rintro e w1 ⟨rfl, b1⟩
    have t1 := hT.later b1
    go_wp2_with fail
    refine (HVa.out _ t1).mono ?_
    rintro e w2 ⟨rfl, b2⟩
    go_wp2
    go_ret
    exact ⟨rfl, b1.trans (b2.mono b1.size)⟩
  | true =>
    have hvb : vld b.data.toList = false := by rcases hv with h | h; rw [hva] at h; cases h; exact h
    rw [hva] at HVa
    rw [hvb] at HVb
    clear hv hva hvb
    go_enter Tryd.func8, Tryd.ntmps8
    go_wp2_with fail
    refine (known_any _ tb hT).mono ?_
    rintro e w1 ⟨rfl, b1⟩
    have t1 := hT.later b1
    go_wp2_with fail
    refine (HVa.out _ t1).mono ?_
    rintro e w2 ⟨rfl, b2⟩
    have t2 := t1.later b2
    go_wp2_with fail
    refine (HVb.out _ t2).mono ?_
    rintro e w3 ⟨rfl, b3⟩
    go_wp2
    go_ret
    have g1 := b1.trans (b2.mono b1.size)
    exact ⟨rfl, g1.trans (b3.mono g1.size)⟩

set_option maxHeartbeats 1000000 in
set_option maxRecDepth 100000 in
theorem join_good (a b : ByteArray) (p : Int) (hp : 0 ≤ p ∧ p ≤ 255) (hA : a.size ≤ 100) (hB : b.size ≤ 100) (ha : vld a.data.toList = true) (hb : vld b.data.toList = true) (w : World) (tb : Nat × Nat) (hT : Tab w tb) :
    Calls Tryd.prog 8 #[.string a, .string b, .int .u8 p] w fun e w' => e = .returned (.bool true) ∧ Below w.heap.size w w' := by
  have h1 : decide ((100 : Int) < a.size) = false := by simp; omega
  have h2 : decide ((100 : Int) < b.size) = false := by simp; omega
  have hab : vld (a ++ b).data.toList = true := by rw [bytes_append]; exact vld_append ha hb
  have hsz : (a ++ b).size ≤ 200 := by rw [ByteArray.size_append]; omega
  have HVa : Hid (∀ W, Tab W tb → Calls Tryd.prog 16 #[.string a] W fun e w' => e = .returned (.bool true) ∧ Below W.heap.size W w') := fun W h => by have := valid_any a W tb (by unfold maxLen; omega) h; rwa [ha] at this
  have HVb : Hid (∀ W, Tab W tb → Calls Tryd.prog 16 #[.string b] W fun e w' => e = .returned (.bool true) ∧ Below W.heap.size W w') := fun W h => by have := valid_any b W tb (by unfold maxLen; omega) h; rwa [hb] at this
  have HVab : Hid (∀ W, Tab W tb → Calls Tryd.prog 16 #[.string (a ++ b)] W fun e w' => e = .returned (.bool true) ∧ Below W.heap.size W w') := fun W h => by have := valid_any (a ++ b) W tb (by unfold maxLen; omega) h; rwa [hab] at this
  have HE : Hid (∀ (k : Nat), k ≤ a.size → ∃ e0 : Bool, (∀ W, Tab W tb → Calls Tryd.prog 20 #[.string (a ++ b), .int .i64 k] W fun e w' => e = .returned (.bool e0) ∧ Below W.heap.size W w') ∧ (∀ W, Tab W tb → Calls Tryd.prog 20 #[.string a, .int .i64 k] W fun e w' => e = .returned (.bool e0) ∧ Below W.heap.size W w')) := by
    intro k hk
    refine ⟨edg a k, fun W h => ?_, fun W h => edge_any a k W tb (by unfold maxLen; omega) h⟩
    have := edge_any (a ++ b) k W tb (by unfold maxLen; omega) h
    rwa [edge_join a b ha hb k hk] at this
  have HE2 : Hid (∀ W, Tab W tb → Calls Tryd.prog 20 #[.string (a ++ b), .int .i64 (a.size : Nat)] W fun e w' => e = .returned (.bool true) ∧ Below W.heap.size W w') := by
    intro W h
    have := edge_any (a ++ b) (a.size : Nat) W tb (by unfold maxLen; omega) h
    have e : edg a (a.size : Nat) = true := by unfold edg; simp [ha]
    rwa [edge_join a b ha hb a.size (Nat.le_refl _), e] at this
  obtain ⟨na, hna⟩ : ∃ n, n = (pts a.data.toList).length := ⟨_, rfl⟩
  obtain ⟨nb, hnb⟩ : ∃ n, n = (pts b.data.toList).length := ⟨_, rfl⟩
  have hnal : na ≤ 100 := by have := pts_length a.data.toList; rw [bytes_length] at this; omega
  have hnbl : nb ≤ 100 := by have := pts_length b.data.toList; rw [bytes_length] at this; omega
  have HPa : Hid (∀ W, Tab W tb → Calls Tryd.prog 11 #[.string a] W fun e w' => ∃ ad cap, e = .returned (.slice ad na cap) ∧ IntsAt w' (.slice ad na cap) (pts a.data.toList) ∧ Below W.heap.size W w') := by
    intro W h
    refine (points_any a W tb (by omega) h).mono fun e w' ⟨v, he, hv, hbw⟩ => ?_
    obtain ⟨ad, cap, rfl⟩ := ints_shape hv
    rw [hna]
    exact ⟨ad, cap, he, hv, hbw⟩
  have HPb : Hid (∀ W, Tab W tb → Calls Tryd.prog 11 #[.string b] W fun e w' => ∃ ad cap, e = .returned (.slice ad nb cap) ∧ Below W.heap.size W w') := by
    intro W h
    refine (points_any b W tb (by omega) h).mono fun e w' ⟨v, he, hv, hbw⟩ => ?_
    obtain ⟨ad, cap, rfl⟩ := ints_shape hv
    rw [hnb]
    exact ⟨ad, cap, he, hbw⟩
  have HPab : Hid (∀ W, Tab W tb → Calls Tryd.prog 11 #[.string (a ++ b)] W fun e w' => ∃ ad cap, e = .returned (.slice ad (na + nb) cap) ∧ Below W.heap.size W w') := by
    intro W h
    refine (points_any (a ++ b) W tb (by omega) h).mono fun e w' ⟨v, he, hv, hbw⟩ => ?_
    obtain ⟨ad, cap, rfl⟩ := ints_shape hv
    have e : (pts (a ++ b).data.toList).length = na + nb := by rw [bytes_append, pts_append ha, List.length_append, hna, hnb]
    rw [e] at he
    exact ⟨ad, cap, he, hbw⟩
  have HM : Hid (∀ W v, Tab W tb → IntsAt W v (pts a.data.toList) → Calls Tryd.prog 24 #[v] W fun e w' => e = .returned (.string a) ∧ Below W.heap.size W w') := by
    intro W v h hv
    have := make_any (pts a.data.toList) v W tb (good_int (good_pts' _)) (by omega) hv h
    rwa [map_tor (good_pts' _), array_eq (s := a) (flat_pts' ha).symm] at this
  clear ha hb hab hna hnb
  have hsz' : Hid ((a ++ b).size ≤ 200) := hsz
  clear hsz
  go_enter Tryd.func8, Tryd.ntmps8
  go_wp2_with fail
  refine (known_any _ tb hT).mono ?_
  rintro e w1 ⟨rfl, b1⟩
  have t1 := hT.later b1
  go_wp2_with fail
  refine (HVa.out _ t1).mono ?_
  rintro e w2 ⟨rfl, b2⟩
  have t2 := t1.later b2
  go_wp2_with fail
  refine (HVb.out _ t2).mono ?_
  rintro e w3 ⟨rfl, b3⟩
  have t3 := t2.later b3
  go_wp2_with fail
  refine (HVab.out _ t3).mono ?_
  rintro e w4 ⟨rfl, b4⟩
  have t4 := t3.later b4
  go_wp2_with fail
  have r0 : 0 ≤ p % ((a.size : Int) + 1) := Int.emod_nonneg _ (by omega)
  have r1 : p % ((a.size : Int) + 1) ≤ a.size := by have := Int.emod_lt_of_pos p (show (0 : Int) < (a.size : Int) + 1 by omega); omega
  generalize p % ((a.size : Int) + 1) = k0 at *
  obtain ⟨k, rfl⟩ : ∃ k : Nat, k0 = k := ⟨k0.toNat, by omega⟩
  obtain ⟨e0, hE1, hE2⟩ := HE.out k (by omega)
  have HE1 : Hid (∀ W, Tab W tb → Calls Tryd.prog 20 #[.string (a ++ b), .int .i64 k] W fun e w' => e = .returned (.bool e0) ∧ Below W.heap.size W w') := hE1
  have HE3 : Hid (∀ W, Tab W tb → Calls Tryd.prog 20 #[.string a, .int .i64 k] W fun e w' => e = .returned (.bool e0) ∧ Below W.heap.size W w') := hE2
  clear hE1 hE2 HE
  refine (HE1.out _ t4).mono ?_
  rintro e w5 ⟨rfl, b5⟩
  have t5 := t4.later b5
  go_wp2_with fail
  refine (HE3.out _ t5).mono ?_
  rintro e w6 ⟨rfl, b6⟩
  have t6 := t5.later b6
  go_wp2_with fail
  refine (HE2.out _ t6).mono ?_
  rintro e w7 ⟨rfl, b7⟩
  have t7 := t6.later b7
  go_wp2_with fail
  refine (HPab.out _ t7).mono ?_
  rintro e w8 ⟨ad1, cap1, rfl, b8⟩
  have t8 := t7.later b8
  go_wp2_with fail
  refine (HPa.out _ t8).mono ?_
  rintro e w9 ⟨ad2, cap2, rfl, _, b9⟩
  have t9 := t8.later b9
  go_wp2_with fail
  refine (HPb.out _ t9).mono ?_
  rintro e w10 ⟨ad3, cap3, rfl, b10⟩
  have t10 := t9.later b10
  go_wp2_with fail
  refine (HPa.out _ t10).mono ?_
  rintro e w11 ⟨ad4, cap4, rfl, hv, b11⟩
  have t11 := t10.later b11
  have HI : Hid (IntsAt w11 (.slice ad4 na cap4) (pts a.data.toList)) := hv
  clear hv
  go_wp2_with fail
  refine (HM.out _ _ t11 HI.out).mono ?_
  rintro e w12 ⟨rfl, b12⟩
  go_wp2
  go_ret
  have g1 := b1.trans (b2.mono b1.size)
  have g2 := g1.trans (b3.mono g1.size)
  have g3 := g2.trans (b4.mono g2.size)
  have g4 := g3.trans (b5.mono g3.size)
  have g5 := g4.trans (b6.mono g4.size)
  have g6 := g5.trans (b7.mono g5.size)
  have g7 := g6.trans (b8.mono g6.size)
  have g8 := g7.trans (b9.mono g7.size)
  have g9 := g8.trans (b10.mono g8.size)
  have g10 := g9.trans (b11.mono g9.size)
  exact ⟨rfl, g10.trans (b12.mono g10.size)⟩

theorem join_any (a b : ByteArray) (p : Int) (hp : 0 ≤ p ∧ p ≤ 255) (hA : a.size ≤ maxLen) (hB : b.size ≤ maxLen) (w : World) (tb : Nat × Nat) (hT : Tab w tb) :
    Calls Tryd.prog 8 #[.string a, .string b, .int .u8 p] w fun e w' => e = .returned (.bool true) ∧ Below w.heap.size w w' := by
  by_cases hl : 100 < a.size ∨ 100 < b.size
  · exact join_long a b p hA hB hl w tb hT
  · cases hva : vld a.data.toList with
    | false => exact join_bad a b p (by omega) (by omega) (Or.inl hva) w tb hT
    | true =>
      cases hvb : vld b.data.toList with
      | false => exact join_bad a b p (by omega) (by omega) (Or.inr hvb) w tb hT
      | true => exact join_good a b p hp (by omega) (by omega) hva hvb w tb hT
end Go.Proofs.YtncabdbacncaaaaDoor
