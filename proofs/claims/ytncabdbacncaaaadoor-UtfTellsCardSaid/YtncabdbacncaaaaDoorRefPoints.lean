/- The reference's Number and Points, walked. -/
import Derived.Test.YtncabdbacncaaaaDoorRefEdge
import Derived.Test.YtncabdbacncaaaaDoorRowLib
namespace Go.Proofs.YtncabdbacncaaaaDoor
open Go.RowKit Go.Sort

set_option maxHeartbeats 1000000 in
set_option maxRecDepth 100000 in
theorem refnum_one (s : ByteArray) (w : World) (hz : s.size = 1) :
    Calls Tryd.prog 13 #[.string s] w fun e w' => e = .returned (.int .i64 (byt s 0)) ∧ w' = w := by
  have i0 : 0 < s.size := by omega
  have r0 := byte_range s 0 i0
  rw [byt_of s 0 i0]
  go_enter Tryd.func13, Tryd.ntmps13
  go_wp2
  go_loop [5, 4] (fun j v => j = .int .i64 1 ∧ v = .int .i64 (s[0].toNat : Int)) (fun _ _ => 0)
  case atStart => exact ⟨rfl, rfl⟩
  case round =>
    obtain ⟨rfl, rfl⟩ := hrel
    go_wp2
    go_ret
    exact ⟨rfl, rfl⟩

set_option maxHeartbeats 1000000 in
set_option maxRecDepth 100000 in
theorem refnum_two (s : ByteArray) (w : World) (hz : s.size = 2) :
    Calls Tryd.prog 13 #[.string s] w fun e w' => e = .returned (.int .i64 (byt s 0 % 32 * 64 + byt s 1 % 64)) ∧ w' = w := by
  have i0 : 0 < s.size := by omega
  have i1 : 1 < s.size := by omega
  have r0 := byte_range s 0 i0
  have r1 := byte_range s 1 i1
  rw [byt_of s 0 i0, byt_of s 1 i1]
  have a0 := i64_and31 (s[0].toNat : Int) (by omega) (by omega)
  have a1 := i64_and63 (s[1].toNat : Int) (by omega) (by omega)
  have o1 := i64_or6 ((s[0].toNat : Int) % 32 * 64) ((s[1].toNat : Int) % 64) (by omega) (by omega) (by omega) (by omega) (by omega)
  go_enter Tryd.func13, Tryd.ntmps13
  go_wp2
  go_loop [5, 4] (fun j v => (j = .int .i64 1 ∧ v = .int .i64 ((s[0].toNat : Int) % 32)) ∨ (j = .int .i64 2 ∧ v = .int .i64 ((s[0].toNat : Int) % 32 * 64 + (s[1].toNat : Int) % 64))) (fun j _ => 4 - (intOf j).toNat)
  case atStart => exact Or.inl ⟨rfl, rfl⟩
  case round =>
    rcases hrel with ⟨rfl, rfl⟩ | ⟨rfl, rfl⟩
    · go_wp2
      go_round
      case rel => exact Or.inr ⟨rfl, rfl⟩
      case measure => simp [intOf]
    · go_wp2
      go_ret
      exact ⟨rfl, rfl⟩

set_option maxHeartbeats 1000000 in
set_option maxRecDepth 100000 in
theorem refnum_three (s : ByteArray) (w : World) (hz : s.size = 3) :
    Calls Tryd.prog 13 #[.string s] w fun e w' => e = .returned (.int .i64 ((byt s 0 % 16 * 64 + byt s 1 % 64) * 64 + byt s 2 % 64)) ∧ w' = w := by
  have i0 : 0 < s.size := by omega
  have i1 : 1 < s.size := by omega
  have i2 : 2 < s.size := by omega
  have r0 := byte_range s 0 i0
  have r1 := byte_range s 1 i1
  have r2 := byte_range s 2 i2
  rw [byt_of s 0 i0, byt_of s 1 i1, byt_of s 2 i2]
  have a0 := i64_and15 (s[0].toNat : Int) (by omega) (by omega)
  have a1 := i64_and63 (s[1].toNat : Int) (by omega) (by omega)
  have a2 := i64_and63 (s[2].toNat : Int) (by omega) (by omega)
  have o1 := i64_or6 ((s[0].toNat : Int) % 16 * 64) ((s[1].toNat : Int) % 64) (by omega) (by omega) (by omega) (by omega) (by omega)
  go_enter Tryd.func13, Tryd.ntmps13
  go_wp2
  go_loop [5, 4] (fun j v => (j = .int .i64 1 ∧ v = .int .i64 ((s[0].toNat : Int) % 16)) ∨ (j = .int .i64 2 ∧ ∃ V : Int, v = .int .i64 V ∧ 0 ≤ V ∧ V ≤ 1023 ∧ Hid (V = (s[0].toNat : Int) % 16 * 64 + (s[1].toNat : Int) % 64)) ∨
      (j = .int .i64 3 ∧ ∃ V : Int, v = .int .i64 V ∧ Hid (V = ((s[0].toNat : Int) % 16 * 64 + (s[1].toNat : Int) % 64) * 64 + (s[2].toNat : Int) % 64))) (fun j _ => 4 - (intOf j).toNat)
  case atStart => exact Or.inl ⟨rfl, rfl⟩
  case round =>
    rcases hrel with ⟨rfl, rfl⟩ | ⟨rfl, V, rfl, v0, v1, HV⟩ | ⟨rfl, V, rfl, HV⟩
    · go_wp2
      go_round
      case rel => exact Or.inr (Or.inl ⟨rfl, _, rfl, by omega, by omega, rfl⟩)
      case measure => simp [intOf]
    · have o2 := i64_or6 (V * 64) ((s[2].toNat : Int) % 64) (by omega) (by omega) (by omega) (by omega) (by omega)
      go_wp2
      go_round
      case rel =>
        have e := HV.out
        exact Or.inr (Or.inr ⟨rfl, _, rfl, by show _ = _; omega⟩)
      case measure => simp [intOf]
    · go_wp2
      go_ret
      exact ⟨ret_int HV.out, rfl⟩

set_option maxHeartbeats 1000000 in
set_option maxRecDepth 100000 in
theorem refnum_four (s : ByteArray) (w : World) (hz : s.size = 4) :
    Calls Tryd.prog 13 #[.string s] w fun e w' => e = .returned (.int .i64 (((byt s 0 % 8 * 64 + byt s 1 % 64) * 64 + byt s 2 % 64) * 64 + byt s 3 % 64)) ∧ w' = w := by
  have i0 : 0 < s.size := by omega
  have i1 : 1 < s.size := by omega
  have i2 : 2 < s.size := by omega
  have i3 : 3 < s.size := by omega
  have r0 := byte_range s 0 i0
  have r1 := byte_range s 1 i1
  have r2 := byte_range s 2 i2
  have r3 := byte_range s 3 i3
  rw [byt_of s 0 i0, byt_of s 1 i1, byt_of s 2 i2, byt_of s 3 i3]
  have a0 := i64_and7 (s[0].toNat : Int) (by omega) (by omega)
  have a1 := i64_and63 (s[1].toNat : Int) (by omega) (by omega)
  have a2 := i64_and63 (s[2].toNat : Int) (by omega) (by omega)
  have a3 := i64_and63 (s[3].toNat : Int) (by omega) (by omega)
  have o1 := i64_or6 ((s[0].toNat : Int) % 8 * 64) ((s[1].toNat : Int) % 64) (by omega) (by omega) (by omega) (by omega) (by omega)
  go_enter Tryd.func13, Tryd.ntmps13
  go_wp2
  go_loop [5, 4] (fun j v => (j = .int .i64 1 ∧ v = .int .i64 ((s[0].toNat : Int) % 8)) ∨ (j = .int .i64 2 ∧ ∃ V : Int, v = .int .i64 V ∧ 0 ≤ V ∧ V ≤ 511 ∧ Hid (V = (s[0].toNat : Int) % 8 * 64 + (s[1].toNat : Int) % 64)) ∨
      (j = .int .i64 3 ∧ ∃ V : Int, v = .int .i64 V ∧ 0 ≤ V ∧ V ≤ 32767 ∧ Hid (V = ((s[0].toNat : Int) % 8 * 64 + (s[1].toNat : Int) % 64) * 64 + (s[2].toNat : Int) % 64)) ∨
      (j = .int .i64 4 ∧ ∃ V : Int, v = .int .i64 V ∧ Hid (V = (((s[0].toNat : Int) % 8 * 64 + (s[1].toNat : Int) % 64) * 64 + (s[2].toNat : Int) % 64) * 64 + (s[3].toNat : Int) % 64))) (fun j _ => 4 - (intOf j).toNat)
  case atStart => exact Or.inl ⟨rfl, rfl⟩
  case round =>
    rcases hrel with ⟨rfl, rfl⟩ | ⟨rfl, V, rfl, v0, v1, HV⟩ | ⟨rfl, V, rfl, v0, v1, HV⟩ | ⟨rfl, V, rfl, HV⟩
    · go_wp2
      go_round
      case rel => exact Or.inr (Or.inl ⟨rfl, _, rfl, by omega, by omega, rfl⟩)
      case measure => simp [intOf]
    · have o2 := i64_or6 (V * 64) ((s[2].toNat : Int) % 64) (by omega) (by omega) (by omega) (by omega) (by omega)
      go_wp2
      go_round
      case rel =>
        have e := HV.out
        exact Or.inr (Or.inr (Or.inl ⟨rfl, _, rfl, by omega, by omega, by show _ = _; omega⟩))
      case measure => simp [intOf]
    · have o2 := i64_or6 (V * 64) ((s[3].toNat : Int) % 64) (by omega) (by omega) (by omega) (by omega) (by omega)
      go_wp2
      go_round
      case rel =>
        have e := HV.out
        exact Or.inr (Or.inr (Or.inr ⟨rfl, _, rfl, by show _ = _; omega⟩))
      case measure => simp [intOf]
    · go_wp2
      go_ret
      exact ⟨ret_int HV.out, rfl⟩

/-- The reference's Number of a code point. -/
theorem refnum_any (c : Int) (h : scalar c) (w : World) :
    Calls Tryd.prog 13 #[.string (cacc (enc c))] w fun e w' => e = .returned (.int .i64 c) ∧ w' = w := by
  have e := sz1_enc c h []
  rw [List.append_nil] at e
  have hl := enc_length c
  have hb : ∀ j, byt (cacc (enc c)) j = bl (enc c) j := fun j => by
    have := byt_bl (cacc (enc c)) 0 j
    rw [Nat.zero_add] at this
    exact this
  have hd := e.2
  unfold dec1 at hd
  have hs : (cacc (enc c)).size = (enc c).length := rfl
  have hk : (enc c).length = 1 ∨ (enc c).length = 2 ∨ (enc c).length = 3 ∨ (enc c).length = 4 := by omega
  rcases hk with hk | hk | hk | hk
  · have := refnum_one (cacc (enc c)) w (by omega)
    rw [e.1, hk, if_pos (by decide)] at hd
    rw [hb, hd] at this
    exact this
  · have := refnum_two (cacc (enc c)) w (by omega)
    rw [e.1, hk, if_neg (by decide), if_pos (by decide)] at hd
    rw [hb, hb, hd] at this
    exact this
  · have := refnum_three (cacc (enc c)) w (by omega)
    rw [e.1, hk, if_neg (by decide), if_neg (by decide), if_pos (by decide)] at hd
    rw [hb, hb, hb] at this
    have q : (bl (enc c) 0 % 16 * 64 + bl (enc c) 1 % 64) * 64 + bl (enc c) 2 % 64 = c := by omega
    rw [q] at this
    exact this
  · have := refnum_four (cacc (enc c)) w (by omega)
    rw [e.1, hk, if_neg (by decide), if_neg (by decide), if_neg (by decide), if_pos (by decide)] at hd
    rw [hb, hb, hb, hb] at this
    have q : ((bl (enc c) 0 % 8 * 64 + bl (enc c) 1 % 64) * 64 + bl (enc c) 2 % 64) * 64 + bl (enc c) 3 % 64 = c := by omega
    rw [q] at this
    exact this

theorem Tryd.info_str : (Tryd.prog.info? 9).map (fun i => (i.zero, i.size, i.bytes)) = some (some (.string ⟨#[]⟩), 1, 16) := by kernel_rfl

/-- The code points' texts, as cells. -/
def strRow (cs : List Int) : List Value := cs.map fun c => Value.string (cacc (enc c))
theorem strRow_append (a b : List Int) : strRow (a ++ b) = strRow a ++ strRow b := by simp [strRow]

set_option maxHeartbeats 2000000 in
set_option maxRecDepth 100000 in
theorem refpoints_own (s : ByteArray) (w : World) (hs : s.size ≤ 100000) :
    Calls Tryd.prog 12 #[.string s] w fun e w' => ∃ v, e = .returned v ∧ w'.ownsRow w.heap.size 9 1 v (pts s.data.toList).length (strRow (pts s.data.toList)) ∧ Below w.heap.size w w' := by
  obtain ⟨i0, hi, hz0, hz1, hz2⟩ := info_parts Tryd.info_str
  obtain ⟨ns, hns⟩ : ∃ ns, ns = pts s.data.toList := ⟨_, rfl⟩
  have hg : Good ns := by rw [hns]; exact good_pts' _
  have hnl : ns.length ≤ 100000 := by have := pts_length s.data.toList; rw [bytes_length] at this; rw [hns]; omega
  obtain ⟨T, hT⟩ : ∃ T : ByteArray, T = ⟨(cln s.data.toList).toArray⟩ := ⟨_, rfl⟩
  have hTd : T.data.toList = flat ns := by rw [hT, hns]; rfl
  have hTl : T.size ≤ 400000 := by
    have := (flat_length_ge ns).2
    have e : T.size = (flat ns).length := by rw [← hTd]; rfl
    omega
  have HG : Hid (Good ns) := hg
  have HTd : Hid (T.data.toList = flat ns) := hTd
  have HC : Hid (∀ W, Calls Tryd.prog 19 #[.string s] W fun e w' => e = .returned (.string T) ∧ w' = W) := by
    intro W
    rw [hT]
    exact refclean_any s W (by omega)
  rw [← hns]
  clear hns hg hT hTd
  go_enter Tryd.func12, Tryd.ntmps12
  go_wp2_with fail
  refine (HC.out _).mono ?_
  rintro e w1 ⟨rfl, rfl⟩
  go_wp2
  go_loopw [4, 5] (fun v a wr => ∃ (cs1 cs2 : List Int), Hid (ns = cs1 ++ cs2) ∧ a = .int .i64 ((flat cs1).length : Nat) ∧ wr.ownsRow w1.heap.size 9 1 v cs1.length (strRow cs1) ∧ Below w1.heap.size w1 wr) (fun _ a _ => T.size - (intOf a).toNat)
  case atStart => exact ⟨[], ns, rfl, rfl, World.ownsRow_nil _ _ _ _, Below.refl _ _⟩
  case round =>
    obtain ⟨cs1, cs2, HN, rfl, hown, hb⟩ := hrel
    have hsplit : Hid (T.data.toList = flat cs1 ++ flat cs2) := by
      show T.data.toList = _
      rw [← flat_append, ← HN.out]; exact HTd.out
    have hsz := split_size hsplit.out
    cases cs2 with
    | nil =>
      have hend : (flat cs1).length = T.size := by simp [flat_nil] at hsz; omega
      have HNN : Hid (ns = cs1) := by have := HN.out; rw [List.append_nil] at this; exact this
      rw [hend]
      clear hsplit hsz hend HN
      go_wp2
      go_ret
      rw [HNN.out]
      exact ⟨_, rfl, hown, hb⟩
    | cons c cs3 =>
      have hsc : scalar c := HG.out c (by rw [HN.out]; simp)
      have hel := enc_length c
      have hfl : (flat (c :: cs3)).length = (enc c).length + (flat cs3).length := by rw [flat_cons, List.length_append]
      have hc1 := fun W => refsize_in T (flat cs1).length W (by unfold maxLen; omega) (by omega)
      rw [sz_start hsplit.out hsc] at hc1
      have HSz : Hid (∀ W, Calls Tryd.prog 15 #[.string T, .int .i64 ((flat cs1).length : Nat)] W fun e w' => e = .returned (.int .i64 ((enc c).length : Nat)) ∧ w' = W) := hc1
      have HX : Hid (T.extract (flat cs1).length ((flat cs1).length + (enc c).length) = cacc (enc c)) := by
        show _ = _
        rw [← cacc_bytes (T.extract _ _), extract_bytes, flat_drop hsplit.out, flat_cons, Nat.add_sub_cancel_left, List.take_left' rfl]
      have HN2 : Hid (ns = (cs1 ++ [c]) ++ cs3) := by show ns = _; rw [HN.out]; simp
      have HL2 : Hid ((flat (cs1 ++ [c])).length = (flat cs1).length + (enc c).length) := by show _ = _; rw [flat_append, List.length_append]; simp [flat]
      have HL3 : Hid ((cs1 ++ [c]).length = cs1.length + 1) := by show _ = _; simp
      have HR : Hid (strRow (cs1 ++ [c]) = strRow cs1 ++ [.string (cacc (enc c))]) := by show _ = _; rw [strRow_append]; rfl
      have hle : (flat cs1).length + (enc c).length ≤ T.size := by omega
      have hcl : cs1.length + 1 ≤ 100000 := by
        have := congrArg List.length HN.out
        rw [List.length_append, List.length_cons] at this
        omega
      clear hc1 hsplit hsz hfl HN
      generalize hF1 : (flat cs1).length = at0 at *
      generalize hE : (enc c).length = k at *
      generalize hN1 : cs1.length = m at *
      generalize hX1 : cacc (enc c) = X at *
      generalize hR1 : strRow cs1 = xs at *
      clear hF1 hE hN1 hX1 hR1
      go_wp2_with (first | (go_at_call 15; refine (HSz.out _).mono ?_; rintro e w2 ⟨rfl, rfl⟩) | (at_builtin; refine wpList_append_own _ rfl _ _ 26 rfl w1.heap.size 9 i0 (.string ⟨#[]⟩) 1 16 Tryd.underlying26 hi hz0 hz1 hz2 rfl (by decide) _ _ _ rfl (hown.alloc _) ⟨_, 0, none⟩ 1 1 [.string _] rfl rfl (cell_one_new _ _ _) (fun u hu => by simp at hu; subst hu; rfl) (by unfold maxLen; omega) (by omega) (by have := hb.size; simp; omega) ?_))
      intro v' w3 hown' hgrow _
      have hb2 : Below w1.heap.size w1 w3 := (hb.alloc hb.size _).grown hgrow (by have := hb.size; simp; omega) (fun j hj => (hown.lt _ hj).1)
      have HO : Hid (w3.ownsRow w1.heap.size 9 1 v' (m + 1) (strRow (cs1 ++ [c]))) := by
        show World.ownsRow _ _ _ _ _ _ _
        rw [HR.out, ← HX.out]; exact hown'
      clear hown' hgrow hown
      go_wp2
      go_roundw
      case rel =>
        refine ⟨cs1 ++ [c], cs3, HN2, ?_, ?_, hb2⟩
        · rw [HL2.out]; go_num
        · rw [HL3.out]; exact HO.out
      case measure => simp [intOf]; omega

/-- A row of code points' texts. -/
theorem strs_cells {w : World} {B : Nat} {v : Value} {cs : List Int} (h : w.ownsRow B 9 1 v cs.length (strRow cs)) (hne : cs ≠ []) : ∃ g cap, v = .slice (some ⟨g, 0, none⟩) cs.length cap ∧ ∀ i, i < cs.length → w.cell? ⟨g, 0 + i, none⟩ = some (.string (cacc (enc (cs.getD i 0)))) := by
  rcases h.2 with ⟨_, h2⟩ | ⟨g, cap, cur, h1, _, h3, h4, _, h6, h7⟩
  · exact absurd (List.eq_nil_of_length_eq_zero h2) hne
  · refine ⟨g, cap, h1, fun i hi => ?_⟩
    rw [Lib.cell_of_heap h3]
    have : (cur.toList.take (cs.length * 1))[0 + i]? = (strRow cs)[0 + i]? := by rw [h7]
    rw [List.getElem?_take, if_pos (by omega)] at this
    simp [strRow, List.getD_eq_getElem?_getD, hi] at this ⊢
    exact this
theorem strs_shape {w : World} {B : Nat} {v : Value} {cs : List Int} (h : w.ownsRow B 9 1 v cs.length (strRow cs)) : ∃ ad cap, v = .slice ad cs.length cap := by
  rcases h.2 with ⟨h1, h2⟩ | ⟨g, cap, cur, h1, _⟩
  · exact ⟨none, 0, by rw [h1, h2]⟩
  · exact ⟨_, _, h1⟩
end Go.Proofs.YtncabdbacncaaaaDoor
