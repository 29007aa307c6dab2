/- The reference's Points, walked. -/
import Derived.Test.YtafhogfbjklboaaDoorRefEdge
import Derived.Lib.OthersKept
import Derived.WalkSmall
namespace Go.Proofs.YtafhogfbjklboaaDoor
open Go.RowKit Go.Sort

theorem Tryd.info_str : (Tryd.prog.info? 9).map (fun i => (i.zero, i.size, i.bytes)) = some (some (.string ⟨#[]⟩), 1, 16) := by kernel_rfl

/-- The code points' texts, as cells. -/
def strRow (cs : List Int) : List Value := cs.map fun c => Value.string (cacc (enc c))
theorem strRow_append (a b : List Int) : strRow (a ++ b) = strRow a ++ strRow b := by simp [strRow]

set_option maxHeartbeats 2000000 in
set_option maxRecDepth 100000 in
theorem refpoints_own (s : ByteArray) (w : World) (hs : s.size ≤ 100000) :
    Calls Tryd.prog 40 #[.string s] w fun e w' => ∃ v, e = .returned v ∧ w'.ownsRow w.heap.size 9 1 v (pts s.data.toList).length (strRow (pts s.data.toList)) ∧ Below w.heap.size w w' := by
  obtain ⟨i0, hi, hz0, hz1, hz2⟩ := info_parts Tryd.info_str
  obtain ⟨ns, hns⟩ : ∃ ns, ns = pts s.data.toList := ⟨_, rfl⟩
  have hg : Good ns := by rw [hns]; exact good_pts' _
  have hnl : ns.length ≤ 100000 := by have := pts_length s.data.toList; rw [bytes_length] at this; rw [hns]; omega
  obtain ⟨T, hT⟩ : ∃ T : ByteArray, T = ⟨(cln s.data.toList).toArray⟩ := ⟨_, rfl⟩
  have hTd : T.data.toList = flat ns := by rw [hT, hns]; rfl
  have hTl : T.size ≤ 400000 := by
    have := (flat_length_ge ns).2
    have e : T.size = (flat ns).length := by rw [← hTd]; rfl
    omega
  have HG : Hid (Good ns) := hg
  have HTd : Hid (T.data.toList = flat ns) := hTd
  have HC : Hid (∀ W, Calls Tryd.prog 55 #[.string s] W fun e w' => e = .returned (.string T) ∧ w' = W) := by
    intro W
    rw [hT]
    exact refclean_any s W (by omega)
  rw [← hns]
  clear hns hg hT hTd
  go_enter Tryd.func40, Tryd.ntmps40
  go_wp2_with fail
  refine (HC.out _).mono ?_
  rintro e w1 ⟨rfl, rfl⟩
  go_wp2
  go_loopw [4, 5] (fun v a wr => ∃ (cs1 cs2 : List Int), Hid (ns = cs1 ++ cs2) ∧ a = .int .i64 ((flat cs1).length : Nat) ∧ wr.ownsRow w1.heap.size 9 1 v cs1.length (strRow cs1) ∧ Below w1.heap.size w1 wr) (fun _ a _ => T.size - (intOf a).toNat)
  case atStart => exact ⟨[], ns, rfl, rfl, World.ownsRow_nil _ _ _ _, Below.refl _ _⟩
  case round =>
    obtain ⟨cs1, cs2, HN, rfl, hown, hb⟩ := hrel
    have hsplit : Hid (T.data.toList = flat cs1 ++ flat cs2) := by
      show T.data.toList = _
      rw [← flat_append, ← HN.out]; exact HTd.out
    have hsz := split_size hsplit.out
    cases cs2 with
    | nil =>
      have hend : (flat cs1).length = T.size := by simp [flat_nil] at hsz; omega
      have HNN : Hid (ns = cs1) := by have := HN.out; rw [List.append_nil] at this; exact this
      rw [hend]
      clear hsplit hsz hend HN
      go_wp2
      go_ret
      rw [HNN.out]
      exact ⟨_, rfl, hown, hb⟩
    | cons c cs3 =>
      have hsc : scalar c := HG.out c (by rw [HN.out]; simp)
      have hel := enc_length c
      have hfl : (flat (c :: cs3)).length = (enc c).length + (flat cs3).length := by rw [flat_cons, List.length_append]
      have hc1 := fun W => refsize_in T (flat cs1).length W (by unfold maxLen; omega) (by omega)
      rw [sz_start hsplit.out hsc] at hc1
      have HSz : Hid (∀ W, Calls Tryd.prog 25 #[.string T, .int .i64 ((flat cs1).length : Nat)] W fun e w' => e = .returned (.int .i64 ((enc c).length : Nat)) ∧ w' = W) := hc1
      have HX : Hid (T.extract (flat cs1).length ((flat cs1).length + (enc c).length) = cacc (enc c)) := by
        show _ = _
        rw [← cacc_bytes (T.extract _ _), extract_bytes, flat_drop hsplit.out, flat_cons, Nat.add_sub_cancel_left, List.take_left' rfl]
      have HN2 : Hid (ns = (cs1 ++ [c]) ++ cs3) := by show ns = _; rw [HN.out]; simp
      have HL2 : Hid ((flat (cs1 ++ [c])).length = (flat cs1).length + (enc c).length) := by show _ = _; rw [flat_append, List.length_append]; simp [flat]
      have HL3 : Hid ((cs1 ++ [c]).length = cs1.length + 1) := by show _ = _; simp
      have HR : Hid (strRow (cs1 ++ [c]) = strRow cs1 ++ [.string (cacc (enc c))]) := by show _ = _; rw [strRow_append]; rfl
      have hle : (flat cs1).length + (enc c).length ≤ T.size := by omega
      have hcl : cs1.length + 1 ≤ 100000 := by
        have := congrArg List.length HN.out
        rw [List.length_append, List.length_cons] at this
        omega
      clear hc1 hsplit hsz hfl HN
      generalize hF1 : (flat cs1).length = at0 at *
      generalize hE : (enc c).length = k at *
      generalize hN1 : cs1.length = m at *
      generalize hX1 : cacc (enc c) = X at *
      generalize hR1 : strRow cs1 = xs at *
      clear hF1 hE hN1 hX1 hR1
      go_wp2_with (first | (go_at_call 25; refine (HSz.out _).mono ?_; rintro e w2 ⟨rfl, rfl⟩) | (at_builtin; refine wpList_append_own _ rfl _ _ 66 rfl w1.heap.size 9 i0 (.string ⟨#[]⟩) 1 16 Tryd.underlying66 hi hz0 hz1 hz2 rfl (by decide) _ _ _ rfl (hown.alloc _) ⟨_, 0, none⟩ 1 1 [.string _] rfl rfl (cell_one_new _ _ _) (fun u hu => by simp at hu; subst hu; rfl) (by unfold maxLen; omega) (by omega) (by have := hb.size; simp; omega) ?_))
      intro v' w3 hown' hgrow _
      have hb2 : Below w1.heap.size w1 w3 := (hb.alloc hb.size _).grown hgrow (by have := hb.size; simp; omega) (fun j hj => (hown.lt _ hj).1)
      have HO : Hid (w3.ownsRow w1.heap.size 9 1 v' (m + 1) (strRow (cs1 ++ [c]))) := by
        show World.ownsRow _ _ _ _ _ _ _
        rw [HR.out, ← HX.out]; exact hown'
      clear hown' hgrow hown
      go_wp2
      go_roundw
      case rel =>
        refine ⟨cs1 ++ [c], cs3, HN2, ?_, ?_, hb2⟩
        · rw [HL2.out]; go_num
        · rw [HL3.out]; exact HO.out
      case measure => simp [intOf]; omega

/-- A row of code points' texts. -/
theorem strs_cells {w : World} {B : Nat} {v : Value} {cs : List Int} (h : w.ownsRow B 9 1 v cs.length (strRow cs)) (hne : cs ≠ []) : ∃ g cap, v = .slice (some ⟨g, 0, none⟩) cs.length cap ∧ ∀ i, i < cs.length → w.cell? ⟨g, 0 + i, none⟩ = some (.string (cacc (enc (cs.getD i 0)))) := by
  rcases h.2 with ⟨_, h2⟩ | ⟨g, cap, cur, h1, _, h3, h4, _, h6, h7⟩
  · exact absurd (List.eq_nil_of_length_eq_zero h2) hne
  · refine ⟨g, cap, h1, fun i hi => ?_⟩
    rw [Lib.cell_of_heap h3]
    have : (cur.toList.take (cs.length * 1))[0 + i]? = (strRow cs)[0 + i]? := by rw [h7]
    rw [List.getElem?_take, if_pos (by omega)] at this
    simp [strRow, List.getD_eq_getElem?_getD, hi] at this ⊢
    exact this
theorem strs_shape {w : World} {B : Nat} {v : Value} {cs : List Int} (h : w.ownsRow B 9 1 v cs.length (strRow cs)) : ∃ ad cap, v = .slice ad cs.length cap := by
  rcases h.2 with ⟨h1, h2⟩ | ⟨g, cap, cur, h1, _⟩
  · exact ⟨none, 0, by rw [h1, h2]⟩
  · exact ⟨_, _, h1⟩
end Go.Proofs.YtafhogfbjklboaaDoor
