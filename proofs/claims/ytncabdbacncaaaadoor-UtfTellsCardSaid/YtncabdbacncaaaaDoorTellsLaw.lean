/- UtfTells, walked: it answers true at every text and place. -/
import Derived.Test.YtncabdbacncaaaaDoorRefPoints
import Derived.Lib.QuietBelow
namespace Go.Proofs.YtncabdbacncaaaaDoor
open Go.RowKit Go.Sort

set_option maxHeartbeats 1000000 in
set_option maxRecDepth 100000 in
theorem tells_long (s : ByteArray) (a : Int) (hs : s.size ≤ maxLen) (hlong : 300 < s.size) (w : World) (tb : Nat × Nat) (hT : Tab w tb) :
    Calls Tryd.prog 3 #[.string s, .int .i64 a] w fun e w' => e = .returned (.bool true) ∧ Below w.heap.size w w' := by
  unfold maxLen at hs
  have hl : (300 : Int) < s.size := by omega
  go_enter Tryd.func3, Tryd.ntmps3
  go_wp2_with fail
  refine (known_any _ tb hT).mono ?_
  rintro e w1 ⟨rfl, b1⟩
  go_wp2
  go_ret
  exact ⟨rfl, b1⟩

set_option maxHeartbeats 2000000 in
set_option maxRecDepth 100000 in
theorem tells_short (s : ByteArray) (a : Int) (hs : s.size ≤ 300) (w : World) (tb : Nat × Nat) (hT : Tab w tb) :
    Calls Tryd.prog 3 #[.string s, .int .i64 a] w fun e w' => e = .returned (.bool true) ∧ Below w.heap.size w w' := by
  have hmax : s.size ≤ maxLen := by unfold maxLen; omega
  have hd : decide ((300 : Int) < s.size) = false := by simp; omega
  obtain ⟨ns, hns⟩ : ∃ ns, ns = pts s.data.toList := ⟨_, rfl⟩
  have HG : Hid (Good ns) := by show Good ns; rw [hns]; exact good_pts' _
  have hnl : ns.length ≤ 300 := by have := pts_length s.data.toList; rw [bytes_length] at this; rw [hns]; omega
  obtain ⟨S, hS⟩ : ∃ S : ByteArray, S = ⟨(cln s.data.toList).toArray⟩ := ⟨_, rfl⟩
  obtain ⟨z, hz⟩ : ∃ z, z = szAt s a := ⟨_, rfl⟩
  obtain ⟨v, hv⟩ : ∃ v, v = vld s.data.toList := ⟨_, rfl⟩
  obtain ⟨ed, hed⟩ : ∃ v, v = edg s a := ⟨_, rfl⟩
  obtain ⟨bb, hbb⟩ : ∃ v, v = bk s a := ⟨_, rfl⟩
  have CB : Hid (∀ W, Tab W tb → Calls Tryd.prog 10 #[.string s, .int .i64 a] W fun e w' => e = .returned (.int .i64 bb) ∧ Below W.heap.size W w') := fun W h => by rw [hbb]; exact back_any s a W tb hmax h
  have RB : Hid (∀ W, Calls Tryd.prog 22 #[.string s, .int .i64 a] W fun e w' => e = .returned (.int .i64 bb) ∧ w' = W) := fun W => by rw [hbb]; exact refback_any s a W hmax
  have CP : Hid (∀ W, Tab W tb → Calls Tryd.prog 11 #[.string s] W fun e w' => ∃ v, e = .returned v ∧ IntsAt w' v ns ∧ Below W.heap.size W w') := fun W h => by rw [hns]; exact points_any s W tb (by omega) h
  have RP : Hid (∀ W, Calls Tryd.prog 12 #[.string s] W fun e w' => ∃ v, e = .returned v ∧ w'.ownsRow W.heap.size 9 1 v ns.length (strRow ns) ∧ Below W.heap.size W w') := fun W => by rw [hns]; exact refpoints_own s W (by omega)
  have CS : Hid (∀ W, Tab W tb → Calls Tryd.prog 14 #[.string s, .int .i64 a] W fun e w' => e = .returned (.int .i64 z) ∧ Below W.heap.size W w') := fun W h => by rw [hz]; exact size_any s a W tb hmax h
  have RS : Hid (∀ W, Calls Tryd.prog 15 #[.string s, .int .i64 a] W fun e w' => e = .returned (.int .i64 z) ∧ w' = W) := fun W => by rw [hz]; exact refsize_any s a W hmax
  have CV : Hid (∀ W, Tab W tb → Calls Tryd.prog 16 #[.string s] W fun e w' => e = .returned (.bool v) ∧ Below W.heap.size W w') := fun W h => by rw [hv]; exact valid_any s W tb hmax h
  have RV : Hid (∀ W, Calls Tryd.prog 17 #[.string s] W fun e w' => e = .returned (.bool v) ∧ w' = W) := fun W => by rw [hv]; exact refvalid_any s W hmax
  have CC : Hid (∀ W, Tab W tb → Calls Tryd.prog 18 #[.string s] W fun e w' => e = .returned (.string S) ∧ Below W.heap.size W w') := fun W h => by rw [hS]; exact clean_any s W tb (by omega) h
  have RC : Hid (∀ W, Calls Tryd.prog 19 #[.string s] W fun e w' => e = .returned (.string S) ∧ w' = W) := fun W => by rw [hS]; exact refclean_any s W (by omega)
  have CE : Hid (∀ W, Tab W tb → Calls Tryd.prog 20 #[.string s, .int .i64 a] W fun e w' => e = .returned (.bool ed) ∧ Below W.heap.size W w') := fun W h => by rw [hed]; exact edge_any s a W tb hmax h
  have RE : Hid (∀ W, Calls Tryd.prog 21 #[.string s, .int .i64 a] W fun e w' => e = .returned (.bool ed) ∧ w' = W) := fun W => by rw [hed]; exact refedge_any s a W hmax
  clear hns hS hz hv hed hbb
  go_enter Tryd.func3, Tryd.ntmps3
  go_wp2_with fail
  refine (known_any _ tb hT).mono ?_
  rintro e w1 ⟨rfl, b1⟩
  have t1 := hT.later b1
  go_wp2_with fail
  refine (CB.out _ t1).mono ?_
  rintro e w2 ⟨rfl, b2⟩
  have t2 := t1.later b2
  go_wp2_with fail
  refine (CP.out _ t2).mono ?_
  rintro e w3 ⟨vp, rfl, hip, b3⟩
  have t3 := t2.later b3
  have HIP : Hid (IntsAt w3 vp ns) := hip
  obtain ⟨adp, capp, rfl⟩ := ints_shape hip
  clear hip
  go_wp2_with fail
  refine (RP.out _).mono ?_
  rintro e w4 ⟨vq, rfl, hoq, b4⟩
  have t4 := t3.later b4
  have HOQ : Hid (w4.ownsRow w3.heap.size 9 1 vq ns.length (strRow ns)) := hoq
  obtain ⟨adq, capq, rfl⟩ := strs_shape hoq
  have HIP4 : Hid (IntsAt w4 (.slice adp ns.length capp) ns) := ints_later HIP.out b4
  clear hoq HIP CP RP CB
  have g1 := b1.trans (b2.mono b1.size)
  have g2 := g1.trans (b3.mono g1.size)
  have g3 := g2.trans (b4.mono g2.size)
  clear g1 g2 b1 b2 b3 b4
  go_wp2
  go_loopw [8] (fun i wr => ∃ k : Nat, k ≤ ns.length ∧ i = .int .i64 k ∧ Below w4.heap.size w4 wr) (fun i _ => ns.length - (intOf i).toNat)
  case atStart => exact ⟨0, by omega, rfl, Below.refl _ _⟩
  case round =>
    obtain ⟨k, hk, rfl, hb⟩ := hrel
    have tr := t4.later hb
    have gb := g3.trans (hb.mono g3.size)
    by_cases hlt : k < ns.length
    · have hne : ns ≠ [] := by intro e; rw [e] at hlt; simp at hlt
      obtain ⟨blkp, offp, rfl, hclp⟩ := ints_cells HIP4.out hne
      obtain ⟨gq, capq', hvq, hclq⟩ := strs_cells HOQ.out hne
      injection hvq with hv1 hv2 hv3
      subst hv1
      have zp := cell_regrown (cell_later hb (hclp k hlt))
      have zq := cell_regrown (cell_later hb (hclq k hlt))
      rw [Nat.zero_add] at zq
      have hsc : scalar (ns.getD k 0) := HG.out _ (by rw [List.getD_eq_getElem?_getD, List.getElem?_eq_getElem hlt]; exact List.getElem_mem hlt)
      have CN : Hid (∀ d os, Calls Tryd.prog 13 #[.string (cacc (enc (ns.getD k 0)))] (grow (redrawn wr d) os) fun e w'' => e = .returned (.int .i64 (ns.getD k 0)) ∧ ∃ p : Regrown, w'' = grow (redrawn wr p.d) p.os) := fun d os => (refnum_any _ hsc _).mono fun _ _ ⟨he, hw⟩ => ⟨he, ⟨d, os⟩, hw⟩
      clear hclp hclq hne hv2 hv3 hsc
      generalize cacc (enc (ns.getD k 0)) = X at *
      generalize ns.getD k 0 = c at *
      go_wp2
      refine wp_region_quiet_below (by kernel_rfl) (by kernel_rfl) ?_
      repeat (go_big_quiet_step (exact CN.out _ _))
      refine wpQuiet_nil ?_
      intro _ hw'
      obtain ⟨⟨dq, osq⟩, hw''⟩ := hw'
      subst hw''
      have bq := below_regrown wr dq osq
      clear zp zq CN
      generalize grow (redrawn wr dq) osq = w6 at *
      go_wp2
      go_roundw
      case rel => exact ⟨k + 1, by omega, by go_num, hb.trans (bq.mono hb.size)⟩
      case measure => simp [intOf]; omega
    · obtain rfl : k = ns.length := by omega
      clear HIP4 HOQ
      go_wp2_with fail
      refine (CS.out _ tr).mono ?_
      rintro e x1 ⟨rfl, c1⟩
      have y1 := tr.later c1
      go_wp2_with fail
      refine (RS.out _).mono ?_
      rintro e x ⟨rfl, rfl⟩
      go_wp2_with fail
      refine (CV.out _ y1).mono ?_
      rintro e x2 ⟨rfl, c2⟩
      have y2 := y1.later c2
      go_wp2_with fail
      refine (RV.out _).mono ?_
      rintro e x ⟨rfl, rfl⟩
      go_wp2_with fail
      refine (CC.out _ y2).mono ?_
      rintro e x3 ⟨rfl, c3⟩
      have y3 := y2.later c3
      go_wp2_with fail
      refine (RC.out _).mono ?_
      rintro e x ⟨rfl, rfl⟩
      go_wp2_with fail
      refine (CE.out _ y3).mono ?_
      rintro e x4 ⟨rfl, c4⟩
      have y4 := y3.later c4
      go_wp2_with fail
      refine (RE.out _).mono ?_
      rintro e x ⟨rfl, rfl⟩
      go_wp2_with fail
      refine (RB.out _).mono ?_
      rintro e x ⟨rfl, rfl⟩
      go_wp2
      go_ret
      have h1 := gb.trans (c1.mono gb.size)
      have h2 := h1.trans (c2.mono h1.size)
      have h3 := h2.trans (c3.mono h2.size)
      exact ⟨rfl, h3.trans (c4.mono h3.size)⟩

theorem tells_any (s : ByteArray) (a : Int) (hs : s.size ≤ maxLen) (w : World) (tb : Nat × Nat) (hT : Tab w tb) :
    Calls Tryd.prog 3 #[.string s, .int .i64 a] w fun e w' => e = .returned (.bool true) ∧ Below w.heap.size w w' := by
  by_cases hl : s.size ≤ 300
  · exact tells_short s a hl w tb hT
  · exact tells_long s a hs (by omega) w tb hT
end Go.Proofs.YtncabdbacncaaaaDoor
