/- CountOrder, walked: it answers true at every text and two bytes. -/
import Derived.Test.YthlmfmaiecmebaaDoorKnownC
import Derived.Test.YthlmfmaiecmebaaDoorCntPlace
import Derived.Test.YthlmfmaiecmebaaDoorRefEdge
namespace Go.Proofs.YthlmfmaiecmebaaDoor
open Go.RowKit Go.Sort

set_option maxHeartbeats 1000000 in
set_option maxRecDepth 100000 in
theorem order_long (s : ByteArray) (a b : Int) (hs : s.size ≤ maxLen) (hlong : 150 < s.size) (w : World) (tb : Nat × Nat) (hT : Tabs w tb) :
    Calls Tryd.prog 8 #[.string s, .int .u8 a, .int .u8 b] w fun e w' => e = .returned (.bool true) ∧ Below w.heap.size w w' := by
  unfold maxLen at hs
  have h1 : (150 : Int) < s.size := by omega
  go_enter Tryd.func8, Tryd.ntmps8
  go_wp2_with fail
  refine (known2_any _ tb hT).mono ?_
  rintro e w1 ⟨rfl, b1⟩
  go_wp2
  go_ret
  exact ⟨rfl, b1⟩

set_option maxHeartbeats 1000000 in
set_option maxRecDepth 100000 in
theorem order_bad (s : ByteArray) (a b : Int) (hs : s.size ≤ 150) (hv : vld s.data.toList = false) (w : World) (tb : Nat × Nat) (hT : Tabs w tb) :
    Calls Tryd.prog 8 #[.string s, .int .u8 a, .int .u8 b] w fun e w' => e = .returned (.bool true) ∧ Below w.heap.size w w' := by
  have h1 : decide ((150 : Int) < s.size) = false := by simp; omega
  have HV : Hid (∀ W, Calls Tryd.prog 20 #[.string s] W fun e w' => e = .returned (.bool false) ∧ w' = W) := fun W => by have := refvalid_any s W (by unfold maxLen; omega); rwa [hv] at this
  clear hv
  go_enter Tryd.func8, Tryd.ntmps8
  go_wp2_with fail
  refine (known2_any _ tb hT).mono ?_
  rintro e w1 ⟨rfl, b1⟩
  go_wp2_with fail
  refine (HV.out _).mono ?_
  rintro e w2 ⟨rfl, rfl⟩
  go_wp2
  go_ret
  exact ⟨rfl, b1⟩

set_option maxHeartbeats 2000000 in
set_option maxRecDepth 100000 in
theorem order_good (s : ByteArray) (a b : Int) (ha : 0 ≤ a ∧ a ≤ 255) (hb : 0 ≤ b ∧ b ≤ 255) (hs : s.size ≤ 150) (hv : vld s.data.toList = true) (w : World) (tb : Nat × Nat) (hT : Tabs w tb) :
    Calls Tryd.prog 8 #[.string s, .int .u8 a, .int .u8 b] w fun e w' => e = .returned (.bool true) ∧ Below w.heap.size w w' := by
  have h1 : decide ((150 : Int) < s.size) = false := by simp; omega
  have HV : Hid (∀ W, Calls Tryd.prog 20 #[.string s] W fun e w' => e = .returned (.bool true) ∧ w' = W) := fun W => by have := refvalid_any s W (by unfold maxLen; omega); rwa [hv] at this
  have HVD : Hid (vld s.data.toList = true) := hv
  clear hv
  have r0 : 0 ≤ a % ((s.size : Int) + 1) := Int.emod_nonneg _ (by omega)
  have r1 : a % ((s.size : Int) + 1) ≤ s.size := by have := Int.emod_lt_of_pos a (show (0 : Int) < (s.size : Int) + 1 by omega); omega
  have r2 : 0 ≤ b % ((s.size : Int) + 1) := Int.emod_nonneg _ (by omega)
  have r3 : b % ((s.size : Int) + 1) ≤ s.size := by have := Int.emod_lt_of_pos b (show (0 : Int) < (s.size : Int) + 1 by omega); omega
  go_enter Tryd.func8, Tryd.ntmps8
  go_wp2_with fail
  refine (known2_any _ tb hT).mono ?_
  rintro e w1 ⟨rfl, g1⟩
  have t1 := hT.later g1
  go_wp2_with fail
  refine (HV.out _).mono ?_
  rintro e w2 ⟨rfl, rfl⟩
  go_wp2
  go_quiet (fail)
  have g2 : Below w.heap.size w (w2.drewN nq) := g1.trans ⟨rfl, rfl, rfl, Nat.le_refl _, fun _ _ => rfl⟩
  have t2 := hT.later g2
  clear g1 t1 HV
  generalize w2.drewN nq = w3 at *
  generalize a % ((s.size : Int) + 1) = xi at *
  generalize b % ((s.size : Int) + 1) = yi at *
  obtain ⟨x, rfl⟩ : ∃ k : Nat, xi = k := ⟨xi.toNat, by omega⟩
  obtain ⟨y, rfl⟩ : ∃ k : Nat, yi = k := ⟨yi.toNat, by omega⟩
  clear ha hb r0 r2
  have HEx : Hid (∀ W, Calls Tryd.prog 21 #[.string s, .int .i64 (x : Nat)] W fun e w' => e = .returned (.bool (edg s x)) ∧ w' = W) := fun W => refedge_any s x W (by unfold maxLen; omega)
  have HEy : Hid (∀ W, Calls Tryd.prog 21 #[.string s, .int .i64 (y : Nat)] W fun e w' => e = .returned (.bool (edg s y)) ∧ w' = W) := fun W => refedge_any s y W (by unfold maxLen; omega)
  by_cases hxy : (y : Int) < (x : Int)
  · go_wp2
    go_ret
    exact ⟨rfl, g2⟩
  · have hxy' : decide ((y : Int) < (x : Int)) = false := by simpa using hxy
    have hxyd : decide (y < x) = false := by simp; omega
    have hxyN : x ≤ y := by omega
    cases hx : edg s x with
    | false =>
      rw [hx] at HEx
      clear hx hxy
      go_wp2_with fail
      refine (HEx.out _).mono ?_
      rintro e w4 ⟨rfl, rfl⟩
      go_wp2
      go_ret
      exact ⟨rfl, g2⟩
    | true =>
      cases hy : edg s y with
      | false =>
        rw [hx] at HEx
        rw [hy] at HEy
        clear hx hy hxy
        go_wp2_with fail
        refine (HEx.out _).mono ?_
        rintro e w4 ⟨rfl, rfl⟩
        go_wp2_with fail
        refine (HEy.out _).mono ?_
        rintro e w5 ⟨rfl, rfl⟩
        go_wp2
        go_ret
        exact ⟨rfl, g2⟩
      | true =>
        obtain ⟨cs1, mid, cs3, e1, e2, e3⟩ := edges_split HVD.out hx hy hxyN
        rw [hx] at HEx
        rw [hy] at HEy
        have hbts := bytes_of_pts HVD.out e1
        have hgd := good_pts' s.data.toList
        rw [e1] at hgd
        have hpl := pts_length s.data.toList
        rw [bytes_length, e1] at hpl
        simp only [List.length_append] at hpl
        have HFx : Hid (∀ k : Nat, k ≤ 3 → ∀ W, Tabs W tb → Calls Tryd.prog 12 #[.string s, .int .i64 (k : Nat), .int .i64 (x : Nat)] W fun e w' => e = .returned (.tuple #[.int .i64 (kG k cs1), .int .i64 0]) ∧ Below W.heap.size W w') := fun k hk W h => by
          have := from_any s k x W tb (by omega) h
          have hf := fr_edge HVD.out e1 k hk
          rw [← e2] at hf
          rwa [hf.1, hf.2] at this
        have HFy : Hid (∀ k : Nat, k ≤ 3 → ∀ W, Tabs W tb → Calls Tryd.prog 12 #[.string s, .int .i64 (k : Nat), .int .i64 (y : Nat)] W fun e w' => e = .returned (.tuple #[.int .i64 (kG k (cs1 ++ mid)), .int .i64 0]) ∧ Below W.heap.size W w') := fun k hk W h => by
          have := from_any s k y W tb (by omega) h
          have hf := fr_edge HVD.out (cs1 := cs1 ++ mid) (cs2 := cs3) (by rw [e1, List.append_assoc]) k hk
          rw [← e3] at hf
          rwa [hf.1, hf.2] at this
        have hmid : (s.extract x y).data.toList = flat mid := by
          rw [e2, e3]
          rw [flat_append] at hbts
          exact extract_mid hbts
        have hgm : Good mid := good_left (good_right hgd)
        have HOf : Hid (∀ W, Tabs W tb → Calls Tryd.prog 14 #[.string (s.extract x y)] W fun e w' => e = .returned (.agg #[.int .i64 (kB mid), .int .i64 (kP mid), .int .i64 (kU mid), .int .i64 (kL mid)]) ∧ Below W.heap.size W w') := fun W h => by
          have := of_any (s.extract x y) W tb (by rw [ByteArray.size_extract]; omega) h
          rwa [hmid, pts_flat' hgm] at this
        have HGet : Hid (∀ (k : Nat) W, Calls Tryd.prog 18 #[.agg #[.int .i64 (kB mid), .int .i64 (kP mid), .int .i64 (kU mid), .int .i64 (kL mid)], .int .i64 (k : Nat)] W fun e w' => e = .returned (.int .i64 (kG k mid)) ∧ Below W.heap.size W w') := fun k W => get_any k _ _ _ _ W
        have HR : Hid (∀ k : Nat, 0 ≤ kG k cs1 ∧ kG k cs1 ≤ 1000 ∧ 0 ≤ kG k mid ∧ kG k mid ≤ 1000 ∧ kG k (cs1 ++ mid) = kG k cs1 + kG k mid) := fun k => by
          have h1 := kG_range k cs1
          have h2 := kG_range k mid
          unfold kP at h1 h2
          exact ⟨h1.1, by omega, h2.1, by omega, kG_append k cs1 mid⟩
        have hxs : (x : Int) ≤ (y : Int) := by omega
        clear hx hy hxy e1 e2 e3 hbts hgd hpl hmid hgm HVD
        go_wp2_with fail
        refine (HEx.out _).mono ?_
        rintro e w4 ⟨rfl, rfl⟩
        go_wp2_with fail
        refine (HEy.out _).mono ?_
        rintro e w5 ⟨rfl, rfl⟩
        clear HEx HEy
        go_wp2
        go_loopw [9] (fun i wr => ∃ k : Nat, k ≤ 4 ∧ i = .int .i64 (k : Nat) ∧ Below w.heap.size w wr) (fun i _ => 4 - (intOf i).toNat)
        case atStart => exact ⟨0, by omega, rfl, g2⟩
        case round =>
          obtain ⟨k, hk, rfl, hbr⟩ := hrel
          have tr := hT.later hbr
          by_cases hlt : (k : Int) ≤ 3
          · have HFxk := Hid.mk4 (HFx.out k (by omega))
            have HFyk := Hid.mk4 (HFy.out k (by omega))
            have HGk := Hid.mk4 (HGet.out k)
            obtain ⟨q1, q2, q3, q4, q5⟩ := HR.out k
            rw [q5] at HFyk
            clear HFx HFy HGet HR q5
            generalize kG k cs1 = M at *
            generalize kG k mid = G at *
            have hsub : (M + G - M != G) = false := by simp; omega
            have hle : decide (M + G < M) = false := by simp; omega
            go_wp2_with fail
            refine (HFxk.out _ tr).mono ?_
            rintro e w6 ⟨rfl, b6⟩
            have g6 := hbr.trans (b6.mono hbr.size)
            have t6 := hT.later g6
            clear b6
            go_wp2_with fail
            refine (HFyk.out _ t6).mono ?_
            rintro e w7 ⟨rfl, b7⟩
            have g7 := g6.trans (b7.mono g6.size)
            have t7 := hT.later g7
            clear b7 g6 t6
            go_wp2_with fail
            refine (HOf.out _ t7).mono ?_
            rintro e w8 ⟨rfl, b8⟩
            have g8 := g7.trans (b8.mono g7.size)
            clear b8 g7 t7
            go_wp2_with fail
            refine (HGk.out _).mono ?_
            rintro e w9 ⟨rfl, b9⟩
            have g9 := g8.trans (b9.mono g8.size)
            clear b9 g8
            go_wp2
            go_roundw
            case rel => exact ⟨k + 1, by omega, by go_num, g9⟩
            case measure => simp [intOf]; omega
          · go_wp2
            go_ret
            exact ⟨rfl, hbr⟩

theorem order_any (s : ByteArray) (a b : Int) (ha : 0 ≤ a ∧ a ≤ 255) (hb : 0 ≤ b ∧ b ≤ 255) (hs : s.size ≤ maxLen) (w : World) (tb : Nat × Nat) (hT : Tabs w tb) :
    Calls Tryd.prog 8 #[.string s, .int .u8 a, .int .u8 b] w fun e w' => e = .returned (.bool true) ∧ Below w.heap.size w w' := by
  by_cases hl : 150 < s.size
  · exact order_long s a b hs hl w tb hT
  · cases hv : vld s.data.toList with
    | false => exact order_bad s a b (by omega) hv w tb hT
    | true => exact order_good s a b ha hb (by omega) hv w tb hT
end Go.Proofs.YthlmfmaiecmebaaDoor
