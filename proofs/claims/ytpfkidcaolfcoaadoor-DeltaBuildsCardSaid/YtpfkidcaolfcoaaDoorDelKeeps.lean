/- DeltaKeeps walked. -/
import Derived.Test.YtpfkidcaolfcoaaDoorDelKnown
import Derived.Test.YtpfkidcaolfcoaaDoorTurnsP
namespace Go.Proofs.YtpfkidcaolfcoaaDoor
open Go.RowKit Go.Sort Go.Lib
set_option linter.unusedSimpArgs false
set_option linter.unusedVariables false

theorem inS_tx (T : List UInt8) : inS (tx T) = T.length := by
  unfold tx
  split
  · rename_i h; subst h; rfl
  · simp [inS]
theorem inS_elG {base : Int} : ∀ (l : List El) (txt : List UInt8) (en : Int), inS (elG base txt en l) = txt.length + inS l
  | [], txt, en => by
    simp only [elG, inS_append, inS_tx]
    split <;> simp [inS]
  | (f, t, T) :: l, txt, en => by
    have hc : inS ((f, t, T) :: l) = T.length + inS l := by simp [inS]
    simp only [elG]
    split
    · rename_i h
      rw [inS_elG l txt en, hc, h.2]; simp
    · split
      · rw [inS_append, inS_tx, hc]
        have : inS ((en, f, []) :: elG base T t l) = inS (elG base T t l) := by simp [inS]
        rw [this, inS_elG l T t]
      · rw [inS_elG l (txt ++ T) t, hc, List.length_append]; omega
theorem cpS_elG {base : Int} {l : List El} (hc : Chs base 0 l) : cpS (elG base [] 0 l) = sz8 base l - inS l := by
  have h := elG_size hc
  rw [szE_two, inS_elG] at h
  simp at h
  omega
theorem flt_nil {n : Int} (h : 0 ≤ n ∧ n ≤ 20000) : flt n [] = 0 := by
  unfold flt
  rw [decide_eq_true h]
  simp [wthB, ordB, vldB, sz8]
  omega
theorem el_nil_len (n : Int) : (elG n [] 0 []).length ≤ 1 := by
  simp only [elG, tx, if_true, List.nil_append]
  split <;> simp
theorem rng_apl {n : Nat} {s : List UInt8} (h : s.length = n) : apl (rng 0 n) s = s := by
  rw [apl_rng (Int.le_refl _) (by omega) (by omega)]
  simp [← h]
/-- What Keep builds. -/
theorem keep_is {n : Int} (h : 0 ≤ n ∧ n ≤ 20000) : isB n (elG n [] 0 []) = true := isB_elG (flt_nil h) (Nat.le_trans (el_nil_len n) (by omega))
theorem keep_apl {s : ByteArray} : cacc (apl (cel (elG (s.size : Nat) [] 0 [])) s.data.toList) = s := by
  rw [cel_elG [] [] 0 (by simp [Chs])]
  show cacc (apl (ownT [] ++ rng 0 _) _) = s
  rw [show ownT [] = [] from rfl, List.nil_append, rng_apl (bytes_length s), cacc_bytes]
section
variable {s : List UInt8} {a b n : Nat}
/-- A text in the place of itself. -/
def kl (s : List UInt8) (a b : Nat) : List El := [((a : Int), (b : Int), (s.drop a).take (b - a))]
theorem kl_len (h : a ≤ b) (hb : b ≤ n) (hn : s.length = n) : ((s.drop a).take (b - a)).length = b - a := by simp; omega
theorem kl_flt (h : a ≤ b) (hb : b ≤ n) (hn : s.length = n) (h2 : n ≤ 200) (hv : vld ((s.drop a).take (b - a)) = true) : flt n (kl s a b) = 0 := by
  unfold flt
  have h1 : wthB n (kl s a b) = true := by
    simp only [wthB, kl, List.all_cons, List.all_nil, Bool.and_true, wthE]
    exact decide_eq_true (by omega)
  have h3 : vldB (kl s a b) = true := by simp only [vldB, kl, List.all_cons, List.all_nil, Bool.and_true]; exact hv
  have h4 : sz8 n (kl s a b) = n := by
    simp only [sz8, kl, List.map_cons, List.map_nil, List.sum_cons, List.sum_nil]
    have := kl_len h hb hn
    omega
  rw [decide_eq_true (by omega), h1, h3, h4]
  simp [kl, ordB]
  omega
theorem kl_chs (h : a ≤ b) (hb : b ≤ n) : Chs n 0 (kl s a b) := ⟨by omega, by omega, by omega, by simp only [Chs]; omega⟩
theorem kl_few : (elG n [] 0 (kl s a b)).length ≤ 60 := by
  have ht : ∀ T : List UInt8, (tx T).length ≤ 1 := fun T => by unfold tx; split <;> simp
  have hi : ∀ c d : Int, (if c < d then [((c, d, []) : El)] else []).length ≤ 1 := fun c d => by split <;> simp
  simp only [kl, elG]
  have h1 := ht ((s.drop a).take (b - a))
  have h2 := hi (b : Int) (n : Int)
  have h3 := hi 0 (n : Int)
  have h4 := ht []
  have h5 := ht ([] ++ (s.drop a).take (b - a))
  split
  · rw [List.length_append]; omega
  · split
    · simp only [List.length_append, List.length_cons]; omega
    · simp only [List.length_append]; omega
theorem kl_apl (h : a ≤ b) (hb : b ≤ n) (hn : s.length = n) : apl (cel (elG n [] 0 (kl s a b))) s = s := by
  rw [cel_elG _ _ _ (kl_chs h hb)]
  simp only [kl, bce]
  rw [show ownT [] = [] from rfl, List.nil_append, apl_append, apl_append, apl_own, apl_rng (Int.le_refl _) (by omega) (by omega), apl_rng (by omega) (by omega) (by omega)]
  simp only [Int.toNat_zero, List.drop_zero, Int.sub_zero, Int.toNat_natCast]
  rw [show ((n : Int) - (b : Int)).toNat = n - b by omega]
  apply List.ext_getElem?
  intro i
  simp only [List.append_assoc, List.getElem?_append, List.length_take, List.length_drop, List.getElem?_take, List.getElem?_drop]
  repeat' split
  all_goals first | rfl | (congr 1; omega) | (rw [List.getElem?_eq_none (by omega)]) | omega
theorem kl_in (h : a ≤ b) (hb : b ≤ n) (hn : s.length = n) : inS (elG n [] 0 (kl s a b)) = b - a := by
  rw [inS_elG]
  have := kl_len h hb hn
  simp only [kl, inS, List.map_cons, List.map_nil, List.sum_cons, List.sum_nil, List.length_nil]
  omega
theorem kl_sz (h : a ≤ b) (hb : b ≤ n) (hn : s.length = n) : szE (elG n [] 0 (kl s a b)) = n := by
  rw [elG_size (kl_chs h hb)]
  simp only [sz8, kl, List.map_cons, List.map_nil, List.sum_cons, List.sum_nil]
  have := kl_len h hb hn
  omega
theorem kl_same (h : a ≤ b) (hb : b ≤ n) (hn : s.length = n) : decide ((n : Int) = n ∧ elG n [] 0 (kl s a b) = elG n [] 0 []) = decide (a = b) := by
  refine decide_eq_decide.2 ⟨fun ⟨_, e⟩ => ?_, fun e => ⟨rfl, ?_⟩⟩
  · have h1 := kl_in h hb hn
    rw [e, inS_elG] at h1
    simp [inS] at h1
    omega
  · subst e
    simp only [kl, elG]
    rw [if_pos ⟨trivial, by simp⟩]
end
set_option maxHeartbeats 8000000 in
set_option maxRecDepth 100000 in
theorem keeps11_any (s : ByteArray) (fr tt : Int) (hs : s.size ≤ maxLen) (hf : 0 ≤ fr ∧ fr ≤ 255) (ht : 0 ≤ tt ∧ tt ≤ 255) (w : World) (tb : Nat × Nat) (hT : Tab w tb) :
    Calls Tryd.prog 7 #[.string s, .int .u8 fr, .int .u8 tt] w fun e w' => e = .returned (.bool true) ∧ RowKit.Below w.heap.size w w' := by
  have HK := Hid.mk7 (known11_any w tb hT)
  have HT := Hid.mk7 hT
  clear hT
  by_cases hlong : 200 < s.size
  · have t1 : decide ((200 : Int) < (s.size : Int)) = true := decide_eq_true (by omega)
    go_enter Tryd.func7, Tryd.ntmps7
    go_wp2_with fail
    refine HK.out.mono ?_
    rintro e w1 ⟨rfl, b1⟩
    go_wp2
    go_ret
    exact ⟨rfl, b1⟩
  have hn : s.size ≤ 200 := by omega
  have t1 : decide ((200 : Int) < (s.size : Int)) = false := decide_eq_false (by omega)
  obtain ⟨a0, ha0⟩ : ∃ a : Nat, fr % ((s.size : Int) + 1) = (a : Int) := ⟨(fr % ((s.size : Int) + 1)).toNat, by have := Int.emod_nonneg fr (show (s.size : Int) + 1 ≠ 0 by omega); omega⟩
  obtain ⟨b0, hb0⟩ : ∃ b : Nat, tt % ((s.size : Int) + 1) = (b : Int) := ⟨(tt % ((s.size : Int) + 1)).toNat, by have := Int.emod_nonneg tt (show (s.size : Int) + 1 ≠ 0 by omega); omega⟩
  have ha1 : a0 ≤ s.size := by have := Int.emod_lt_of_pos fr (show (0 : Int) < (s.size : Int) + 1 by omega); omega
  have hb1 : b0 ≤ s.size := by have := Int.emod_lt_of_pos tt (show (0 : Int) < (s.size : Int) + 1 by omega); omega
  have hz : ¬ (s.size : Int) + 1 = 0 := by omega
  have KEEP := Hid.mk7 (fun W => keep_v (m := (s.size : Nat)) (s.size : Nat) (by omega) rfl W)
  have KI := Hid.mk7 (keep_is (n := (s.size : Nat)) (by omega))
  have KA := Hid.mk7 (keep_apl (s := s))
  go_enter Tryd.func7, Tryd.ntmps7
  go_wp2_with fail
  refine HK.out.mono ?_
  rintro e w1 ⟨rfl, b1⟩
  have TT1 := Hid.mk7 (HT.out.later b1)
  have G1 := Hid.mk7 b1
  clear HK b1 hlong
  go_wp2_with fail
  go_quiet (fail)
  have G2 : Hid (RowKit.Below w.heap.size w (w1.drewN nq)) := below_drewN G1.out nq
  have TT2 := Hid.mk7 (HT.out.later G2.out)
  clear TT1 G1
  generalize w1.drewN nq = w2 at *
  go_upto_region 6 with fail
  go_cut [7, 8] from 20 to 37 (fun s7 s8 wx => ∃ a b : Nat, s7 = .int .i64 (a : Nat) ∧ s8 = .int .i64 (b : Nat) ∧ a ≤ b ∧ b ≤ s.size ∧ wx = w2)
  case first =>
    by_cases hab : a0 ≤ b0
    · have e1 : min (a0 : Int) (b0 : Int) = (a0 : Int) := by omega
      have e2 : max (a0 : Int) (b0 : Int) = (b0 : Int) := by omega
      go_wp2
      all_goals first
        | (go_meet; exact ⟨a0, b0, rfl, rfl, hab, hb1, rfl⟩)
        | (go_meet; exact ⟨a0, a0, rfl, rfl, by omega, by omega, rfl⟩)
    · have hba : b0 < a0 := by omega
      have hba2 : (b0 : Int) < (a0 : Int) := by omega
      have hba3 : b0 ≤ a0 := by omega
      have hba4 : ¬ a0 < b0 := by omega
      have e1 : min (a0 : Int) (b0 : Int) = (b0 : Int) := by omega
      have e2 : max (a0 : Int) (b0 : Int) = (a0 : Int) := by omega
      go_wp2
      go_meet
      exact ⟨b0, a0, rfl, rfl, by omega, ha1, rfl⟩
  case rest =>
    obtain ⟨a, b, rfl, rfl, hab, hbn, rfl⟩ := hcut
    clear ha0 hb0
    have HX := Hid.mk7 (bytes_ext s a b)
    obtain ⟨x, hx⟩ : ∃ x : ByteArray, s.extract a b = x := ⟨_, rfl⟩
    have hxs : x.size = b - a := by rw [← hx, ByteArray.size_extract]; omega
    rw [hx] at HX
    have HXX := Hid.mk7 hx
    have HVR := Hid.mk7 (fun W => refvalid_any x W (by unfold maxLen; omega))
    have hN : s.data.toList.length = s.size := bytes_length s
    have f4 : ((b : Int) ≤ (s.size : Int)) = True := by simp; omega
    have f5 : ((a : Int) ≤ (b : Int)) = True := by simp; omega
    go_wp2_with fail
    refine (KEEP.out _).mono ?_
    rintro e w3 ⟨v3, rfl, h3, b3⟩
    have TT3 := Hid.mk7 (TT2.out.later b3)
    have G3 := Hid.mk7 (G2.out.trans (b3.mono G2.out.size))
    have EV3 := Hid.mk7 h3
    clear TT2 G2 h3 b3
    go_wp2_with fail
    refine (apply_v KI.out rfl KA.out EV3.out TT3.out).mono ?_
    rintro e w4 ⟨rfl, b4⟩
    have TT4 := Hid.mk7 (TT3.out.later b4)
    have G4 := Hid.mk7 (G3.out.trans (b4.mono G3.out.size))
    clear EV3 TT3 G3 b4 KI KA
    clear hxs
    have hxl : a + x.size ≤ b := by rw [← HXX.out, ByteArray.size_extract]; omega
    go_wp2_with fail
    refine (HVR.out _).mono ?_
    rintro e w5 ⟨rfl, hw5⟩
    rw [← hw5] at TT4 G4
    clear hw5 HVR
    cases hv : vld x.data.toList with
    | false =>
      go_wp2
      go_ret
      exact ⟨rfl, G4.out⟩
    | true =>
      rw [HX.out] at hv
      have FL := kl_flt hab hbn hN hn hv
      have FW := kl_few (s := s.data.toList) (a := a) (b := b) (n := s.size)
      have IS := Hid.mk7 (isB_elG FL FW)
      have AP : Hid (cacc (apl (cel (elG (s.size : Nat) [] 0 (kl s.data.toList a b))) s.data.toList) = s) := by show _ = _; rw [kl_apl hab hbn hN, cacc_bytes]
      have hin := kl_in hab hbn hN
      have hsz := kl_sz hab hbn hN
      obtain ⟨t, ht⟩ : ∃ t : Bool, ((a : Int) == (b : Int)) = t := ⟨_, rfl⟩
      have ht2 : decide (a = b) = t := by
        rw [← ht]
        by_cases h : a = b
        · rw [decide_eq_true h, h]; simp
        · rw [decide_eq_false h]; exact (beq_false_of_ne (by omega)).symm
      have hsm := kl_same hab hbn hN
      rw [ht2] at hsm
      have SM := Hid.mk7 (fun W v k (h : ElAt W v (elG (s.size : Nat) [] 0 (kl s.data.toList a b))) (h2 : ElAt W k (elG (s.size : Nat) [] 0 [])) => same_v hsm (Nat.le_trans kl_few (by omega)) h h2)
      clear hsm
      have INN : Hid ((inS (elG (s.size : Nat) [] 0 (kl s.data.toList a b)) : Int) = (b : Int) - (a : Int)) := by show _ = _; omega
      have CPP : Hid ((s.size : Int) - cpS (elG (s.size : Nat) [] 0 (kl s.data.toList a b)) = (b : Int) - (a : Int)) := by
        show _ = _
        rw [szE_two] at hsz
        omega
      have SZ := Hid.mk7 hsz
      have A1 := Hid.mk7 (el_lit w5 (kl s.data.toList a b) #[.int .i64 (a : Nat), .int .i64 (b : Nat), .string x] 47 (by
        show _ = c3 _
        unfold kl
        rw [c3_one, ← HX.out, cacc_bytes]) 1 rfl)
      have BU := Hid.mk7 (fun W (h : ElAt W (.slice (some ⟨w5.heap.size, 0, none⟩) 1 1) (kl s.data.toList a b)) (hT : Tab W tb) => build_v (tb := tb) FL rfl FW (by intro e he; simp [kl] at he; subst he; simp; omega) (by simp [kl]) (by simp [kl, inS]; omega) h hT)
      have b5 : RowKit.Below w5.heap.size w5 (w5.alloc (.cells #[.int .i64 (a : Nat), .int .i64 (b : Nat), .string x] 47)) := below_newE (RowKit.Below.refl _ _) _
      have TT5 := Hid.mk7 (TT4.out.later b5)
      have G5 := Hid.mk7 (G4.out.trans (b5.mono G4.out.size))
      clear TT4 G4 b5 hin hsz hv FL
      obtain ⟨E, hE⟩ : ∃ E, elG (s.size : Nat) [] 0 (kl s.data.toList a b) = E := ⟨_, rfl⟩
      rw [hE] at FW IS AP SM INN CPP SZ
      rw [hE] at BU
      clear hE
      go_wp2_with fail
      refine (BU.out _ A1.out TT5.out).mono ?_
      rintro e w6 ⟨v6, rfl, h6, b6⟩
      obtain ⟨a6, cap6, rfl, _⟩ := id h6
      have EV6 := Hid.mk7 (h6.alloc (.cells #[.int .i64 (s.size : Nat), .slice a6 E.length cap6] 24))
      have RD6 := Hid.mk7 (Rd.new w6 (.int .i64 (s.size : Nat)) (.slice a6 E.length cap6))
      have TT6 := Hid.mk7 ((TT5.out.later b6).nu (.cells #[.int .i64 (s.size : Nat), .slice a6 E.length cap6] 24))
      have G6 := Hid.mk7 (below_newE (G5.out.trans (b6.mono G5.out.size)) (.cells #[.int .i64 (s.size : Nat), .slice a6 E.length cap6] 24))
      clear h6 b6 TT5 G5 A1 BU
      go_wp2_with fail
      refine (apply_v IS.out rfl AP.out EV6.out TT6.out).mono ?_
      rintro e w7 ⟨rfl, b7⟩
      have EV7 := Hid.mk7 (EV6.out.later b7)
      have RD7 := Hid.mk7 (RD6.out.later b7)
      have TT7 := Hid.mk7 (TT6.out.later b7)
      have G7 := Hid.mk7 (G6.out.trans (b7.mono G6.out.size))
      clear EV6 RD6 TT6 G6 b7 AP
      have z0 := cell_regrown RD7.out.c0
      have z1 := cell_regrown RD7.out.c1
      go_wp2_with fail
      refine wp_region_mixP [([0, 1, 2, 3, 4, 5, 6, 7, 8, 9, 10, 11, 12, 14, 15], [13]), ([16, 17, 18, 19, 21, 22, 23], [20]), ([24, 25, 26, 27, 29, 30, 31], [28]), ([32, 33, 34, 35, 36, 37, 40, 41, 42], [38]), ([], [39]), ([43, 44, 45], [])] (by kernel_rfl) (by kernel_rfl) ?_
      rintro x0 ⟨d0, rfl⟩
      have m0 := below_redrawnE w7 d0
      refine wpPlan_cons ?_
      simp only [pickAll, pickAt, List.nil_append, List.cons_append, List.append_nil]
      repeat (go_big_quiet_step (fail))
      refine wpQuiet_nil ?_
      go_wp2_with fail
      refine (size_v IS.out SZ.out (EV7.out.later m0) (TT7.out.later m0)).mono ?_
      rintro e x1 ⟨rfl, b1⟩
      have m1 := m0.trans (b1.mono m0.size)
      go_wp2
      refine mixNext_belowE m1 ?_
      refine wpPlan_cons ?_
      simp only [pickAll, pickAt, List.nil_append, List.cons_append, List.append_nil]
      repeat (go_big_quiet_step (fail))
      refine wpQuiet_nil ?_
      go_wp2_with fail
      refine (adds_v IS.out INN.out (EV7.out.later m1) (TT7.out.later m1)).mono ?_
      rintro e x2 ⟨rfl, b2⟩
      have m2 := m1.trans (b2.mono m1.size)
      go_wp2
      refine mixNext_belowE m2 ?_
      refine wpPlan_cons ?_
      simp only [pickAll, pickAt, List.nil_append, List.cons_append, List.append_nil]
      repeat (go_big_quiet_step (fail))
      refine wpQuiet_nil ?_
      go_wp2_with fail
      refine (drops_v IS.out CPP.out (EV7.out.later m2) (TT7.out.later m2)).mono ?_
      rintro e x3 ⟨rfl, b3⟩
      have m3 := m2.trans (b3.mono m2.size)
      go_wp2
      refine mixNext_belowE m3 ?_
      refine wpPlan_cons ?_
      simp only [pickAll, pickAt, List.nil_append, List.cons_append, List.append_nil]
      repeat (go_big_quiet_step (fail))
      refine wpQuiet_nil ?_
      go_wp2_with fail
      refine (KEEP.out _).mono ?_
      rintro e x4 ⟨vk, rfl, hk, b4⟩
      have m4 := m3.trans (b4.mono m3.size)
      go_wp2
      refine mixNext_belowE m4 ?_
      refine wpPlan_cons ?_
      simp only [pickAll, pickAt, List.nil_append, List.cons_append, List.append_nil]
      repeat (go_big_quiet_step (fail))
      refine wpQuiet_nil ?_
      go_wp2_with fail
      refine (SM.out _ _ _ (EV7.out.later m4) hk).mono ?_
      rintro e x5 ⟨rfl, b5⟩
      have m5 := m4.trans (b5.mono m4.size)
      go_wp2
      refine mixNext_belowE m5 ?_
      refine wpPlan_cons ?_
      simp only [pickAll, pickAt, List.nil_append, List.cons_append, List.append_nil]
      repeat (go_big_quiet_step (fail))
      refine wpQuiet_nil ?_
      refine mixNext_belowE m5 (wpPlan_nil ?_)
      go_wp2
      go_ret
      exact ⟨rfl, G7.out.trans (m5.mono G7.out.size)⟩
end Go.Proofs.YtpfkidcaolfcoaaDoor
