/- The reference's To and From, walked. -/
import Derived.Test.YtfgefdkkjfjjjabGreatDoorRefOf
import Derived.Test.YtfgefdkkjfjjjabGreatDoorMetMath
namespace Go.Proofs.YtfgefdkkjfjjjabGreatDoor
open Go.RowKit Go.Sort

/-- In code points and lines every count is come to. -/
theorem rch_hit {k n : Int} (hk : k = 1 ∨ k = 3) {cs : List Int} (h0 : 0 ≤ n) (h1 : n ≤ kG k cs) : kG k (rch k n [] cs) = n := by
  obtain ⟨r1, r2, e1, e2, e3, e4⟩ := rch_split k n cs []
  simp only [List.nil_append] at e2 e3 e4
  rw [e2]
  have hge : n ≤ kG k r1 := by
    rcases e3 with e3 | e3
    · rw [e1, e3, List.append_nil] at h1; exact h1
    · exact e3
  rcases e4 with e4 | ⟨q, c, e4, hq⟩
  · rw [e4, kG_nil] at hge ⊢; omega
  · have hc : kG k [c] ≤ 1 := by
      have := ln_range c
      rcases hk with rfl | rfl
      · show kP [c] ≤ 1; rw [kP_one]; omega
      · show kL [c] ≤ 1; rw [kL_one]; omega
    rw [e4, kG_append] at hge ⊢
    omega

theorem rch_go {k n c : Int} {acc cs : List Int} (h : kG k acc < n) : rch k n acc (c :: cs) = rch k n (acc ++ [c]) cs := by
  conv => lhs; unfold rch
  rw [if_pos h]
theorem rch_halt {k n : Int} {acc rest : List Int} (h : ¬ kG k acc < n) : rch k n acc rest = acc := by
  cases rest with
  | nil => rfl
  | cons c cs => unfold rch; rw [if_neg h]

set_option maxHeartbeats 1000000 in
set_option maxRecDepth 100000 in
/-- The reference's To, where there is no such kind or no valid text. -/
theorem refto_form (s : ByteArray) (k n : Int) (w : World) (hs : s.size ≤ 5000) (hc : ctb s k = false) :
    Calls Tryz.prog 10 #[.string s, .int .i64 k, .int .i64 n] w fun e w' => e = .returned (.tuple #[.int .i64 0, .int .i64 12]) ∧ Below w.heap.size w w' := by
  by_cases h0 : k < 0
  · go_enter Tryz.func10, Tryz.ntmps10
    go_wp2
    go_ret2
    exact ⟨rfl, Below.refl _ _⟩
  · have q0 : decide (k < 0) = false := by simpa using h0
    by_cases h1 : 3 < k
    · go_enter Tryz.func10, Tryz.ntmps10
      go_wp2
      go_ret2
      exact ⟨rfl, Below.refl _ _⟩
    · have q1 : decide (3 < k) = false := by simpa using h1
      have hv : vld s.data.toList = false := by
        unfold ctb at hc
        cases hv : vld s.data.toList with
        | false => rfl
        | true => rw [hv, Bool.and_true] at hc; simp at hc; omega
      have HV : Hid (∀ W, Calls Tryz.prog 23 #[.string s] W fun e w' => e = .returned (.bool false) ∧ w' = W) := fun W => by have := refvalid_any s W (by unfold maxLen; omega); rwa [hv] at this
      clear hc hv
      go_enter Tryz.func10, Tryz.ntmps10
      go_wp2_with fail
      refine (HV.out _).mono ?_
      rintro e w1 ⟨rfl, rfl⟩
      go_wp2
      go_ret2
      exact ⟨rfl, Below.refl _ _⟩

set_option maxHeartbeats 2000000 in
set_option maxRecDepth 100000 in
/-- The reference's To, elsewhere. -/
theorem refto_good (s : ByteArray) (k n : Int) (w : World) (hs : s.size ≤ 5000) (hc : ctb s k = true) :
    Calls Tryz.prog 10 #[.string s, .int .i64 k, .int .i64 n] w fun e w' => e = .returned (.tuple #[.int .i64 (toB s k n), .int .i64 (toE s k n)]) ∧ Below w.heap.size w w' := by
  have hv : vld s.data.toList = true ∧ 0 ≤ k ∧ k ≤ 3 := by
    unfold ctb at hc
    simp at hc
    exact ⟨hc.2, hc.1⟩
  have HV : Hid (∀ W, Calls Tryz.prog 23 #[.string s] W fun e w' => e = .returned (.bool true) ∧ w' = W) := fun W => by have := refvalid_any s W (by unfold maxLen; omega); rwa [hv.1] at this
  have q0 : decide (k < 0) = false := by simp; omega
  have q1 : decide (3 < k) = false := by simp; omega
  obtain ⟨cs, hcs⟩ : ∃ cs, cs = pts s.data.toList := ⟨_, rfl⟩
  have HG : Hid (Good cs) := by rw [hcs]; exact good_pts' _
  have hl : cs.length ≤ 5000 := by have := pts_length s.data.toList; rw [bytes_length, ← hcs] at this; omega
  have HOf : Hid (∀ W, Calls Tryz.prog 16 #[.string s] W fun e w' => e = .returned (.agg #[.int .i64 (kB cs), .int .i64 (kP cs), .int .i64 (kU cs), .int .i64 (kL cs)]) ∧ Below W.heap.size W w') := fun W => by
    have := refof_any s W hs
    rw [← hcs] at this
    exact this
  have HPt : Hid (∀ W, Calls Tryz.prog 31 #[.string s] W fun e w' => ∃ v, e = .returned v ∧ w'.ownsRow W.heap.size 9 1 v cs.length (strRow cs) ∧ Below W.heap.size W w') := fun W => by rw [hcs]; exact refpoints_own s W (by omega)
  have HGet : Hid (∀ W, Calls Tryz.prog 15 #[.agg #[.int .i64 (kB cs), .int .i64 (kP cs), .int .i64 (kU cs), .int .i64 (kL cs)], .int .i64 k] W fun e w' => e = .returned (.int .i64 (kG k cs)) ∧ Below W.heap.size W w') := fun W => refget_any k _ _ _ _ W
  have HB : Hid (toB s k n = if n < 0 ∨ kG k cs < n then 0 else if kG k (rch k n [] cs) = n then kB (rch k n [] cs) else 0) := by
    show _ = _
    unfold toB
    rw [if_neg (by rw [hc]; simp), ← hcs]
  have HE : Hid (toE s k n = if n < 0 ∨ kG k cs < n then 10 else if kG k (rch k n [] cs) = n then 0 else if k = 2 then 50 else 11) := by
    show _ = _
    unfold toE
    rw [if_neg (by rw [hc]; simp), ← hcs]
  generalize toB s k n = tB at *
  generalize toE s k n = tE at *
  have hk03 : 0 ≤ k ∧ k ≤ 3 := hv.2
  clear hc hv hcs
  by_cases hn0 : n < 0
  · have eB := HB.out
    have eE := HE.out
    rw [if_pos (Or.inl hn0)] at eB eE
    subst eB eE
    clear HB HE HG HPt
    go_enter Tryz.func10, Tryz.ntmps10
    go_wp2_with fail
    refine (HV.out _).mono ?_
    rintro e w1 ⟨rfl, rfl⟩
    go_wp2
    go_ret2
    exact ⟨rfl, Below.refl _ _⟩
  · have p0 : decide (n < 0) = false := by simpa using hn0
    by_cases hn1 : kG k cs < n
    · have eB := HB.out
      have eE := HE.out
      rw [if_pos (Or.inr hn1)] at eB eE
      subst eB eE
      clear HB HE HG HPt
      generalize kG k cs = gk at *
      go_enter Tryz.func10, Tryz.ntmps10
      go_wp2_with fail
      refine (HV.out _).mono ?_
      rintro e w1 ⟨rfl, rfl⟩
      go_wp2_with fail
      refine (HOf.out _).mono ?_
      rintro e w2 ⟨rfl, b2⟩
      go_wp2_with fail
      refine (HGet.out _).mono ?_
      rintro e w3 ⟨rfl, b3⟩
      have g3 := b2.trans (b3.mono b2.size)
      go_wp2
      go_ret2
      exact ⟨rfl, g3⟩
    · have eB := HB.out
      have eE := HE.out
      rw [if_neg (by omega)] at eB eE
      have HR : Hid (∀ cs1, rch k n [] cs = cs1 → (kG k cs1 = n → tB = kB cs1 ∧ tE = 0) ∧ (n < kG k cs1 → tB = 0 ∧ ((k = 0 ∧ tE = 11) ∨ (k ≠ 0 ∧ tE = 50)))) := by
        intro cs1 hr
        rw [hr] at eB eE
        refine ⟨fun h => ?_, fun h => ?_⟩
        · rw [if_pos h] at eB eE; exact ⟨eB, eE⟩
        · rw [if_neg (by omega)] at eB eE
          refine ⟨eB, ?_⟩
          have hk : k = 0 ∨ k = 2 := by
            rcases Classical.em (k = 1 ∨ k = 3) with h13 | h13
            · have := rch_hit h13 (show 0 ≤ n by omega) (show n ≤ kG k cs by omega)
              rw [hr] at this
              omega
            · omega
          rcases hk with rfl | rfl
          · rw [if_neg (by omega)] at eE; exact Or.inl ⟨rfl, eE⟩
          · rw [if_pos rfl] at eE; exact Or.inr ⟨by omega, eE⟩
      have hn1' : n ≤ kG k cs := by omega
      have HN1 : Hid (n ≤ kG k cs) := hn1'
      have p1 : decide (kG k cs < n) = false := by simpa using hn1
      clear eB eE HB HE hn1 hn1'
      go_enter Tryz.func10, Tryz.ntmps10
      go_wp2_with fail
      refine (HV.out _).mono ?_
      rintro e w1 ⟨rfl, rfl⟩
      go_wp2_with fail
      refine (HOf.out _).mono ?_
      rintro e w2 ⟨rfl, b2⟩
      go_wp2_with fail
      refine (HGet.out _).mono ?_
      rintro e w3 ⟨rfl, b3⟩
      have g3 := b2.trans (b3.mono b2.size)
      clear b2 b3
      go_wp2_with fail
      refine (HPt.out _).mono ?_
      rintro e w4 ⟨v, rfl, hown, b4⟩
      have g4 := g3.trans (b4.mono g3.size)
      obtain ⟨ad, cap, rfl⟩ := strs_shape hown
      have HOW := Hid.mk4 hown
      clear b4 g3 hown HV HOf HPt HGet p1
      go_wp2
      go_loopw [10] (fun i wr => ∃ (cs1 cs2 : List Int), Hid (cs = cs1 ++ cs2) ∧ Hid (rch k n cs1 cs2 = rch k n [] cs) ∧ i = .int .i64 (cs1.length : Nat) ∧ Hid (Row4 wr w4.heap.size (.int .i64 ((flat cs1).length : Nat)) (.int .i64 (kP cs1)) (.int .i64 (kU cs1)) (.int .i64 (kL cs1))) ∧ Below w4.heap.size w4 wr) (fun i _ => cs.length - (intOf i).toNat)
      case atStart =>
        exact ⟨[], cs, rfl, rfl, rfl, Row4.new w4 _ _ _ _, (Below.refl _ _).alloc (Nat.le_refl _) _⟩
      case round =>
        obtain ⟨cs1, cs2, HC, HK, rfl, HA, hb⟩ := hrel
        have c0 := HA.out.c0; have c1 := HA.out.c1; have c2 := HA.out.c2; have c3 := HA.out.c3
        have hk := k_range cs1
        have HLen : Hid (cs.length = cs1.length + cs2.length) := by show _ = _; rw [HC.out, List.length_append]
        have hle : (cs1.length : Int) ≤ (cs.length : Int) := by have := HLen.out; omega
        have HGt : Hid (∀ W, Calls Tryz.prog 15 #[.agg #[.int .i64 ((flat cs1).length : Nat), .int .i64 (kP cs1), .int .i64 (kU cs1), .int .i64 (kL cs1)], .int .i64 k] W fun e w' => e = .returned (.int .i64 (kG k cs1)) ∧ Below W.heap.size W w') := fun W => refget_any k _ _ _ _ W
        by_cases hlt : kG k cs1 < n
        · have hne : (kG k cs1 == n) = false := by simp; omega
          have hngt : decide (n < kG k cs1) = false := by simp; omega
          cases cs2 with
          | nil =>
            exfalso
            have h1 := HN1.out
            have e := HC.out
            rw [List.append_nil] at e
            rw [e] at h1
            omega
          | cons c cs3 =>
            have hsc : scalar c := HG.out c (by rw [HC.out]; simp)
            have hel := enc_length c
            have hun := un_range c
            have hln := ln_range c
            have hll := HLen.out
            simp only [List.length_cons] at hll
            have hin : (cs1.length : Int) < (cs.length : Int) := by omega
            obtain ⟨gs, caps, hvv, hcells⟩ := strs_cells HOW.out (by intro e; rw [e] at hin; simp at hin; omega)
            injection hvv with hv1 hv2 hv3
            subst hv1
            have hcell := cell_later hb (hcells cs1.length (by omega))
            rw [HC.out, getD_mid] at hcell
            rw [Nat.zero_add] at hcell
            have HK2 : Hid (rch k n (cs1 ++ [c]) cs3 = rch k n [] cs) := by
              exact (rch_go hlt).symm.trans HK.out
            have HPl : Hid (∀ W, Calls Tryz.prog 32 #[.agg #[.int .i64 ((flat cs1).length : Nat), .int .i64 (kP cs1), .int .i64 (kU cs1), .int .i64 (kL cs1)], .agg #[.int .i64 ((enc c).length : Nat), .int .i64 1, .int .i64 (un c), .int .i64 (ln c)]] W fun e w' => e = .returned (.agg #[.int .i64 ((flat (cs1 ++ [c])).length : Nat), .int .i64 (kP (cs1 ++ [c])), .int .i64 (kU (cs1 ++ [c])), .int .i64 (kL (cs1 ++ [c]))]) ∧ Below W.heap.size W w') := by
              intro W
              have hk2 : kP cs1 ≤ 5000 := by unfold kP; omega
              have hb4 : ((flat cs1).length : Int) ≤ 20000 := by have := hk.2.2.2.2.2.2; unfold kB at this; omega
              have := refplus_step (flat cs1).length (enc c).length (kP cs1) (kU cs1) (kL cs1) (un c) (ln c) (by omega) W
              rw [show (flat cs1).length + (enc c).length = (flat (cs1 ++ [c])).length from by rw [flat_append, List.length_append]; simp [flat]] at this
              rw [← kP_one c, ← kU_one c, ← kL_one c, ← kP_append, ← kU_append, ← kL_append] at this
              rw [kP_one, kU_one, kL_one] at this
              exact this
            have HOn : Hid (∀ W, Calls Tryz.prog 33 #[.string (cacc (enc c))] W fun e w' => e = .returned (.agg #[.int .i64 ((enc c).length : Nat), .int .i64 1, .int .i64 (un c), .int .i64 (ln c)]) ∧ Below W.heap.size W w') := fun W => refone_any c hsc W
            have HC2 : Hid (cs = (cs1 ++ [c]) ++ cs3) := by show cs = _; rw [HC.out]; simp
            have HL3 : Hid ((cs1 ++ [c]).length = cs1.length + 1) := by show _ = _; simp
            clear HC HLen hk hsc hun hln hll hcells hv3 hv2 HK HR
            generalize kG k cs1 = gk at *
            go_wp2_with fail
            refine (HGt.out _).mono ?_
            rintro e w5 ⟨rfl, b5⟩
            have HA1 := Hid.mk4 (HA.out.later b5 HA.out.lt)
            have hb1 := hb.trans (b5.mono hb.size)
            have hcell1 := cell_later b5 hcell
            clear c0 c1 c2 c3 HA hb b5 hcell
            have CF := Hid.mk4 (fun d os => Calls.regrown_of (HOn.out (grow (redrawn w5 d) os)))
            have CP := Hid.mk4 (fun d os => Calls.regrown_of (HPl.out (grow (redrawn w5 d) os)))
            have z0 := cell_regrown HA1.out.c0
            have z1 := cell_regrown HA1.out.c1
            have z2 := cell_regrown HA1.out.c2
            have z3 := cell_regrown HA1.out.c3
            have z4 := cell_regrown hcell1
            clear hcell1
            go_wp2
            refine wp_region_below_last (by kernel_rfl) (by kernel_rfl) (by kernel_rfl) ?_
            simp only [mute, idle, lastOf]
            repeat (go_big_quiet_step (first | (go_at_call 33; exact CF.out _ _) | (go_at_call 32; exact CP.out _ _)))
            refine wpQuiet_nil ?_
            intro _ hw'
            obtain ⟨⟨dq, osq⟩, hw''⟩ := hw'
            subst hw''
            have bq := below_regrown w5 dq osq
            have HA2 := Hid.mk4 (HA1.out.later bq HA1.out.lt)
            have hb2 := hb1.trans (bq.mono hb1.size)
            clear z0 z1 z2 z3 z4 CF CP HA1 hb1 bq
            generalize grow (redrawn w5 dq) osq = w6 at *
            have c0 := HA2.out.c0; have c1 := HA2.out.c1; have c2 := HA2.out.c2; have c3 := HA2.out.c3; have fz := HA2.out.fz
            go_wp2
            go_roundw
            case rel => exact ⟨cs1 ++ [c], cs3, HC2, HK2, by rw [HL3.out]; go_num, HA2.out.set _ _ _ _, below_set4 hb2 (Nat.le_refl _) _ _ _ _⟩
            case measure => simp [intOf]; omega
        · have hst := HR.out cs1 (HK.out.symm.trans (rch_halt hlt))
          have gb := g4.trans (hb.mono g4.size)
          have key : ((kG k cs1 == n) = true ∧ Hid (tB = ((flat cs1).length : Nat) ∧ tE = 0)) ∨ ((kG k cs1 == n) = false ∧ n < kG k cs1 ∧ (k == 0) = true ∧ Hid (tB = 0 ∧ tE = 11)) ∨ ((kG k cs1 == n) = false ∧ n < kG k cs1 ∧ (k == 0) = false ∧ Hid (tB = 0 ∧ tE = 50)) := by
            by_cases hq : kG k cs1 = n
            · exact Or.inl ⟨by simpa using hq, hst.1 hq⟩
            · have hg : n < kG k cs1 := by omega
              obtain ⟨e1, e2⟩ := hst.2 hg
              rcases e2 with ⟨e2, e3⟩ | ⟨e2, e3⟩
              · exact Or.inr (Or.inl ⟨by simpa using hq, hg, by simpa using e2, e1, e3⟩)
              · exact Or.inr (Or.inr ⟨by simpa using hq, hg, by simpa using e2, e1, e3⟩)
          clear hst HR HK HC HLen hlt hk HN1 HG
          generalize kG k cs1 = gk at *
          rcases key with ⟨h1, HH⟩ | ⟨h1, h2, h3, HH⟩ | ⟨h1, h2, h3, HH⟩
          all_goals
            obtain ⟨rfl, rfl⟩ := HH.out
            clear HH
            go_wp2_with fail
            refine (HGt.out _).mono ?_
            rintro e w5 ⟨rfl, b5⟩
            have e0 := cell_later b5 c0
            have g5 := gb.trans (b5.mono gb.size)
            clear c0 c1 c2 c3 b5
            go_wp2
            go_ret2
            exact ⟨rfl, g5⟩

/-- The reference's To. -/
theorem refto_any (s : ByteArray) (k n : Int) (w : World) (hs : s.size ≤ 5000) :
    Calls Tryz.prog 10 #[.string s, .int .i64 k, .int .i64 n] w fun e w' => e = .returned (.tuple #[.int .i64 (toB s k n), .int .i64 (toE s k n)]) ∧ Below w.heap.size w w' := by
  cases hc : ctb s k with
  | false =>
    have eB : toB s k n = 0 := by unfold toB; rw [if_pos hc]
    have eE : toE s k n = 12 := by unfold toE; rw [if_pos hc]
    rw [eB, eE]
    exact refto_form s k n w hs hc
  | true => exact refto_good s k n w hs hc
end Go.Proofs.YtfgefdkkjfjjjabGreatDoor
