/- count.reach, walked. -/
import Derived.Test.YtfgefdkkjfjjjabGreatDoorCountOf
namespace Go.Proofs.YtfgefdkkjfjjjabGreatDoor
open Go.RowKit Go.Sort

/-- What reach comes to. -/
def rch (k n : Int) : List Int → List Int → List Int
  | acc, [] => acc
  | acc, c :: cs => if kG k acc < n then rch k n (acc ++ [c]) cs else acc

set_option maxHeartbeats 1000000 in
set_option maxRecDepth 100000 in
/-- count.reach. -/
theorem reach_any (s : ByteArray) (cs : List Int) (k n : Int) (hg : Good cs) (hd : s.data.toList = flat cs) (hl : cs.length ≤ 1099511627776) (w : World) (tb : Nat × Nat) (hT : Tabs w tb) :
    Calls Tryz.prog 52 #[.string s, .agg #[.int .i64 ((flat cs).length : Nat), .int .i64 (kP cs), .int .i64 (kU cs), .int .i64 (kL cs)], .int .i64 k, .int .i64 n] w fun e w' => e = .returned (.agg #[.int .i64 ((flat (rch k n [] cs)).length : Nat), .int .i64 (kP (rch k n [] cs)), .int .i64 (kU (rch k n [] cs)), .int .i64 (kL (rch k n [] cs))]) ∧ Below w.heap.size w w' := by
  have HG : Hid (Good cs) := hg
  have HD : Hid (s.data.toList = flat cs) := hd
  clear hg hd
  obtain ⟨rc, hrc⟩ : ∃ rc, rc = rch k n [] cs := ⟨_, rfl⟩
  rw [← hrc]
  have HRC : Hid (rch k n [] cs = rc) := hrc.symm
  clear hrc
  obtain ⟨wB, hwB⟩ : ∃ x : Nat, x = (flat cs).length := ⟨_, rfl⟩
  obtain ⟨wP, hwP⟩ : ∃ x, x = kP cs := ⟨_, rfl⟩
  obtain ⟨wU, hwU⟩ : ∃ x, x = kU cs := ⟨_, rfl⟩
  obtain ⟨wL, hwL⟩ : ∃ x, x = kL cs := ⟨_, rfl⟩
  rw [← hwB, ← hwP, ← hwU, ← hwL]
  have HW : Hid (wB = (flat cs).length ∧ wP = kP cs ∧ wU = kU cs ∧ wL = kL cs) := ⟨hwB, hwP, hwU, hwL⟩
  clear hwB hwP hwU hwL
  have b0 : Below w.heap.size w (((w.alloc (Obj.cells #[.int .i64 wB, .int .i64 wP, .int .i64 wU, .int .i64 wL] 38)).alloc (Obj.cells #[.int .i64 0, .int .i64 0, .int .i64 0, .int .i64 0] 38)).alloc (Obj.cells #[.int .i64 0, .int .i64 0, .int .i64 0, .int .i64 0] 38)) := (((Below.refl _ _).alloc (Nat.le_refl _) _).alloc (by simp) _).alloc (by simp <;> omega) _
  have s0 : Row4 (((w.alloc (Obj.cells #[.int .i64 wB, .int .i64 wP, .int .i64 wU, .int .i64 wL] 38)).alloc (Obj.cells #[.int .i64 0, .int .i64 0, .int .i64 0, .int .i64 0] 38)).alloc (Obj.cells #[.int .i64 0, .int .i64 0, .int .i64 0, .int .i64 0] 38)) w.heap.size (.int .i64 wB) (.int .i64 wP) (.int .i64 wU) (.int .i64 wL) := ((Row4.new' rfl _ _ _ _).alloc _).alloc _
  have s1 : Row4 (((w.alloc (Obj.cells #[.int .i64 wB, .int .i64 wP, .int .i64 wU, .int .i64 wL] 38)).alloc (Obj.cells #[.int .i64 0, .int .i64 0, .int .i64 0, .int .i64 0] 38)).alloc (Obj.cells #[.int .i64 0, .int .i64 0, .int .i64 0, .int .i64 0] 38)) (w.heap.size + 1) (.int .i64 0) (.int .i64 0) (.int .i64 0) (.int .i64 0) := (Row4.new' (by simp) _ _ _ _).alloc _
  have s2 : Row4 (((w.alloc (Obj.cells #[.int .i64 wB, .int .i64 wP, .int .i64 wU, .int .i64 wL] 38)).alloc (Obj.cells #[.int .i64 0, .int .i64 0, .int .i64 0, .int .i64 0] 38)).alloc (Obj.cells #[.int .i64 0, .int .i64 0, .int .i64 0, .int .i64 0] 38)) (w.heap.size + 1 + 1) (.int .i64 0) (.int .i64 0) (.int .i64 0) (.int .i64 0) := Row4.new' (by simp) _ _ _ _
  have B0 := Hid.mk4 b0
  have S0 := Hid.mk4 s0
  have S1 := Hid.mk4 s1
  have S2 := Hid.mk4 s2
  clear b0 s0 s1 s2
  go_enter Tryz.func52, Tryz.ntmps52
  go_wp2
  go_loopw [] (fun wr => ∃ (cs1 cs2 : List Int), Hid (cs = cs1 ++ cs2) ∧ Hid (rch k n cs1 cs2 = rc) ∧ Hid (Row4 wr (w.heap.size + 1 + 1) (.int .i64 ((flat cs1).length : Nat)) (.int .i64 (kP cs1)) (.int .i64 (kU cs1)) (.int .i64 (kL cs1))) ∧ Hid (Row4 wr (w.heap.size + 1) (.int .i64 0) (.int .i64 0) (.int .i64 0) (.int .i64 0)) ∧ Hid (Row4 wr w.heap.size (.int .i64 wB) (.int .i64 wP) (.int .i64 wU) (.int .i64 wL)) ∧ Below w.heap.size w wr) (fun wr => s.size - cellNat wr (w.heap.size + 1 + 1))
  case atStart =>
    exact ⟨[], cs, rfl, HRC.out, S2.out, S1.out, S0.out, B0.out⟩
  case round =>
    clear B0 S0 S1 S2
    obtain ⟨cs1, cs2, HC, HK, HA, HR, HB, hb⟩ := hrel
    have c0 := HA.out.c0; have c1 := HA.out.c1; have c2 := HA.out.c2; have c3 := HA.out.c3
    have e0 := HB.out.c0; have e1 := HB.out.c1; have e2 := HB.out.c2; have e3 := HB.out.c3
    have HSZ : Hid (s.size = (flat cs1).length + (flat cs2).length) := by
      have := HD.out
      rw [HC.out, flat_append] at this
      show _ = _
      rw [← bytes_length, this, List.length_append]
    have hk := k_range cs1
    have hl1 : kP cs1 + (cs2.length : Int) ≤ 1099511627776 := by
      have e := HC.out
      have := congrArg List.length e
      rw [List.length_append] at this
      unfold kP
      omega
    cases cs2 with
    | nil =>
      have d0 := HR.out.c0; have d1 := HR.out.c1; have d2 := HR.out.c2; have d3 := HR.out.c3; have fr := HR.out.fz
      have hE := HC.out
      rw [List.append_nil] at hE
      subst hE
      obtain ⟨rfl, rfl, rfl, rfl⟩ := HW.out
      have hrl := HR.out.lt
      clear HSZ hk hl1
      have hK : rch k n cs [] = rc := HK.out
      unfold rch at hK
      subst hK
      go_wp2
      refine bodyPost_ret (results_row4 rfl _ _ (w.heap.size + 1) _ _ _ _ rfl (HR.out.set _ _ _ _)) rfl ⟨rfl, below_set4 hb (by omega) _ _ _ _⟩
    | cons c cs3 =>
      have hsc : scalar c := HG.out c (by rw [HC.out]; simp)
      have hel := enc_length c
      have hun := un_range c
      have hln := ln_range c
      have hlt2 : (flat cs1).length + (enc c).length ≤ s.size := by have := HSZ.out; rw [flat_cons, List.length_append] at this; omega
      have hwBs : wB = s.size := by rw [HW.out.1, ← HD.out]; rfl
      have hneq : ((flat cs1).length == wB) = false := by simp; omega
      have hneqZ : (((flat cs1).length : Int) == (wB : Int)) = false := by simp; omega
      have HWS : Hid (wB = s.size) := hwBs
      clear hwBs
      have HGet : Hid (∀ W, Calls Tryz.prog 49 #[.agg #[.int .i64 ((flat cs1).length : Nat), .int .i64 (kP cs1), .int .i64 (kU cs1), .int .i64 (kL cs1)], .int .i64 k] W fun e w' => e = .returned (.int .i64 (kG k cs1)) ∧ Below W.heap.size W w') := fun W => get_any k _ _ _ _ W
      have HKS : Hid (rch k n cs1 (c :: cs3) = if kG k cs1 < n then rch k n (cs1 ++ [c]) cs3 else cs1) := rfl
      generalize kG k cs1 = gk at *
      by_cases hlt : gk < n
      · have hfl : (flat cs1).length ≤ 4398046511104 := by
          unfold kB at hk
          simp at hl1
          omega
        have HK2 : Hid (rch k n (cs1 ++ [c]) cs3 = rc) := by
          have := HKS.out
          rw [if_pos hlt] at this
          exact this.symm.trans HK.out
        have hd2 : (s.extract (flat cs1).length s.size).data.toList = enc c ++ flat cs3 := by
          rw [extract_bytes, HD.out, HC.out, flat_append, flat_cons, List.drop_left' rfl, List.take_of_length_le]
          have := HSZ.out
          rw [flat_cons] at this
          omega
        have HF : Hid (∀ W, Tabs W tb → Calls Tryz.prog 72 #[.string (s.extract (flat cs1).length s.size)] W fun e w' => e = .returned (.agg #[.int .i64 ((enc c).length : Nat), .int .i64 1, .int .i64 (un c), .int .i64 (ln c)]) ∧ Below W.heap.size W w') := fun W h => first_any _ c (flat cs3) hsc hd2 W tb h
        have HP : Hid (∀ W, Calls Tryz.prog 71 #[.agg #[.int .i64 ((flat cs1).length : Nat), .int .i64 (kP cs1), .int .i64 (kU cs1), .int .i64 (kL cs1)], .agg #[.int .i64 ((enc c).length : Nat), .int .i64 1, .int .i64 (un c), .int .i64 (ln c)]] W fun e w' => e = .returned (.agg #[.int .i64 ((flat (cs1 ++ [c])).length : Nat), .int .i64 (kP (cs1 ++ [c])), .int .i64 (kU (cs1 ++ [c])), .int .i64 (kL (cs1 ++ [c]))]) ∧ Below W.heap.size W w') := by
          intro W
          have := plus_step (flat cs1).length (enc c).length (kP cs1) (kU cs1) (kL cs1) (un c) (ln c) (by simp at hl1; omega) W
          rw [show (flat cs1).length + (enc c).length = (flat (cs1 ++ [c])).length from by rw [flat_append, List.length_append]; simp [flat]] at this
          rw [← kP_one c, ← kU_one c, ← kL_one c, ← kP_append, ← kU_append, ← kL_append] at this
          rw [kP_one, kU_one, kL_one] at this
          exact this
        have HL2 : Hid ((flat (cs1 ++ [c])).length = (flat cs1).length + (enc c).length) := by show _ = _; rw [flat_append, List.length_append]; simp [flat]
        have hin : ((flat cs1).length : Int) < (s.size : Int) := by omega
        have hts : s.size ≤ 4398046511104 := by
          have := HSZ.out
          have h1 := (flat_length_ge (c :: cs3)).2
          have h2 := (flat_length_ge cs1).2
          unfold kP at hl1
          omega
        have HC2 : Hid (cs = (cs1 ++ [c]) ++ cs3) := by show cs = _; rw [HC.out]; simp
        have hm : Hid (cellNat wr (w.heap.size + 1 + 1) = (flat cs1).length) := cellNat_of HA.out
        clear hd2 HC HSZ hk hl1 hsc hun hln HK HKS
        go_wp2_with fail
        refine (HGet.out _).mono ?_
        rintro e w2 ⟨rfl, b2⟩
        have HA1 := Hid.mk4 (HA.out.later b2 HA.out.lt)
        have HR1 := Hid.mk4 (HR.out.later b2 HR.out.lt)
        have HB1 := Hid.mk4 (HB.out.later b2 HB.out.lt)
        have hb1 := hb.trans (b2.mono hb.size)
        have tr := hT.later hb1
        have CF : Hid (∀ d os, Calls Tryz.prog 72 #[.string (s.extract (flat cs1).length s.size)] (grow (redrawn w2 d) os) fun e w'' => e = .returned (.agg #[.int .i64 ((enc c).length : Nat), .int .i64 1, .int .i64 (un c), .int .i64 (ln c)]) ∧ ∃ p : Regrown, w'' = grow (redrawn w2 p.d) p.os) :=
          fun d os => Calls.regrown_of (HF.out _ (tr.later (below_regrown w2 d os)))
        have CP : Hid (∀ d os, Calls Tryz.prog 71 #[.agg #[.int .i64 ((flat cs1).length : Nat), .int .i64 (kP cs1), .int .i64 (kU cs1), .int .i64 (kL cs1)], .agg #[.int .i64 ((enc c).length : Nat), .int .i64 1, .int .i64 (un c), .int .i64 (ln c)]] (grow (redrawn w2 d) os) fun e w'' => e = .returned (.agg #[.int .i64 ((flat (cs1 ++ [c])).length : Nat), .int .i64 (kP (cs1 ++ [c])), .int .i64 (kU (cs1 ++ [c])), .int .i64 (kL (cs1 ++ [c]))]) ∧ ∃ p : Regrown, w'' = grow (redrawn w2 p.d) p.os) :=
          fun d os => Calls.regrown_of (HP.out _)
        clear c0 c1 c2 c3 e0 e1 e2 e3 HA HR HB hb b2
        have z0 := cell_regrown HA1.out.c0
        have z1 := cell_regrown HA1.out.c1
        have z2 := cell_regrown HA1.out.c2
        have z3 := cell_regrown HA1.out.c3
        go_wp2
        refine wp_region_below_last (by kernel_rfl) (by kernel_rfl) (by kernel_rfl) ?_
        simp only [mute, idle, lastOf]
        repeat (go_big_quiet_step (first | (go_at_call 72; exact CF.out _ _) | (go_at_call 71; exact CP.out _ _)))
        refine wpQuiet_nil ?_
        intro _ hw'
        obtain ⟨⟨dq, osq⟩, hw''⟩ := hw'
        subst hw''
        have bq := below_regrown w2 dq osq
        have HA2 := Hid.mk4 (HA1.out.later bq HA1.out.lt)
        have HR2 := Hid.mk4 (HR1.out.later bq HR1.out.lt)
        have HB2 := Hid.mk4 (HB1.out.later bq HB1.out.lt)
        have hb2 := hb1.trans (bq.mono hb1.size)
        clear z0 z1 z2 z3 CF CP HA1 HR1 HB1 hb1 bq tr
        generalize grow (redrawn w2 dq) osq = w6 at *
        have c0 := HA2.out.c0; have c1 := HA2.out.c1; have c2 := HA2.out.c2; have c3 := HA2.out.c3; have fz := HA2.out.fz
        go_wp2
        go_roundw
        case rel => exact ⟨cs1 ++ [c], cs3, HC2, HK2, HA2.out.set _ _ _ _, HR2.out.other (by omega) _ _ _ _, HB2.out.other (by omega) _ _ _ _, below_set4 hb2 (by omega) _ _ _ _⟩
        case measure =>
          rw [cellNat_of (HA2.out.set _ _ _ _), hm.out, HL2.out]
          omega
      · have hK : cs1 = rc := by
          have := HKS.out
          rw [if_neg hlt] at this
          exact this.symm.trans HK.out
        subst hK
        have hnl : decide (gk < n) = false := by simpa using hlt
        clear HK HKS HSZ hk hl1 hsc hun hln hlt HC
        go_wp2_with fail
        refine (HGet.out _).mono ?_
        rintro e w2 ⟨rfl, b2⟩
        have HA1 := Hid.mk4 (HA.out.later b2 HA.out.lt)
        have HR1 := Hid.mk4 (HR.out.later b2 HR.out.lt)
        have hb1 := hb.trans (b2.mono hb.size)
        clear c0 c1 c2 c3 e0 e1 e2 e3 HA HR HB hb b2
        have c0 := HA1.out.c0; have c1 := HA1.out.c1; have c2 := HA1.out.c2; have c3 := HA1.out.c3
        have d0 := HR1.out.c0; have d1 := HR1.out.c1; have d2 := HR1.out.c2; have d3 := HR1.out.c3; have fr := HR1.out.fz
        go_wp2
        refine bodyPost_ret (results_row4 rfl _ _ (w.heap.size + 1) _ _ _ _ rfl (HR1.out.set _ _ _ _)) rfl ⟨rfl, below_set4 hb1 (by omega) _ _ _ _⟩
end Go.Proofs.YtfgefdkkjfjjjabGreatDoor
