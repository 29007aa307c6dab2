/- count.Of, walked: what it answers at every text. -/
import Derived.Test.YtfgefdkkjfjjjabGreatDoorCount
import Derived.Test.YtfgefdkkjfjjjabGreatDoorClean
import Derived.Deep.QuietTactic
import Derived.BigQuiet
namespace Go.Proofs.YtfgefdkkjfjjjabGreatDoor
open Go.RowKit Go.Sort

/-- The number in a block's first cell. -/
def cellNat (w : World) (g : Nat) : Nat := match w.cell? ⟨g, 0, none⟩ with | some (.int _ b) => b.toNat | _ => 0
theorem cellNat_of {w : World} {g : Nat} {k : IntKind} {n : Nat} {x1 x2 x3 : Value} (h : Row4 w g (.int k (n : Nat)) x1 x2 x3) : cellNat w g = n := by
  unfold cellNat; rw [h.c0]; simp

/-- The four counts of a text, as a value. -/
theorem plus_step (n m : Nat) (p u l u' l' : Int) (h : (n : Int) + m ≤ 1000000000000000 ∧ 0 ≤ p ∧ p ≤ 1000000000000000 ∧ 0 ≤ u ∧ u ≤ 1000000000000000 ∧ 0 ≤ l ∧ l ≤ 1000000000000000 ∧ 0 ≤ u' ∧ u' ≤ 2 ∧ 0 ≤ l' ∧ l' ≤ 1) (w : World) :
    Calls Tryz.prog 71 #[.agg #[.int .i64 (n : Nat), .int .i64 p, .int .i64 u, .int .i64 l], .agg #[.int .i64 (m : Nat), .int .i64 1, .int .i64 u', .int .i64 l']] w fun e w' => e = .returned (.agg #[.int .i64 ((n + m : Nat) : Int), .int .i64 (p + 1), .int .i64 (u + u'), .int .i64 (l + l')]) ∧ Below w.heap.size w w' := by
  have := plus_any n p u l m 1 u' l' w
  rw [show wrap64 ((n : Int) + m) = ((n + m : Nat) : Int) from by unfold wrap64; omega, show wrap64 (p + 1) = p + 1 from by unfold wrap64; omega, show wrap64 (u + u') = u + u' from by unfold wrap64; omega, show wrap64 (l + l') = l + l' from by unfold wrap64; omega] at this
  exact this

set_option maxHeartbeats 1000000 in
set_option maxRecDepth 100000 in
/-- count.Of. -/
theorem of_any (s : ByteArray) (w : World) (tb : Nat × Nat) (hs : s.size ≤ 1099511627776) (hT : Tabs w tb) :
    Calls Tryz.prog 51 #[.string s] w fun e w' => e = .returned (.agg #[.int .i64 (kB (pts s.data.toList)), .int .i64 (kP (pts s.data.toList)), .int .i64 (kU (pts s.data.toList)), .int .i64 (kL (pts s.data.toList))]) ∧ Below w.heap.size w w' := by
  have hcl := clean_any s
  have hpl := pts_length s.data.toList
  rw [bytes_length] at hpl
  obtain ⟨cs, hcs⟩ : ∃ cs, cs = pts s.data.toList := ⟨_, rfl⟩
  obtain ⟨t, ht⟩ : ∃ t : ByteArray, t = ⟨(cln s.data.toList).toArray⟩ := ⟨_, rfl⟩
  have HG : Hid (Good cs) := by rw [hcs]; exact good_pts' _
  have HD : Hid (t.data.toList = flat cs) := by show _ = _; rw [ht, hcs]; rfl
  have HCL : Hid (∀ W, Tab W tb → Calls Tryz.prog 17 #[.string s] W fun e w' => e = .returned (.string t) ∧ Below W.heap.size W w') := fun W h => by rw [ht]; exact clean_any s W tb hs h
  rw [← hcs] at hpl ⊢
  have hcl4 : cs.length ≤ 1099511627776 := by omega
  clear hcl hcs ht hpl
  have b0 : Below w.heap.size w (w.alloc (Obj.cells #[.int .i64 0, .int .i64 0, .int .i64 0, .int .i64 0] 38)) := (Below.refl _ _).alloc (Nat.le_refl _) _
  go_enter Tryz.func51, Tryz.ntmps51
  go_wp2_with fail
  refine (HCL.out _ (hT.later b0).own).mono ?_
  rintro e w1 ⟨rfl, b1⟩
  have r1 : Row4 w1 w.heap.size (.int .i64 0) (.int .i64 0) (.int .i64 0) (.int .i64 0) := (Row4.new w _ _ _ _).later b1 (by simp)
  have g1 := b0.trans (b1.mono b0.size)
  have R1 := Hid.mk4 r1
  have hlt := r1.lt
  clear r1 b0 b1
  go_wp2
  go_loopw [] (fun wr => ∃ (cs1 cs2 : List Int), Hid (cs = cs1 ++ cs2) ∧ Hid (Row4 wr w1.heap.size (.int .i64 ((flat cs1).length : Nat)) (.int .i64 (kP cs1)) (.int .i64 (kU cs1)) (.int .i64 (kL cs1))) ∧ Hid (Row4 wr w.heap.size (.int .i64 0) (.int .i64 0) (.int .i64 0) (.int .i64 0)) ∧ Below w.heap.size w wr) (fun wr => t.size - cellNat wr w1.heap.size)
  case atStart =>
    exact ⟨[], cs, rfl, Row4.new w1 _ _ _ _, R1.out.alloc _, g1.alloc g1.size _⟩
  case round =>
    obtain ⟨cs1, cs2, HC, HA, HR, hb⟩ := hrel
    have c0 := HA.out.c0; have c1 := HA.out.c1; have c2 := HA.out.c2; have c3 := HA.out.c3; have fz := HA.out.fz
    have HSZ : Hid (t.size = (flat cs1).length + (flat cs2).length) := by
      have := HD.out
      rw [HC.out, flat_append] at this
      show _ = _
      rw [← bytes_length, this, List.length_append]
    have hk := k_range cs1
    have hl1 : kP cs1 + (cs2.length : Int) ≤ 1099511627776 := by
      have e := HC.out
      have := congrArg List.length e
      rw [List.length_append] at this
      unfold kP
      omega
    cases cs2 with
    | nil =>
      have d0 := HR.out.c0; have d1 := HR.out.c1; have d2 := HR.out.c2; have d3 := HR.out.c3; have fr := HR.out.fz
      have hend : ¬ ((flat cs1).length : Int) < (t.size : Int) := by have := HSZ.out; simp [flat_nil] at this; omega
      have hE := HC.out
      rw [List.append_nil] at hE
      subst hE
      have hrl := HR.out.lt
      clear HSZ hk hl1
      go_wp2
      refine bodyPost_ret (results_row4 rfl _ _ w.heap.size _ _ _ _ rfl (HR.out.set _ _ _ _)) rfl ⟨rfl, below_set4 hb (Nat.le_refl _) _ _ _ _⟩
    | cons c cs3 =>
      have hsc : scalar c := HG.out c (by rw [HC.out]; simp)
      have hel := enc_length c
      have hun := un_range c
      have hln := ln_range c
      have hlt2 : (flat cs1).length + (enc c).length ≤ t.size := by have := HSZ.out; rw [flat_cons, List.length_append] at this; omega
      have hfl : (flat cs1).length ≤ 4398046511104 := by
        unfold kB at hk
        simp at hl1
        omega
      have hd2 : (t.extract (flat cs1).length t.size).data.toList = enc c ++ flat cs3 := by
        rw [extract_bytes, HD.out, HC.out, flat_append, flat_cons, List.drop_left' rfl, List.take_of_length_le]
        have := HSZ.out
        rw [flat_cons] at this
        omega
      have tr := hT.later hb
      have CF : Hid (∀ d os, Calls Tryz.prog 72 #[.string (t.extract (flat cs1).length t.size)] (grow (redrawn wr d) os) fun e w'' => e = .returned (.agg #[.int .i64 ((enc c).length : Nat), .int .i64 1, .int .i64 (un c), .int .i64 (ln c)]) ∧ ∃ p : Regrown, w'' = grow (redrawn wr p.d) p.os) :=
        fun d os => Calls.regrown_of (first_any _ c (flat cs3) hsc hd2 _ tb (tr.later (below_regrown wr d os)))
      have CP : Hid (∀ d os, Calls Tryz.prog 71 #[.agg #[.int .i64 ((flat cs1).length : Nat), .int .i64 (kP cs1), .int .i64 (kU cs1), .int .i64 (kL cs1)], .agg #[.int .i64 ((enc c).length : Nat), .int .i64 1, .int .i64 (un c), .int .i64 (ln c)]] (grow (redrawn wr d) os) fun e w'' => e = .returned (.agg #[.int .i64 ((flat (cs1 ++ [c])).length : Nat), .int .i64 (kP (cs1 ++ [c])), .int .i64 (kU (cs1 ++ [c])), .int .i64 (kL (cs1 ++ [c]))]) ∧ ∃ p : Regrown, w'' = grow (redrawn wr p.d) p.os) := by
        intro d os
        have := plus_step (flat cs1).length (enc c).length (kP cs1) (kU cs1) (kL cs1) (un c) (ln c) (by simp at hl1; omega) (grow (redrawn wr d) os)
        rw [show (flat cs1).length + (enc c).length = (flat (cs1 ++ [c])).length from by rw [flat_append, List.length_append]; simp [flat]] at this
        rw [← kP_one c, ← kU_one c, ← kL_one c, ← kP_append, ← kU_append, ← kL_append] at this
        rw [kP_one, kU_one, kL_one] at this
        exact Calls.regrown_of this
      have HL2 : Hid ((flat (cs1 ++ [c])).length = (flat cs1).length + (enc c).length) := by show _ = _; rw [flat_append, List.length_append]; simp [flat]
      have hin : ((flat cs1).length : Int) < (t.size : Int) := by omega
      have hts : t.size ≤ 4398046511104 := by
        have := HSZ.out
        have h1 := (flat_length_ge (c :: cs3)).2
        have h2 := (flat_length_ge cs1).2
        unfold kP at hl1
        omega
      have z0 := cell_regrown c0
      have z1 := cell_regrown c1
      have z2 := cell_regrown c2
      have z3 := cell_regrown c3
      have HC2 : Hid (cs = (cs1 ++ [c]) ++ cs3) := by show cs = _; rw [HC.out]; simp
      clear hd2 HC HSZ hk hl1 hsc hun hln
      go_wp2
      refine wp_region_below_last (by kernel_rfl) (by kernel_rfl) (by kernel_rfl) ?_
      simp only [mute, idle, lastOf]
      clear c0 c1 c2 c3 fz
      repeat (go_big_quiet_step (first | (go_at_call 72; exact CF.out _ _) | (go_at_call 71; exact CP.out _ _)))
      refine wpQuiet_nil ?_
      intro _ hw'
      obtain ⟨⟨dq, osq⟩, hw''⟩ := hw'
      subst hw''
      have bq := below_regrown wr dq osq
      have HA2 := Hid.mk4 (HA.out.later bq HA.out.lt)
      have HR2 := Hid.mk4 (HR.out.later bq HR.out.lt)
      have hb2 := hb.trans (bq.mono hb.size)
      have hm : Hid (cellNat wr w1.heap.size = (flat cs1).length) := cellNat_of HA.out
      clear z0 z1 z2 z3 CF CP HA HR hb bq tr
      generalize grow (redrawn wr dq) osq = w6 at *
      have c0 := HA2.out.c0; have c1 := HA2.out.c1; have c2 := HA2.out.c2; have c3 := HA2.out.c3; have fz := HA2.out.fz
      go_wp2
      go_roundw
      case rel => exact ⟨cs1 ++ [c], cs3, HC2, HA2.out.set _ _ _ _, HR2.out.other (by omega) _ _ _ _, below_set4 hb2 (by omega) _ _ _ _⟩
      case measure =>
        rw [cellNat_of (HA2.out.set _ _ _ _), hm.out, HL2.out]
        omega
end Go.Proofs.YtfgefdkkjfjjjabGreatDoor
