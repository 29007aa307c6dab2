/- The reference's Put. -/
import Derived.Test.YtmgjfmgkmlfjeaaDoorSpRefIs
import Derived.Test.YtmgjfmgkmlfjeaaDoorSpRefFew
import Derived.Test.YtmgjfmgkmlfjeaaDoorSpPutG
namespace Go.Proofs.YtmgjfmgkmlfjeaaDoor
open Go.RowKit Go.Sort
set_option linter.unusedSimpArgs false
set_option linter.unusedVariables false

theorem lefS_take {F : Int} {L : List Sp} {k : Nat} {x y z : Int} (h : L[k]? = some (x, y, z)) : lefS F (L.take (k + 1)) = lefS F (L.take k) ++ [(x, min y F, z)] := by
  rw [take15 h]; unfold lefS; rw [List.map_append]; rfl
theorem rigS_take {T : Int} {L : List Sp} {k : Nat} {x y z : Int} (h : L[k]? = some (x, y, z)) : rigS T (L.take (k + 1)) = rigS T (L.take k) ++ [(max x T, y, z)] := by
  rw [take15 h]; unfold rigS; rw [List.map_append]; rfl
theorem lefS_len {F : Int} {L : List Sp} : (lefS F L).length = L.length := by simp [lefS]
theorem rigS_len {T : Int} {L : List Sp} : (rigS T L).length = L.length := by simp [rigS]
theorem toP_no {F T S : Int} (h : ¬ (0 ≤ S ∧ S ≤ 100 ∧ 0 ≤ F ∧ F ≤ T ∧ T ≤ 20000)) : toP (F, T, S) = false := by
  cases e : toP (F, T, S) with
  | false => rfl
  | true => exact absurd (toP_spec.1 e) h
set_option maxHeartbeats 8000000 in
set_option maxRecDepth 100000 in
theorem rput_any15 {w : World} {v : Value} {L : List Sp} (x y z : Int) (h : SpAt w v L) :
    Calls Tryd.prog 8 #[v, .agg #[.int .i64 x, .int .i64 y, .int .i64 z]] w fun e w' => ∃ v', e = .returned (.tuple #[v', .int .i64 (putE L (x, y, z))]) ∧ SpAt w' v' (putL L (x, y, z)) ∧ Below w.heap.size w w' := by
  have b0 := below15 (Below.refl w.heap.size w) (.cells #[.int .i64 x, .int .i64 y, .int .i64 z] 24)
  have HP0 := Hid.mk7 (Rt.new 24 w (.int .i64 x) (.int .i64 y) (.int .i64 z))
  have HV0 := Hid.mk7 (h.later b0)
  have HB0 := Hid.mk7 b0
  have HIS := Hid.mk7 (ris15_any 20000 HV0.out)
  have p0 := HP0.out.c0
  have p1 := HP0.out.c1
  have p2 := HP0.out.c2
  clear h b0
  cases hi : isS 20000 L with
  | false =>
    obtain ⟨e1, e2⟩ := putE_no (l := L) (x := (x, y, z)) (by simp [hi])
    rw [hi] at HIS
    have E1 := Hid.mk7 e1
    have E2 := Hid.mk7 e2
    clear e1 e2 hi
    go_enter Tryd.func8, Tryd.ntmps8
    go_wp2_with fail
    refine HIS.out.mono ?_
    rintro e w1 ⟨rfl, b1⟩
    have HB1 := Hid.mk7 (HB0.out.trans (b1.mono HB0.out.size))
    clear b1 HIS p0 p1 p2
    go_wp2
    go_ret2
    exact ⟨_, tup15 E1.out.symm, nil_put E2.out, HB1.out⟩
  | true =>
    rw [hi] at HIS
    obtain ⟨hlen, hoks⟩ := isS_spec.1 hi
    go_enter Tryd.func8, Tryd.ntmps8
    go_wp2_with fail
    refine HIS.out.mono ?_
    rintro e w1 ⟨rfl, b1⟩
    have HB1 := Hid.mk7 (HB0.out.trans (b1.mono HB0.out.size))
    have HP1 := Hid.mk7 (HP0.out.later b1)
    have HV1 := Hid.mk7 (HV0.out.later b1)
    clear b1 HIS p0 p1 p2 HB0 HP0 HV0
    have p0 := HP1.out.c0
    have p1 := HP1.out.c1
    have p2 := HP1.out.c2
    by_cases h0 : z < 0
    · have s0 : decide (z < 0) = true := decide_eq_true h0
      obtain ⟨e1, e2⟩ := putE_no (l := L) (x := (x, y, z)) (by rw [toP_no (by omega)]; simp)
      have E1 := Hid.mk7 e1
      have E2 := Hid.mk7 e2
      clear e1 e2 hi
      go_wp2
      go_ret2
      exact ⟨_, tup15 E1.out.symm, nil_put E2.out, HB1.out⟩
    have s0 : decide (z < 0) = false := decide_eq_false h0
    by_cases h1 : 100 < z
    · have s1 : decide (100 < z) = true := decide_eq_true h1
      obtain ⟨e1, e2⟩ := putE_no (l := L) (x := (x, y, z)) (by rw [toP_no (by omega)]; simp)
      have E1 := Hid.mk7 e1
      have E2 := Hid.mk7 e2
      clear e1 e2 hi
      go_wp2
      go_ret2
      exact ⟨_, tup15 E1.out.symm, nil_put E2.out, HB1.out⟩
    have s1 : decide (100 < z) = false := decide_eq_false h1
    by_cases h2 : x < 0
    · have s2 : decide (x < 0) = true := decide_eq_true h2
      obtain ⟨e1, e2⟩ := putE_no (l := L) (x := (x, y, z)) (by rw [toP_no (by omega)]; simp)
      have E1 := Hid.mk7 e1
      have E2 := Hid.mk7 e2
      clear e1 e2 hi
      go_wp2
      go_ret2
      exact ⟨_, tup15 E1.out.symm, nil_put E2.out, HB1.out⟩
    have s2 : decide (x < 0) = false := decide_eq_false h2
    by_cases h3 : y < x
    · have s3 : decide (y < x) = true := decide_eq_true h3
      obtain ⟨e1, e2⟩ := putE_no (l := L) (x := (x, y, z)) (by rw [toP_no (by omega)]; simp)
      have E1 := Hid.mk7 e1
      have E2 := Hid.mk7 e2
      clear e1 e2 hi
      go_wp2
      go_ret2
      exact ⟨_, tup15 E1.out.symm, nil_put E2.out, HB1.out⟩
    have s3 : decide (y < x) = false := decide_eq_false h3
    by_cases h4 : 20000 < y
    · have s4 : decide (20000 < y) = true := decide_eq_true h4
      obtain ⟨e1, e2⟩ := putE_no (l := L) (x := (x, y, z)) (by rw [toP_no (by omega)]; simp)
      have E1 := Hid.mk7 e1
      have E2 := Hid.mk7 e2
      clear e1 e2 hi
      go_wp2
      go_ret2
      exact ⟨_, tup15 E1.out.symm, nil_put E2.out, HB1.out⟩
    have s4 : decide (20000 < y) = false := decide_eq_false h4
    have hto : toP (x, y, z) = true := toP_spec.2 (by omega)
    have hok : isS 20000 L = true ∧ toP (x, y, z) = true := ⟨hi, hto⟩
    by_cases hxy : x = y
    · have sx : (x == y) = true := by simpa using hxy
      have hpe : putS L (x, y, z) = L := by unfold putS; rw [if_pos hxy]
      obtain ⟨e1, e2⟩ := putE_ok hok (by rw [hpe]; exact hlen)
      rw [hpe] at e2
      have E1 := Hid.mk7 e1
      have E2 := Hid.mk7 e2
      clear e1 e2 hi hto hok hpe hxy hoks
      go_wp2
      go_ret2
      exact ⟨_, tup15 E1.out.symm, by rw [E2.out]; exact HV1.out, HB1.out⟩
    have sx : (x == y) = false := by simpa using hxy
    have HPE : Hid (fewS (lefS x L ++ (x, y, z) :: rigS y L) = putS L (x, y, z)) := by show _ = _; unfold putS cutS; rw [if_neg hxy]
    have HOK := Hid.mk7 hok
    obtain ⟨i0, hi0, hz0, hz1, hz2⟩ := info_parts Tryd.info_sp
    obtain ⟨a, cap, rfl, hcap, _, hcells⟩ := HV1.out
    have HC := Hid.mk7 hcells
    have HI := Hid.mk7 hi0
    have hw1 := HP1.out.lt
    clear hi hto hok hxy hoks h0 h1 h2 h3 h4 HV1 hcells hi0
    go_wp2
    clear s0 s1 s2 s3 s4 sx
    go_loopw [6, 7] (fun av iv wr => ∃ k : Nat, k ≤ L.length ∧ iv = .int .i64 (k : Nat) ∧ Hid (OwnP 24 wr w1.heap.size av (lefS x (L.take k))) ∧ Hid (Rt 24 wr w.heap.size (.int .i64 x) (.int .i64 y) (.int .i64 z)) ∧ Below w1.heap.size w1 wr) (fun _ iv _ => L.length - (intOf iv).toNat)
    case atStart => exact ⟨0, Nat.zero_le _, rfl, OwnP.nil _ _ _, HP1, Below.refl _ _⟩
    case round =>
      obtain ⟨k, hk, rfl, HO, HPW, hb⟩ := hrel
      have hfl : (lefS x (L.take k)).length ≤ 1000 := by rw [lefS_len]; simp; omega
      by_cases hlt : k < L.length
      · obtain ⟨⟨x', y', z'⟩, hr⟩ : ∃ r, L[k]? = some r := ⟨L[k], List.getElem?_eq_getElem hlt⟩
        obtain ⟨g, off, rfl, q0, q1, q2⟩ := HC.out k _ hr
        have c0 := cell_later7 hb (Nat.le_refl _) q0
        have c1 := cell_later7 hb (Nat.le_refl _) q1
        have c2 := cell_later7 hb (Nat.le_refl _) q2
        simp only at c0 c1 c2
        have HTK : Hid (lefS x (L.take (k + 1)) = lefS x (L.take k) ++ [(x', min y' x, z')]) := by show _ = _; rw [lefS_take hr]
        have hsz := hb.size
        have HP1' := Hid.mk7 (HPW.out.alloc (.cells #[.int .i64 x', .int .i64 y', .int .i64 z'] 24))
        have HQ1 := Hid.mk7 (Rt.new 24 wr (.int .i64 x') (.int .i64 y') (.int .i64 z'))
        have HO1 := Hid.mk7 (HO.out.alloc (.cells #[.int .i64 x', .int .i64 y', .int .i64 z'] 24))
        have HB2 := Hid.mk7 (below15 hb (.cells #[.int .i64 x', .int .i64 y', .int .i64 z'] 24))
        have HLTP := Hid.mk7 HPW.out.lt
        clear q0 q1 q2 hr HO HPW p0 p1 p2
        have hsz2 := HB2.out.size
        have p0 := HP1'.out.c0
        have p1 := HP1'.out.c1
        have r0 := HQ1.out.c0
        have r1 := HQ1.out.c1
        have r2 := HQ1.out.c2
        have hltW := HP1'.out.lt
        by_cases hm : y' ≤ x
        · have t0 : decide (y' ≤ x) = true := decide_eq_true hm
          have t1 : decide (x < y') = false := decide_eq_false (by omega)
          have t2 : min y' x = y' := Int.min_eq_left hm
          rw [t2] at HTK
          clear t2
          go_wp2_with (at_builtin; refine wpList_append_own _ rfl _ _ 22 rfl w1.heap.size 24 i0 (.agg #[.int .i64 0, .int .i64 0, .int .i64 0]) 3 24 Tryd.underlying22 HI.out hz0 hz1 hz2 rfl (by decide) _ _ _ rfl (World.ownsRow.alloc HO1.out _) ⟨_, 0, none⟩ 1 1 [.int .i64 x', .int .i64 y', .int .i64 z'] rfl rfl (three15 (by simp) _ _ _ _) (fun u hu => by simp at hu; rcases hu with rfl | rfl | rfl <;> rfl) (by unfold maxLen; omega) (by omega) (by simp; omega) ?_)
          intro v' w4 hown' hgrow _
          have HO4 : Hid (OwnP 24 w4 w1.heap.size v' (lefS x (L.take (k + 1)))) := by
            show OwnP _ _ _ _ _
            rw [HTK.out]
            unfold OwnP
            rw [List.length_append, t3_append, t3_one]
            exact hown'
          have HP4 : Hid (Rt 24 w4 w.heap.size (.int .i64 x) (.int .i64 y) (.int .i64 z)) := by
            refine (hgrow.block w.heap.size ?_ ?_).trans (HP1'.out.alloc (.cells #[.int .i64 x', .int .i64 y', .int .i64 z'] 24))
            · exact (HP1'.out.alloc (.cells #[.int .i64 x', .int .i64 y', .int .i64 z'] 24)).lt
            · intro e
              have := (World.ownsRow.lt HO1.out _ e.symm).1
              omega
          have HB4 : Hid (Below w1.heap.size w1 w4) := (below15 HB2.out _).grown hgrow (by simp; omega) (fun j hj => (World.ownsRow.lt HO1.out j hj).1)
          clear HO1 HB2 hown' hgrow r0 r1 r2 p0 p1 HP1' HQ1
          go_wp2
          go_roundw
          case rel => exact ⟨k + 1, by omega, by go_num, HO4, HP4, HB4.out⟩
          case measure => simp [intOf]; omega
        · have t0 : decide (y' ≤ x) = false := decide_eq_false hm
          have t1 : decide (x < y') = true := decide_eq_true (by omega)
          have t2 : min y' x = x := Int.min_eq_right (by omega)
          rw [t2] at HTK
          clear t2
          go_wp2_with (at_builtin; refine wpList_append_own _ rfl _ _ 22 rfl w1.heap.size 24 i0 (.agg #[.int .i64 0, .int .i64 0, .int .i64 0]) 3 24 Tryd.underlying22 HI.out hz0 hz1 hz2 rfl (by decide) _ _ _ rfl (World.ownsRow.alloc HO1.out _) ⟨_, 0, none⟩ 1 1 [.int .i64 x', .int .i64 x, .int .i64 z'] rfl rfl (three15 (by simp) _ _ _ _) (fun u hu => by simp at hu; rcases hu with rfl | rfl | rfl <;> rfl) (by unfold maxLen; omega) (by omega) (by simp; omega) ?_)
          intro v' w4 hown' hgrow _
          have HO4 : Hid (OwnP 24 w4 w1.heap.size v' (lefS x (L.take (k + 1)))) := by
            show OwnP _ _ _ _ _
            rw [HTK.out]
            unfold OwnP
            rw [List.length_append, t3_append, t3_one]
            exact hown'
          have HP4 : Hid (Rt 24 w4 w.heap.size (.int .i64 x) (.int .i64 y) (.int .i64 z)) := by
            refine (hgrow.block w.heap.size ?_ ?_).trans (HP1'.out.alloc (.cells #[.int .i64 x', .int .i64 x, .int .i64 z'] 24))
            · exact (HP1'.out.alloc (.cells #[.int .i64 x', .int .i64 x, .int .i64 z'] 24)).lt
            · intro e
              have := (World.ownsRow.lt HO1.out _ e.symm).1
              omega
          have HB4 : Hid (Below w1.heap.size w1 w4) := (below15 HB2.out _).grown hgrow (by simp; omega) (fun j hj => (World.ownsRow.lt HO1.out j hj).1)
          clear HO1 HB2 hown' hgrow r0 r1 r2 p0 p1 HP1' HQ1
          go_wp2
          go_roundw
          case rel => exact ⟨k + 1, by omega, by go_num, HO4, HP4, HB4.out⟩
          case measure => simp [intOf]; omega
      · obtain rfl : k = L.length := by omega
        have HE : Hid (lefS x (L.take L.length) = lefS x L) := by show _ = _; rw [List.take_length]
        have HO1 : Hid (OwnP 24 wr w1.heap.size u6 (lefS x L)) := by show OwnP _ _ _ _ _; rw [← HE.out]; exact HO.out
        have hll : (lefS x L).length ≤ 1000 := by rw [lefS_len]; omega
        have HB2 := Hid.mk7 hb
        have q0 := HPW.out.c0
        have q1 := HPW.out.c1
        have q2 := HPW.out.c2
        have hltW := HPW.out.lt
        have hszW := hb.size
        clear HE HO hfl p0 p1 p2
        obtain ⟨R, hR⟩ : ∃ R, R = lefS x L := ⟨_, rfl⟩
        rw [← hR] at HO1 hll
        have HGR := Hid.mk7 hR
        clear hR
        go_wp2_with (at_builtin; refine wpList_append_own _ rfl _ _ 22 rfl w1.heap.size 24 i0 (.agg #[.int .i64 0, .int .i64 0, .int .i64 0]) 3 24 Tryd.underlying22 HI.out hz0 hz1 hz2 rfl (by decide) _ _ _ rfl (World.ownsRow.alloc HO1.out _) ⟨_, 0, none⟩ 1 1 [.int .i64 x, .int .i64 y, .int .i64 z] rfl rfl (three15 rfl _ _ _ _) (fun u hu => by simp at hu; rcases hu with rfl | rfl | rfl <;> rfl) (by unfold maxLen; omega) (by omega) (by simp; omega) ?_)
        intro v3 w3 hown' hgrow _
        have HO3 : Hid (OwnP 24 w3 w1.heap.size v3 (lefS x L ++ (x, y, z) :: rigS y (L.take 0))) := by
          show OwnP _ _ _ _ _
          rw [← HGR.out, show R ++ (x, y, z) :: rigS y (L.take 0) = R ++ [(x, y, z)] from rfl]
          unfold OwnP
          rw [List.length_append, t3_append, t3_one]
          exact hown'
        have HP3 : Hid (Rt 24 w3 w.heap.size (.int .i64 x) (.int .i64 y) (.int .i64 z)) := by
          refine (hgrow.block w.heap.size ?_ ?_).trans (HPW.out.alloc (.cells #[.int .i64 x, .int .i64 y, .int .i64 z] 24))
          · exact (HPW.out.alloc (.cells #[.int .i64 x, .int .i64 y, .int .i64 z] 24)).lt
          · intro e
            have := (World.ownsRow.lt HO1.out _ e.symm).1
            omega
        have HB3 : Hid (Below w1.heap.size w1 w3) := (below15 HB2.out _).grown hgrow (by simp; omega) (fun j hj => (World.ownsRow.lt HO1.out j hj).1)
        clear HO1 HB2 hown' hgrow q0 q1 q2 HPW HGR hltW hszW hb hll hk hlt
        go_wp2
        go_loopw [6, 9] (fun av iv wr => ∃ k : Nat, k ≤ L.length ∧ iv = .int .i64 (k : Nat) ∧ Hid (OwnP 24 wr w1.heap.size av (lefS x L ++ (x, y, z) :: rigS y (L.take k))) ∧ Hid (Rt 24 wr w.heap.size (.int .i64 x) (.int .i64 y) (.int .i64 z)) ∧ Below w1.heap.size w1 wr) (fun _ iv _ => L.length - (intOf iv).toNat)
        case atStart => exact ⟨0, Nat.zero_le _, rfl, HO3, HP3, HB3.out⟩
        case round =>
          obtain ⟨k, hk, rfl, HO, HPW, hb⟩ := hrel
          have hfl : (lefS x L ++ (x, y, z) :: rigS y (L.take k)).length ≤ 1000 := by rw [List.length_append, List.length_cons, lefS_len, rigS_len]; simp; omega
          by_cases hlt : k < L.length
          · obtain ⟨⟨x', y', z'⟩, hr⟩ : ∃ r, L[k]? = some r := ⟨L[k], List.getElem?_eq_getElem hlt⟩
            obtain ⟨g, off, rfl, q0, q1, q2⟩ := HC.out k _ hr
            have c0 := cell_later7 hb (Nat.le_refl _) q0
            have c1 := cell_later7 hb (Nat.le_refl _) q1
            have c2 := cell_later7 hb (Nat.le_refl _) q2
            simp only at c0 c1 c2
            have HTK : Hid (lefS x L ++ (x, y, z) :: rigS y (L.take (k + 1)) = lefS x L ++ (x, y, z) :: rigS y (L.take k) ++ [(max x' y, y', z')]) := by show _ = _; rw [rigS_take hr, ← List.cons_append, ← List.append_assoc]
            have hsz := hb.size
            have HP1' := Hid.mk7 (HPW.out.alloc (.cells #[.int .i64 x', .int .i64 y', .int .i64 z'] 24))
            have HQ1 := Hid.mk7 (Rt.new 24 wr (.int .i64 x') (.int .i64 y') (.int .i64 z'))
            have HO1 := Hid.mk7 (HO.out.alloc (.cells #[.int .i64 x', .int .i64 y', .int .i64 z'] 24))
            have HB2 := Hid.mk7 (below15 hb (.cells #[.int .i64 x', .int .i64 y', .int .i64 z'] 24))
            have HLTP := Hid.mk7 HPW.out.lt
            clear q0 q1 q2 hr HO HPW HO3 HP3 HB3
            have hsz2 := HB2.out.size
            have p0 := HP1'.out.c0
            have p1 := HP1'.out.c1
            have r0 := HQ1.out.c0
            have r1 := HQ1.out.c1
            have r2 := HQ1.out.c2
            have hltW := HP1'.out.lt
            by_cases hm : x' < y
            · have t0 : decide (x' < y) = true := decide_eq_true hm
              have t1 : decide (y ≤ x') = false := decide_eq_false (by omega)
              have t2 : max x' y = y := Int.max_eq_right (by omega)
              rw [t2] at HTK
              clear t2
              go_wp2_with (at_builtin; refine wpList_append_own _ rfl _ _ 22 rfl w1.heap.size 24 i0 (.agg #[.int .i64 0, .int .i64 0, .int .i64 0]) 3 24 Tryd.underlying22 HI.out hz0 hz1 hz2 rfl (by decide) _ _ _ rfl (World.ownsRow.alloc HO1.out _) ⟨_, 0, none⟩ 1 1 [.int .i64 y, .int .i64 y', .int .i64 z'] rfl rfl (three15 (by simp) _ _ _ _) (fun u hu => by simp at hu; rcases hu with rfl | rfl | rfl <;> rfl) (by unfold maxLen; omega) (by omega) (by simp; omega) ?_)
              intro v' w4 hown' hgrow _
              have HO4 : Hid (OwnP 24 w4 w1.heap.size v' (lefS x L ++ (x, y, z) :: rigS y (L.take (k + 1)))) := by
                show OwnP _ _ _ _ _
                rw [HTK.out]
                unfold OwnP
                rw [List.length_append, t3_append, t3_one]
                rw [← show (lefS x L ++ (x, y, z) :: rigS y (List.take k L)).length = (lefS x L).length + ((rigS y (List.take k L)).length + 1) by rw [List.length_append, List.length_cons]] at hown'; exact hown'
              have HP4 : Hid (Rt 24 w4 w.heap.size (.int .i64 x) (.int .i64 y) (.int .i64 z)) := by
                refine (hgrow.block w.heap.size ?_ ?_).trans (HP1'.out.alloc (.cells #[.int .i64 y, .int .i64 y', .int .i64 z'] 24))
                · exact (HP1'.out.alloc (.cells #[.int .i64 y, .int .i64 y', .int .i64 z'] 24)).lt
                · intro e
                  have := (World.ownsRow.lt HO1.out _ e.symm).1
                  omega
              have HB4 : Hid (Below w1.heap.size w1 w4) := (below15 HB2.out _).grown hgrow (by simp; omega) (fun j hj => (World.ownsRow.lt HO1.out j hj).1)
              clear HO1 HB2 hown' hgrow r0 r1 r2 p0 p1 HP1' HQ1
              go_wp2
              go_roundw
              case rel => exact ⟨k + 1, by omega, by go_num, HO4, HP4, HB4.out⟩
              case measure => simp [intOf]; omega
            · have t0 : decide (x' < y) = false := decide_eq_false hm
              have t1 : decide (y ≤ x') = true := decide_eq_true (by omega)
              have t2 : max x' y = x' := Int.max_eq_left (by omega)
              rw [t2] at HTK
              clear t2
              go_wp2_with (at_builtin; refine wpList_append_own _ rfl _ _ 22 rfl w1.heap.size 24 i0 (.agg #[.int .i64 0, .int .i64 0, .int .i64 0]) 3 24 Tryd.underlying22 HI.out hz0 hz1 hz2 rfl (by decide) _ _ _ rfl (World.ownsRow.alloc HO1.out _) ⟨_, 0, none⟩ 1 1 [.int .i64 x', .int .i64 y', .int .i64 z'] rfl rfl (three15 (by simp) _ _ _ _) (fun u hu => by simp at hu; rcases hu with rfl | rfl | rfl <;> rfl) (by unfold maxLen; omega) (by omega) (by simp; omega) ?_)
              intro v' w4 hown' hgrow _
              have HO4 : Hid (OwnP 24 w4 w1.heap.size v' (lefS x L ++ (x, y, z) :: rigS y (L.take (k + 1)))) := by
                show OwnP _ _ _ _ _
                rw [HTK.out]
                unfold OwnP
                rw [List.length_append, t3_append, t3_one]
                rw [← show (lefS x L ++ (x, y, z) :: rigS y (List.take k L)).length = (lefS x L).length + ((rigS y (List.take k L)).length + 1) by rw [List.length_append, List.length_cons]] at hown'; exact hown'
              have HP4 : Hid (Rt 24 w4 w.heap.size (.int .i64 x) (.int .i64 y) (.int .i64 z)) := by
                refine (hgrow.block w.heap.size ?_ ?_).trans (HP1'.out.alloc (.cells #[.int .i64 x', .int .i64 y', .int .i64 z'] 24))
                · exact (HP1'.out.alloc (.cells #[.int .i64 x', .int .i64 y', .int .i64 z'] 24)).lt
                · intro e
                  have := (World.ownsRow.lt HO1.out _ e.symm).1
                  omega
              have HB4 : Hid (Below w1.heap.size w1 w4) := (below15 HB2.out _).grown hgrow (by simp; omega) (fun j hj => (World.ownsRow.lt HO1.out j hj).1)
              clear HO1 HB2 hown' hgrow r0 r1 r2 p0 p1 HP1' HQ1
              go_wp2
              go_roundw
              case rel => exact ⟨k + 1, by omega, by go_num, HO4, HP4, HB4.out⟩
              case measure => simp [intOf]; omega
          · obtain rfl : k = L.length := by omega
            have HE : Hid (fewS (lefS x L ++ (x, y, z) :: rigS y (L.take L.length)) = putS L (x, y, z)) := by show _ = _; rw [List.take_length]; exact HPE.out
            have HCF := Hid.mk7 (rfewest_any HO.out.row hfl)
            have HB2 := Hid.mk7 hb
            clear HO hfl HPE HO3 HP3 HB3
            go_wp2_with fail
            refine HCF.out.mono ?_
            rintro e w5 ⟨v5, rfl, o5, b5⟩
            have HB5 := Hid.mk7 (HB2.out.trans (b5.mono HB2.out.size))
            rw [HE.out] at o5
            have HV5 := Hid.mk7 o5.row
            have HB6 := Hid.mk7 (HB1.out.trans (HB5.out.mono HB1.out.size))
            clear o5 b5 HB2 HCF HE HB5
            obtain ⟨a5, cap5, rfl, _⟩ := id HV5.out
            by_cases hm : (putS L (x, y, z)).length ≤ 60
            · have dm : decide ((60 : Int) < ((putS L (x, y, z)).length : Nat)) = false := decide_eq_false (by omega)
              have dm' : decide (60 < (putS L (x, y, z)).length) = false := decide_eq_false (by omega)
              obtain ⟨e1, e2⟩ := putE_ok HOK.out hm
              have E1 := Hid.mk7 e1
              have E2 := Hid.mk7 e2
              clear e1 e2 hm
              go_wp2
              go_ret2
              exact ⟨_, tup15 E1.out.symm, by rw [E2.out]; exact HV5.out, HB6.out⟩
            · have dm : decide ((60 : Int) < ((putS L (x, y, z)).length : Nat)) = true := decide_eq_true (by omega)
              have dm' : decide (60 < (putS L (x, y, z)).length) = true := decide_eq_true (by omega)
              obtain ⟨e1, e2⟩ := putE_many HOK.out hm
              have E1 := Hid.mk7 e1
              have E2 := Hid.mk7 e2
              clear e1 e2 hm
              go_wp2
              go_ret2
              exact ⟨_, tup15 E1.out.symm, nil_put E2.out, HB6.out⟩
end Go.Proofs.YtmgjfmgkmlfjeaaDoor
