/- The reference's cells of changes. -/
import Derived.Test.YtpfkidcaolfcoaaDoorDelCell
namespace Go.Proofs.YtpfkidcaolfcoaaDoor
open Go.RowKit Go.Sort Go.Lib
set_option linter.unusedSimpArgs false
set_option linter.unusedVariables false

theorem OwnK.pushed {w3 : World} {B : Nat} {cs : List Ce} {c : Ce} {x y : Value} {gg cap2 : Nat}
    (hown : w3.ownsRow B 35 2 (.slice (some ⟨gg, 0, none⟩) (cs.length + 1) cap2) (cs.length + 1) (k2 cs ++ [x, y])) (hx : x = .int .i64 c.1) (hy : y = .int .u8 (c.2.toNat : Int)) :
    OwnK w3 B (.slice (some ⟨gg, 0, none⟩) (cs.length + 1) cap2) (cs ++ [c]) := by
  subst hx hy
  unfold OwnK
  rw [List.length_append, k2_append, k2_one]
  exact hown
theorem bce_step {base ea f t : Int} {T : List UInt8} {l : List El} {k : Nat} (hr : l[k]? = some (f, t, T)) : bce base ea (l.drop k) = rng ea f ++ ownT T ++ bce base t (l.drop (k + 1)) := by
  rw [drop_consE hr]; rfl
theorem chs_stepE {n ea : Int} {l : List El} {k : Nat} {f t : Int} {T : List UInt8} (hr : l[k]? = some (f, t, T)) (h : Chs n ea (l.drop k)) : ea ≤ f ∧ f ≤ t ∧ t ≤ n ∧ Chs n t (l.drop (k + 1)) := by
  rw [drop_consE hr] at h; exact h
set_option maxHeartbeats 8000000 in
set_option maxRecDepth 100000 in
theorem rmade_any {w : World} {v : Value} {l : List El} (base : Int) (h : ElAt w v l) (hb0 : 0 ≤ base ∧ base ≤ 20000) (hl : l.length ≤ 1000) (hch : Chs base 0 l) (htot : (bce base 0 l).length ≤ 20000) :
    Calls Tryd.prog 35 #[.int .i64 base, v] w fun e w' => ∃ v', e = .returned (.tuple #[v', .bool false]) ∧ OwnK w' w.heap.size v' (bce base 0 l) ∧ RowKit.Below w.heap.size w w' := by
  obtain ⟨i0, hi, hz0, hz1, hz2⟩ := info_parts Tryd.info_ce
  have HI := Hid.mk7 hi
  obtain ⟨a, cap, rfl, hcap, _, hcells⟩ := h
  have HC := Hid.mk7 hcells
  have HTOT := Hid.mk7 htot
  clear hcells hi htot
  go_enter Tryd.func35, Tryd.ntmps35
  go_wp2
  go_loopw [6, 7, 8] (fun lv av iv wr => ∃ (k : Nat) (ea : Int) (C : List Ce), k ≤ l.length ∧ iv = .int .i64 (k : Nat) ∧ av = .int .i64 ea ∧ 0 ≤ ea ∧ Hid (Chs base ea (l.drop k)) ∧ Hid (bce base 0 l = C ++ bce base ea (l.drop k)) ∧ Hid (OwnK wr w.heap.size lv C) ∧ Hid (RowKit.Below w.heap.size w wr)) (fun _ _ iv _ => l.length + 1 - (intOf iv).toNat)
  case atStart => exact ⟨0, 0, [], Nat.zero_le _, rfl, rfl, Int.le_refl _, Hid.mk7 hch, Hid.mk7 rfl, OwnK.nil _ _, RowKit.Below.refl _ _⟩
  case round =>
    obtain ⟨k, ea, C, hk, rfl, rfl, hea, HCH, HEQ, HO, HB⟩ := hrel
    have dle : decide ((k : Int) ≤ (l.length : Int)) = true := decide_eq_true (by omega)
    by_cases hlt : k < l.length
    · obtain ⟨⟨f, t, T⟩, hr⟩ : ∃ r, l[k]? = some r := ⟨l[k], List.getElem?_eq_getElem hlt⟩
      obtain ⟨g, off, rfl, q0, q1, q2⟩ := HC.out k _ hr
      have Q1 := Hid.mk7 q1
      have Q2 := Hid.mk7 q2
      have c0 := cell_later7 HB.out (Nat.le_refl _) q0
      simp only at c0
      obtain ⟨h1, h2, h3, h4⟩ := chs_stepE hr HCH.out
      have HCH2 := Hid.mk7 h4
      have HST : Hid (bce base 0 l = C ++ rng ea f ++ ownT T ++ bce base t (l.drop (k + 1))) := by show _ = _; rw [HEQ.out, bce_step hr]; simp only [List.append_assoc]
      have hroom : C.length + (f - ea).toNat + T.length ≤ 20000 := by
        have h5 := HTOT.out
        rw [HST.out] at h5
        simp only [List.length_append, own_len, rng_len] at h5
        omega
      have dne1 : ((k : Int) == (l.length : Int)) = false := by simp; omega
      have dne2 : (k == l.length) = false := by simp; omega
      have hcs : (cacc T).size = T.length := cacc_size T
      obtain ⟨s, HS⟩ : ∃ s, Hid (s = cacc T) := ⟨_, rfl⟩
      rw [← HS.out] at hcs Q2
      clear q0 q1 q2 hr HCH HEQ h4 HC
      generalize hTl : T.length = Tl at *
      have HTL := Hid.mk7 hTl
      clear hTl
      go_wp2
      go_loopw [6, 10] (fun lv jv wx => ∃ j : Nat, ea + j ≤ f ∧ jv = .int .i64 (ea + (j : Nat)) ∧ Hid (OwnK wx w.heap.size lv (C ++ rng ea (ea + (j : Nat)))) ∧ Hid (RowKit.Below w.heap.size w wx)) (fun _ jv _ => (f - intOf jv).toNat)
      case atStart => exact ⟨0, by omega, by simp, by show OwnK _ _ _ _; have := HO.out; simpa [rng_none] using this, HB⟩
      case round =>
        obtain ⟨j, hj, rfl, HO, HB⟩ := hrel
        have wz := HB.out.size
        clear c0
        by_cases hjt : ea + (j : Nat) < f
        · have HSN := Hid.mk7 (rng_snoc (f := ea) (t := ea + (j : Nat)) (by omega))
          obtain ⟨C2, HC2⟩ : ∃ C2, Hid (C2 = C ++ rng ea (ea + (j : Nat))) := ⟨_, rfl⟩
          have hl2 : C2.length + 1 ≤ 20000 := by rw [HC2.out, List.length_append, rng_len]; omega
          rw [← HC2.out] at HO
          go_wp2_with (at_builtin; refine wpList_append_lies _ rfl _ _ 32 rfl w.heap.size 35 i0 (.agg #[.int .i64 0, .int .u8 0]) 2 16 Tryd.underlying32 HI.out hz0 hz1 hz2 rfl (by decide) _ _ _ rfl (World.ownsRow.alloc HO.out _) ⟨_, 0, none⟩ 1 1 [.int .i64 (ea + (j : Nat)), .int .u8 0] rfl rfl (two_newK _ _ _ _) (fun u hu => by simp at hu; rcases hu with rfl | rfl <;> rfl) (by omega) (by unfold maxLen; omega) (by omega) (by simp; omega) _ rfl ?_)
          intro gg cap2 w3 hown hgrow hat hlt2
          have HE1 : Hid (C2 ++ [(ea + (j : Nat), 0)] = C ++ rng ea (ea + ((j + 1 : Nat) : Int))) := by show _ = _; rw [show ea + ((j + 1 : Nat) : Int) = ea + (j : Nat) + 1 by omega, HSN.out, HC2.out, List.append_assoc]
          have HO3 := Hid.mk7 (OwnK.pushed (c := (ea + (j : Nat), 0)) hown rfl rfl)
          rw [HE1.out] at HO3
          have HB3 : Hid (RowKit.Below w.heap.size w w3) := (HB.out.alloc HB.out.size _).grown hgrow (HB.out.alloc HB.out.size _).size (fun q hq => (HO.out.lt hq).1)
          clear hown hgrow hat hlt2 HSN HE1 HO HB
          go_wp2
          go_roundw
          case rel => exact ⟨j + 1, by omega, by go_num, HO3, HB3⟩
          case measure => simp [intOf]; omega
        · have HE1 : Hid (C ++ rng ea (ea + (j : Nat)) = C ++ rng ea f) := by show _ = _; rw [show ea + ((j : Nat) : Int) = f by omega]
          rw [HE1.out] at HO
          clear HE1
          have c2 := cell_later7 HB.out (Nat.le_refl _) Q2.out
          try simp only at c2
          obtain ⟨C1, HC1⟩ : ∃ C1, Hid (C1 = C ++ rng ea f) := ⟨_, rfl⟩
          have hl1 : C1.length + Tl ≤ 20000 := by rw [HC1.out, List.length_append, rng_len]; omega
          rw [← HC1.out] at HO HST
          go_wp2
          go_loopw [6, 11] (fun lv jv wx => ∃ j : Nat, j ≤ Tl ∧ jv = .int .i64 (j : Nat) ∧ Hid (OwnK wx w.heap.size lv (C1 ++ ownT (T.take j))) ∧ Hid (RowKit.Below w.heap.size w wx)) (fun _ jv _ => Tl - (intOf jv).toNat)
          case atStart => exact ⟨0, Nat.zero_le _, rfl, by show OwnK _ _ _ _; have := HO.out; simpa [ownT] using this, HB⟩
          case round =>
            obtain ⟨j, hj, rfl, HO, HB⟩ := hrel
            have wz := HB.out.size
            clear c2
            have c2 := cell_later7 HB.out (Nat.le_refl _) Q2.out
            try simp only at c2
            have gl : g < wr.heap.size := World.block_lt_of_cell? wr ⟨g, _, none⟩ c2
            by_cases hjt : j < Tl
            · have hjT : j < T.length := by rw [HTL.out]; exact hjt
              have HSN := Hid.mk7 (ownT_snoc hjT)
              have HSJ : Hid (∀ h : j < s.size, s[j] = T[j]) := fun h => by have e := HS.out; subst e; rfl
              obtain ⟨C2, HC2⟩ : ∃ C2, Hid (C2 = C1 ++ ownT (T.take j)) := ⟨_, rfl⟩
              have hl2 : C2.length + 1 ≤ 20000 := by rw [HC2.out, List.length_append, own_len, List.length_take]; omega
              rw [← HC2.out] at HO
              go_wp2_with (at_builtin; refine wpList_append_lies _ rfl _ _ 32 rfl w.heap.size 35 i0 (.agg #[.int .i64 0, .int .u8 0]) 2 16 Tryd.underlying32 HI.out hz0 hz1 hz2 rfl (by decide) _ _ _ rfl (World.ownsRow.alloc HO.out _) ⟨_, 0, none⟩ 1 1 [.int .i64 (-1), .int .u8 ((s[j]).toNat : Int)] rfl rfl (two_newK _ _ _ _) (fun u hu => by simp at hu; rcases hu with rfl | rfl <;> rfl) (by omega) (by unfold maxLen; omega) (by omega) (by simp; omega) _ rfl ?_)
              intro gg cap2 w3 hown hgrow hat hlt2
              have HE1 : Hid (C2 ++ [(-1, T[j])] = C1 ++ ownT (T.take (j + 1))) := by show _ = _; rw [HSN.out, HC2.out, List.append_assoc]
              have HO3 := Hid.mk7 (OwnK.pushed (c := (-1, T[j])) hown rfl (by rw [HSJ.out]))
              rw [HE1.out] at HO3
              have HB3 : Hid (RowKit.Below w.heap.size w w3) := (HB.out.alloc HB.out.size _).grown hgrow (HB.out.alloc HB.out.size _).size (fun q hq => (HO.out.lt hq).1)
              clear hown hgrow hat hlt2 HSN HSJ HE1 HO HB c2
              go_wp2
              go_roundw
              case rel => exact ⟨j + 1, by omega, by go_num, HO3, HB3⟩
              case measure => simp [intOf]; omega
            · obtain rfl : j = Tl := by omega
              have HE1 : Hid (ownT (T.take j) = ownT T) := by show _ = _; rw [← HTL.out, List.take_length]
              rw [HE1.out] at HO
              have c1 := cell_later7 HB.out (Nat.le_refl _) Q1.out
              try simp only at c1
              go_wp2
              go_roundw
              case rel => exact ⟨k + 1, t, _, by omega, by go_num, rfl, by omega, HCH2, HST, HO, HB⟩
              case measure => simp [intOf]; omega
    · obtain rfl : k = l.length := by omega
      have HST : Hid (bce base 0 l = C ++ rng ea base) := by show _ = _; rw [HEQ.out, List.drop_length]; rfl
      have hle : ea ≤ base := by have := HCH.out; rw [List.drop_length] at this; exact this
      have hroom : C.length + (base - ea).toNat ≤ 20000 := by
        have h5 := HTOT.out
        rw [HST.out] at h5
        simp only [List.length_append, rng_len] at h5
        omega
      clear HCH HEQ HC
      go_wp2
      go_loopw [6, 10] (fun lv jv wx => ∃ j : Nat, ea + j ≤ base ∧ jv = .int .i64 (ea + (j : Nat)) ∧ Hid (OwnK wx w.heap.size lv (C ++ rng ea (ea + (j : Nat)))) ∧ Hid (RowKit.Below w.heap.size w wx)) (fun _ jv _ => (base - intOf jv).toNat)
      case atStart => exact ⟨0, by omega, by simp, by show OwnK _ _ _ _; have := HO.out; simpa [rng_none] using this, HB⟩
      case round =>
        obtain ⟨j, hj, rfl, HO, HB⟩ := hrel
        have wz := HB.out.size
        clear hle
        by_cases hjt : ea + (j : Nat) < base
        · have HSN := Hid.mk7 (rng_snoc (f := ea) (t := ea + (j : Nat)) (by omega))
          obtain ⟨C2, HC2⟩ : ∃ C2, Hid (C2 = C ++ rng ea (ea + (j : Nat))) := ⟨_, rfl⟩
          have hl2 : C2.length + 1 ≤ 20000 := by rw [HC2.out, List.length_append, rng_len]; omega
          rw [← HC2.out] at HO
          go_wp2_with (at_builtin; refine wpList_append_lies _ rfl _ _ 32 rfl w.heap.size 35 i0 (.agg #[.int .i64 0, .int .u8 0]) 2 16 Tryd.underlying32 HI.out hz0 hz1 hz2 rfl (by decide) _ _ _ rfl (World.ownsRow.alloc HO.out _) ⟨_, 0, none⟩ 1 1 [.int .i64 (ea + (j : Nat)), .int .u8 0] rfl rfl (two_newK _ _ _ _) (fun u hu => by simp at hu; rcases hu with rfl | rfl <;> rfl) (by omega) (by unfold maxLen; omega) (by omega) (by simp; omega) _ rfl ?_)
          intro gg cap2 w3 hown hgrow hat hlt2
          have HE1 : Hid (C2 ++ [(ea + (j : Nat), 0)] = C ++ rng ea (ea + ((j + 1 : Nat) : Int))) := by show _ = _; rw [show ea + ((j + 1 : Nat) : Int) = ea + (j : Nat) + 1 by omega, HSN.out, HC2.out, List.append_assoc]
          have HO3 := Hid.mk7 (OwnK.pushed (c := (ea + (j : Nat), 0)) hown rfl rfl)
          rw [HE1.out] at HO3
          have HB3 : Hid (RowKit.Below w.heap.size w w3) := (HB.out.alloc HB.out.size _).grown hgrow (HB.out.alloc HB.out.size _).size (fun q hq => (HO.out.lt hq).1)
          clear hown hgrow hat hlt2 HSN HE1 HO HB
          go_wp2
          go_roundw
          case rel => exact ⟨j + 1, by omega, by go_num, HO3, HB3⟩
          case measure => simp [intOf]; omega
        · have HE1 : Hid (C ++ rng ea (ea + (j : Nat)) = C ++ rng ea base) := by show _ = _; rw [show ea + ((j : Nat) : Int) = base by omega]
          rw [HE1.out] at HO
          clear HE1
          rw [← HST.out] at HO
          have dl : decide ((20000 : Int) < ((bce base 0 l).length : Int)) = false := decide_eq_false (by have := HTOT.out; omega)
          obtain ⟨la, lcap, rfl, hkc, _⟩ := id HO.out.row
          clear HST
          go_wp2
          go_ret2
          exact ⟨_, rfl, HO.out, HB.out⟩
end Go.Proofs.YtpfkidcaolfcoaaDoor
