/- Is. -/
import Derived.Test.YtmgjfmgkmlfjeaaDoorSpLeast
namespace Go.Proofs.YtmgjfmgkmlfjeaaDoor
open Go.RowKit Go.Sort
set_option linter.unusedSimpArgs false
set_option linter.unusedVariables false

theorem isS_long {n : Int} {L : List Sp} (h : ¬ L.length ≤ 60) : isS n L = false := by rw [isS_parts, decide_eq_false h, Bool.false_and]
theorem isS_short {n : Int} {L : List Sp} (h : L.length ≤ 60) : isS n L = (styB L && lstB (min n 20000) 0 0 L) := by rw [isS_parts, decide_eq_true h, Bool.true_and]
theorem sty_step {f t s : Int} {l : List Sp} (h : 1 ≤ s ∧ s ≤ 100) : styB ((f, t, s) :: l) = styB l := by
  unfold styB; rw [List.all_cons, decide_eq_true (p := 1 ≤ ((f, t, s) : Sp).2.2 ∧ ((f, t, s) : Sp).2.2 ≤ 100) h, Bool.true_and]
theorem sty_stop {f t s : Int} {l : List Sp} (h : ¬ (1 ≤ s ∧ s ≤ 100)) : styB ((f, t, s) :: l) = false := by
  unfold styB; rw [List.all_cons, decide_eq_false (p := 1 ≤ ((f, t, s) : Sp).2.2 ∧ ((f, t, s) : Sp).2.2 ≤ 100) h, Bool.false_and]
set_option maxHeartbeats 2000000 in
set_option maxRecDepth 100000 in
theorem is_any15 {w : World} {v : Value} {L : List Sp} (n : Int) (h : SpAt w v L) :
    Calls Tryd.prog 11 #[v, .int .i64 n] w fun e w' => e = .returned (.bool (isS n L)) ∧ Below w.heap.size w w' := by
  by_cases hl : L.length ≤ 60
  · have HV := Hid.mk7 h
    obtain ⟨a, cap, rfl, hcap, _, hcells⟩ := h
    have HC := Hid.mk7 hcells
    clear hcells
    rw [isS_short hl]
    have d0 : decide ((60 : Int) < (L.length : Nat)) = false := decide_eq_false (by omega)
    have d0' : decide (60 < L.length) = false := decide_eq_false (by omega)
    generalize hres : (styB L && lstB (min n 20000) 0 0 L) = res
    have HR0 := Hid.mk7 hres
    clear hres
    go_enter Tryd.func11, Tryd.ntmps11
    go_wp2
    go_loopw [12] (fun iv wr => ∃ k : Nat, k ≤ L.length ∧ iv = .int .i64 (k : Nat) ∧ Hid (styB (L.drop k) = styB L) ∧ Below w.heap.size w wr) (fun iv _ => L.length - (intOf iv).toNat)
    case atStart => exact ⟨0, Nat.zero_le _, rfl, rfl, Below.refl _ _⟩
    case round =>
      obtain ⟨k, hk, rfl, HS, hb⟩ := hrel
      by_cases hlt : k < L.length
      · obtain ⟨⟨x, y, z⟩, hr⟩ : ∃ r, L[k]? = some r := ⟨L[k], List.getElem?_eq_getElem hlt⟩
        obtain ⟨g, off, rfl, q0, q1, q2⟩ := HC.out k _ hr
        have c0 := cell_later7 hb (Nat.le_refl _) q0
        have c1 := cell_later7 hb (Nat.le_refl _) q1
        have c2 := cell_later7 hb (Nat.le_refl _) q2
        simp only at c0 c1 c2
        rw [drop15 hr] at HS
        have HB1 := Hid.mk7 (below15 hb (.cells #[.int .i64 x, .int .i64 y, .int .i64 z] 24))
        have HT := Hid.mk7 (fun W => sty_any z W)
        clear q0 q1 q2 hr
        by_cases h1 : 1 ≤ z ∧ z ≤ 100
        · rw [decide_eq_true h1] at HT
          have HS2 : Hid (styB (L.drop (k + 1)) = styB L) := by show _ = _; rw [← HS.out, sty_step h1]
          clear h1 HS
          go_wp2_with (refine (HT.out _).mono ?_; rintro e w' ⟨rfl, rfl⟩)
          go_roundw
          case rel => exact ⟨k + 1, by omega, by go_num, HS2, HB1.out⟩
          case measure => simp [intOf]; omega
        · rw [decide_eq_false h1] at HT
          have HF : Hid (res = false) := by show _ = _; rw [← HR0.out, ← HS.out, sty_stop h1]; rfl
          clear h1 HS
          go_wp2_with (refine (HT.out _).mono ?_; rintro e w' ⟨rfl, rfl⟩)
          go_ret
          exact ⟨ret_bool15 HF.out.symm, HB1.out⟩
      · obtain rfl : k = L.length := by omega
        have HF : Hid (lstB (min n 20000) 0 0 L = res) := by show _ = _; have := HS.out; rw [List.drop_length] at this; rw [← HR0.out, ← this]; rfl
        have HRW := Hid.mk7 (rowOf_any (HV.out.later hb) (by omega))
        clear HR0 HS
        by_cases hn : n ≤ 20000
        · have dn : decide (n ≤ 20000) = true := decide_eq_true hn
          have dn' : decide ((20000 : Int) < n) = false := decide_eq_false (by omega)
          have hm : min n 20000 = n := Int.min_eq_left hn
          rw [hm] at HF
          go_wp2_with fail
          refine HRW.out.mono ?_
          rintro e w1 ⟨rv, rfl, o1, b1⟩
          have HLS := Hid.mk7 (least_any n o1.row (by omega))
          rw [HF.out] at HLS
          have HB1 := Hid.mk7 (hb.trans (b1.mono hb.size))
          clear o1 b1 HRW
          go_wp2_with fail
          refine HLS.out.mono ?_
          rintro e w2 ⟨rfl, b2⟩
          have HB2 := Hid.mk7 (HB1.out.trans (b2.mono HB1.out.size))
          clear b2 HLS HB1
          go_wp2
          go_ret
          exact ⟨rfl, HB2.out⟩
        · have dn : decide (n ≤ 20000) = false := decide_eq_false hn
          have dn' : decide ((20000 : Int) < n) = true := decide_eq_true (by omega)
          have hm : min n 20000 = 20000 := Int.min_eq_right (by omega)
          rw [hm] at HF
          go_wp2_with fail
          refine HRW.out.mono ?_
          rintro e w1 ⟨rv, rfl, o1, b1⟩
          have HLS := Hid.mk7 (least_any 20000 o1.row (by omega))
          rw [HF.out] at HLS
          have HB1 := Hid.mk7 (hb.trans (b1.mono hb.size))
          clear o1 b1 HRW
          go_wp2_with fail
          refine HLS.out.mono ?_
          rintro e w2 ⟨rfl, b2⟩
          have HB2 := Hid.mk7 (HB1.out.trans (b2.mono HB1.out.size))
          clear b2 HLS HB1
          go_wp2
          go_ret
          exact ⟨rfl, HB2.out⟩
  · have d0 : decide ((60 : Int) < (L.length : Nat)) = true := decide_eq_true (by omega)
    have d0' : decide (60 < L.length) = true := decide_eq_true (by omega)
    obtain ⟨a, cap, rfl⟩ := h.shape
    rw [isS_long hl]
    go_enter Tryd.func11, Tryd.ntmps11
    go_wp2
    go_ret
    exact ⟨rfl, Below.refl _ _⟩
end Go.Proofs.YtmgjfmgkmlfjeaaDoor
