/- The program's Edit. -/
import Derived.Test.YtmgjfmgkmlfjeaaDoorSpMoved
import Derived.Test.YtmgjfmgkmlfjeaaDoorSpPutG
namespace Go.Proofs.YtmgjfmgkmlfjeaaDoor
open Go.RowKit Go.Sort
set_option linter.unusedSimpArgs false
set_option linter.unusedVariables false

/-- Edit's errors, and its spans. -/
def edE (base : Int) (es : List El) (L : List Sp) : Int := if isB base es = true ∧ isS base L = true then 0 else 12
def edL (base : Int) (es : List El) (L : List Sp) : List Sp := if isB base es = true ∧ isS base L = true then edS base es L else []
theorem edE_no {base : Int} {es : List El} {L : List Sp} (h : ¬ (isB base es = true ∧ isS base L = true)) : edE base es L = 12 ∧ edL base es L = [] := ⟨if_neg h, if_neg h⟩
theorem edE_ok {base : Int} {es : List El} {L : List Sp} (h : isB base es = true ∧ isS base L = true) : edE base es L = 0 ∧ edL base es L = edS base es L := ⟨if_pos h, if_pos h⟩
set_option maxHeartbeats 4000000 in
set_option maxRecDepth 100000 in
theorem edit_any15 {w : World} {v ev : Value} {L : List Sp} {es : List El} (base : Int) (h : SpAt w v L) (he : ElAt w ev es) (hsm : Sm es 281474976710656) (tb : Nat × Nat) (hT : Tab w tb) :
    Calls Tryd.prog 9 #[v, .agg #[.int .i64 base, ev]] w fun e w' => ∃ v', e = .returned (.tuple #[v', .int .i64 (edE base es L)]) ∧ SpAt w' v' (edL base es L) ∧ Below w.heap.size w w' := by
  have hmf : ∀ (fn : Fn) (first cap : Array Value) (w : World), (Instr.makeFunc fn first cap).run Tryd.prog w = .ok (.func fn first cap) w := fun _ _ _ _ => rfl
  obtain ⟨ea, ecap, rfl, _⟩ := id he
  obtain ⟨W, hW⟩ : ∃ W, W = w.alloc (.cells #[.int .i64 base, .slice ea es.length ecap] 27) := ⟨_, rfl⟩
  have b0 : Below w.heap.size w W := by rw [hW]; exact below15 (Below.refl w.heap.size w) _
  have RD0 : Hid (Rd W w.heap.size (.int .i64 base) (.slice ea es.length ecap)) := by rw [hW]; exact Rd.new w _ _
  have HV0 := Hid.mk7 (h.later b0)
  have HE0 := Hid.mk7 (he.later b0)
  have HT0 := Hid.mk7 (hT.later b0)
  have HB0 := Hid.mk7 b0
  have HI0 := Hid.mk7 (is_any base HE0.out hsm tb HT0.out)
  have r0 := RD0.out.c0
  have r1 := RD0.out.c1
  clear h he hT b0
  go_enter Tryd.func9, Tryd.ntmps9
  go_upto_region 1 with fail
  rw [← hW]
  clear hW
  cases hi : isB base es with
  | false =>
    obtain ⟨e1, e2⟩ := edE_no (base := base) (es := es) (L := L) (by simp [hi])
    have E1 := Hid.mk7 e1
    have E2 := Hid.mk7 e2
    rw [hi] at HI0
    clear e1 e2 hi
    go_wp2_with fail
    refine HI0.out.mono ?_
    rintro e w1 ⟨rfl, b1⟩
    have HB1 := Hid.mk7 (HB0.out.trans (b1.mono HB0.out.size))
    clear b1 HI0 r0 r1
    go_wp2
    go_ret2
    exact ⟨_, tup15 E1.out.symm, nil_put E2.out, HB1.out⟩
  | true =>
    rw [hi] at HI0
    go_wp2_with fail
    refine HI0.out.mono ?_
    rintro e w1 ⟨rfl, b1⟩
    have HB1 := Hid.mk7 (HB0.out.trans (b1.mono HB0.out.size))
    have RD1 := Hid.mk7 (RD0.out.later b1)
    have HV1 := Hid.mk7 (HV0.out.later b1)
    have HE1 := Hid.mk7 (HE0.out.later b1)
    have HT1 := Hid.mk7 (HT0.out.later b1)
    clear b1 HI0 r0 r1 HB0 RD0 HV0 HE0 HT0
    have HS1 := Hid.mk7 (is_any15 base HV1.out)
    have r0 := RD1.out.c0
    have r1 := RD1.out.c1
    cases his : isS base L with
    | false =>
      obtain ⟨e1, e2⟩ := edE_no (base := base) (es := es) (L := L) (by simp [his])
      have E1 := Hid.mk7 e1
      have E2 := Hid.mk7 e2
      rw [his] at HS1
      clear e1 e2 hi his
      go_wp2_with fail
      refine HS1.out.mono ?_
      rintro e w2 ⟨rfl, b2⟩
      have HB2 := Hid.mk7 (HB1.out.trans (b2.mono HB1.out.size))
      clear b2 HS1 r0 r1
      go_wp2
      go_ret2
      exact ⟨_, tup15 E1.out.symm, nil_put E2.out, HB2.out⟩
    | true =>
      obtain ⟨e1, e2⟩ := edE_ok (base := base) (es := es) (L := L) ⟨hi, his⟩
      have E1 := Hid.mk7 e1
      have E2 := Hid.mk7 e2
      rw [his] at HS1
      have hl := (isS_spec.1 his).1
      clear e1 e2 hi his
      go_wp2_with fail
      refine HS1.out.mono ?_
      rintro e w2 ⟨rfl, b2⟩
      have HB2 := Hid.mk7 (HB1.out.trans (b2.mono HB1.out.size))
      have RD2 := Hid.mk7 (RD1.out.later b2)
      have HV2 := Hid.mk7 (HV1.out.later b2)
      have HE2 := Hid.mk7 (HE1.out.later b2)
      have HT2 := Hid.mk7 (HT1.out.later b2)
      clear b2 HS1 r0 r1 HB1 RD1 HV1 HE1 HT1
      have HRO := Hid.mk7 (rowOf_any HV2.out (by omega))
      go_wp2_with fail
      refine HRO.out.mono ?_
      rintro e w3 ⟨v3, rfl, o3, b3⟩
      have HB3 := Hid.mk7 (HB2.out.trans (b3.mono HB2.out.size))
      have RD3 := Hid.mk7 (RD2.out.later b3)
      have HE3 := Hid.mk7 (HE2.out.later b3)
      have HT3 := Hid.mk7 (HT2.out.later b3)
      have HMV := Hid.mk7 (moved_any o3.row (by omega) RD3.out HE3.out hsm tb HT3.out)
      clear o3 b3 HRO HB2 RD2 HE2 HT2 HV2
      go_wp2_with fail
      refine HMV.out.mono ?_
      rintro e w4 ⟨v4, rfl, o4, b4⟩
      have HB4 := Hid.mk7 (HB3.out.trans (b4.mono HB3.out.size))
      have hel := edS_len base es L
      have HSO := Hid.mk7 (spansOf_any o4.row (by omega))
      clear o4 b4 HMV HB3 RD3 HE3 HT3
      go_wp2_with fail
      refine HSO.out.mono ?_
      rintro e w5 ⟨v5, rfl, o5, b5⟩
      have HB5 := Hid.mk7 (HB4.out.trans (b5.mono HB4.out.size))
      have HV5 := Hid.mk7 o5.row
      clear o5 b5 HSO HB4
      go_wp2
      go_ret2
      exact ⟨_, tup15 E1.out.symm, by rw [E2.out]; exact HV5.out, HB5.out⟩
end Go.Proofs.YtmgjfmgkmlfjeaaDoor
