/- factor's inserts. -/
import Derived.Test.YtalolaajcmndeaaDoorFacIns
namespace Go.Proofs.YtalolaajcmndeaaDoor
open Go.RowKit Go.Sort
set_option linter.unusedSimpArgs false
set_option linter.unusedVariables false

structure Ix12 (es : List El) (W wr : World) (k : Nat) (lv : Value) (en : Int) (A : List El) : Prop where
  own : OwnC wr W.heap.size lv A
  eq : insX 0 es = A ++ insX en (es.drop k)
  len : A.length ≤ k
  be : Below W.heap.size W wr
set_option maxHeartbeats 4000000 in
set_option maxRecDepth 100000 in
theorem inserts_any {w : World} {v : Value} {es : List El} (hl : es.length ≤ 1000) (h : ElAt w v es) :
    Calls Tryd.prog 39 #[v] w fun e w' => ∃ v', e = .returned v' ∧ ElAt w' v' (insX 0 es) ∧ Below w.heap.size w w' := by
  obtain ⟨i0, hi, hz0, hz1, hz2⟩ := info_parts Tryd.info_ch
  have HI := Hid.mk7 hi
  obtain ⟨a, cap, rfl, hcap, _, hcells⟩ := h
  have HC := Hid.mk7 hcells
  clear hcells hi
  go_enter Tryd.func39, Tryd.ntmps39
  go_wp2
  go_loopw [3, 4, 9] (fun lv nv iv wr => ∃ (k : Nat) (en : Int) (A : List El), k ≤ es.length ∧ iv = .int .i64 (k : Nat) ∧ nv = .int .i64 en ∧ Hid (Ix12 es w wr k lv en A)) (fun _ _ iv _ => es.length - (intOf iv).toNat)
  case atStart => exact ⟨0, 0, [], Nat.zero_le _, rfl, rfl, ⟨OwnC.nil _ _, rfl, Nat.le_refl _, Below.refl _ _⟩⟩
  case round =>
    obtain ⟨k, en, A, hk, rfl, rfl, HE⟩ := hrel
    have hb := HE.out.be
    have hsz := hb.size
    have hA := HE.out.len
    by_cases hlt : k < es.length
    · obtain ⟨⟨f, t, T⟩, hr⟩ : ∃ r, es[k]? = some r := ⟨es[k], List.getElem?_eq_getElem hlt⟩
      obtain ⟨g, off, rfl, q0, q1, q2⟩ := HC.out k _ hr
      have c0 := cell_later7 hb (Nat.le_refl _) q0
      have c1 := cell_later7 hb (Nat.le_refl _) q1
      have c2 := cell_later7 hb (Nat.le_refl _) q2
      simp only at c0 c1 c2
      have RC := Hid.mk7 (Re.new wr (.int .i64 f) (.int .i64 t) (.string (cacc T)))
      have HO := Hid.mk7 (HE.out.own.alloc (.cells #[.int .i64 f, .int .i64 t, .string (cacc T)] 70))
      have HBX := Hid.mk7 (hb.alloc hsz (.cells #[.int .i64 f, .int .i64 t, .string (cacc T)] 70))
      have hcs : (cacc T).size = T.length := cacc_size T
      have HR := Hid.mk7 hr
      clear q0 q1 q2 hr
      by_cases hT0 : T = []
      · subst hT0
        have HQ := Hid.mk7 (insX_copy (en := en) HR.out)
        have hss : decide ((cacc []).size ≠ 0) = false := by rw [hcs]; rfl
        have HIT := Hid.mk7 (isText_any f t (cacc []))
        rw [hss] at HIT
        clear hss hcs HR
        generalize cacc ([] : List UInt8) = s at *
        go_upto_region 6 with fail
        generalize hz : wr.heap.size = z at *
        generalize wr.alloc (.cells #[.int .i64 f, .int .i64 t, .string s] 70) = W at *
        have d0 := RC.out.c0
        have d1 := RC.out.c1
        have d2 := RC.out.c2
        clear c0 c1 c2
        go_wp2_with fail
        refine (HIT.out W).mono ?_
        rintro e w2 ⟨rfl, b2⟩
        have R2 := Hid.mk7 (RC.out.later b2)
        have HE2 : Hid (Ix12 es w w2 (k + 1) u3 t A) := by
          refine ⟨HO.out.later b2, ?_, by omega, HBX.out.trans (b2.mono HBX.out.size)⟩
          rw [HE.out.eq, HQ.out]
        clear d0 d1 d2 RC HO HBX b2 HIT HE HQ
        have d1 := R2.out.c1
        go_wp2
        go_roundw
        case rel => exact ⟨k + 1, t, _, by omega, by go_num, rfl, HE2⟩
        case measure => simp [intOf]; omega
      · have HQ := Hid.mk7 (insX_text (en := en) HR.out hT0)
        have hss : decide ((cacc T).size ≠ 0) = true := by rw [hcs]; simp; exact hT0
        have HIT := Hid.mk7 (isText_any f t (cacc T))
        have HCS := Hid.mk7 (rfl : cacc T = cacc T)
        rw [hss] at HIT
        clear hss hcs HR hT0
        generalize hs : cacc T = s at *
        have HS := Hid.mk7 hs
        clear hs
        go_upto_region 6 with fail
        generalize hz : wr.heap.size = z at *
        generalize wr.alloc (.cells #[.int .i64 f, .int .i64 t, .string s] 70) = W at *
        have d0 := RC.out.c0
        have d1 := RC.out.c1
        have d2 := RC.out.c2
        clear c0 c1 c2
        go_wp2_with fail
        refine (HIT.out W).mono ?_
        rintro e w2 ⟨rfl, b2⟩
        have R2 := Hid.mk7 (RC.out.later b2)
        have O2 := Hid.mk7 (HO.out.later b2)
        have B2 := Hid.mk7 (HBX.out.trans (b2.mono HBX.out.size))
        clear d0 d1 d2 RC HO HBX b2 HIT
        have d2 := R2.out.c2
        have hzl := R2.out.lt
        go_wp2_with (at_builtin; refine wpList_append_own _ rfl _ _ 54 rfl w.heap.size 56 i0 (.agg #[.int .i64 0, .int .i64 0, .string ⟨#[]⟩]) 3 32 Tryd.underlying54 HI.out hz0 hz1 hz2 rfl (by decide) _ _ _ rfl (O2.out.alloc _) ⟨_, 0, none⟩ 1 1 [.int .i64 en, .int .i64 en, .string s] rfl rfl (three_newE _ _ _ _ _) (fun u hu => by simp at hu; rcases hu with rfl | rfl | rfl <;> rfl) (by unfold maxLen; omega) (by omega) (by simp; omega) ?_)
        intro v' w3 hown' hgrow _
        have HE3 : Hid (Ix12 es w w3 (k + 1) v' en (A ++ [(en, en, T)])) := by
          refine ⟨?_, ?_, by simp; omega, (B2.out.alloc B2.out.size _).grown hgrow ?_ ?_⟩
          · unfold OwnC
            rw [List.length_append, c3_append, c3_one, HS.out]
            exact hown'
          · rw [HE.out.eq, HQ.out]; simp
          · have := B2.out.size; simp; omega
          · exact fun j hj => (O2.out.lt hj).1
        clear d2 hown' hgrow O2 B2 R2 HE HQ
        go_wp2
        go_roundw
        case rel => exact ⟨k + 1, en, _, by omega, by go_num, rfl, HE3⟩
        case measure => simp [intOf]; omega
    · obtain rfl : k = es.length := by omega
      have HQ : Hid (insX 0 es = A) := by
        show _ = _
        rw [HE.out.eq, List.drop_length]; simp [insX]
      go_wp2
      go_ret
      exact ⟨_, rfl, by rw [HQ.out]; exact HE.out.own.row, hb⟩
end Go.Proofs.YtalolaajcmndeaaDoor
