/- Size, Adds, Drops. -/
import Derived.Test.YtalolaajcmndeaaDoorDelIsC
namespace Go.Proofs.YtalolaajcmndeaaDoor
open Go.RowKit Go.Sort
set_option linter.unusedSimpArgs false
set_option linter.unusedVariables false

theorem ret_intE {a b : Int} (h : a = b) : Ending.returned (.int .i64 a) = .returned (.int .i64 b) := by rw [h]
/-- What a delta's bounds are. -/
structure Dl (base : Int) (es : List El) : Prop where
  b0 : 0 ≤ base
  b1 : base ≤ 20000
  len : es.length ≤ 60
  bd : Bd es
  cp0 : 0 ≤ cpS es
  cp1 : cpS es ≤ base
  sz : cpS es + (inS es : Int) ≤ 20000
  nm : Nm base 0 0 es
  vl : ∀ e ∈ es, vld e.2.2 = true
theorem dl_of {base : Int} {es : List El} (h : isB base es = true) : Dl base es := by
  obtain ⟨⟨h1, h2, h3⟩, h4, h5, h6⟩ := isB_spec.1 h
  have hb := nm_bd h2 es 0 0 (Int.le_refl _) h4
  have hc := nm_cp es 0 0 h4
  rw [szE_two] at h6
  exact ⟨h1, h2, h3, hb, (cpS_bd es hb).1, by omega, h6, h4, h5⟩
theorem of_dl {base : Int} {es : List El} (h : Dl base es) : isB base es = true :=
  isB_spec.2 ⟨⟨h.b0, h.b1, h.len⟩, h.nm, h.vl, by rw [szE_two]; exact h.sz⟩
theorem Dl.sm {base : Int} {es : List El} (h : Dl base es) : Sm es 20000 := by
  have : ∀ (l : List El) (e : El), e ∈ l → e.2.2.length ≤ inS l := by
    intro l e he
    induction l with
    | nil => cases he
    | cons x l ih =>
      simp only [inS, List.map_cons, List.sum_cons] at *
      rcases List.mem_cons.1 he with rfl | he
      · omega
      · have := ih he; omega
  intro e he
  have h1 := this es e he
  have h2 := h.sz
  have h3 := h.cp0
  omega
set_option maxHeartbeats 2000000 in
set_option maxRecDepth 100000 in
theorem size_anyE {w : World} {v : Value} {es : List El} (base : Int) (h : ElAt w v es) (hsm : Sm es 281474976710656) (tb : Nat × Nat) (hT : Tab w tb) :
    Calls Tryd.prog 37 #[.agg #[.int .i64 base, v]] w fun e w' => e = .returned (.int .i64 (if isB base es then szE es else 0)) ∧ Below w.heap.size w w' := by
  have HV := Hid.mk7 (h.alloc (.cells #[.int .i64 base, v] 24))
  obtain ⟨a, cap, rfl, _⟩ := id h
  have BB := Hid.mk7 (below_newE (Below.refl w.heap.size w) (.cells #[.int .i64 base, .slice a es.length cap] 24))
  have RDH := Hid.mk7 (Rd.new w (.int .i64 base) (.slice a es.length cap))
  have HIS := Hid.mk7 (is_any base HV.out hsm tb (hT.later BB.out))
  clear h hT
  by_cases hi : isB base es = true
  · rw [hi] at HIS ⊢
    have hd := dl_of hi
    have HSZ := Hid.mk7 (szE_two es)
    rw [if_pos rfl]
    have r0 := RDH.out.c0
    have r1 := RDH.out.c1
    go_enter Tryd.func37, Tryd.ntmps37
    go_wp2_with fail
    refine HIS.out.mono ?_
    rintro e w1 ⟨rfl, b1⟩
    have RD1 := RDH.out.later b1
    have hb := BB.out.trans (b1.mono BB.out.size)
    have HV1 := Hid.mk7 (HV.out.later b1)
    have HCC := Hid.mk7 (fun d os => Calls.regrown_of (copied_any (HV1.out.later (below_regrown w1 d os)) hd.bd (by have := hd.len; omega)))
    have HCI := Hid.mk7 (fun d os => Calls.regrown_of (inserted_any (HV1.out.later (below_regrown w1 d os)) hsm (by have := hd.len; omega)))
    have z0 := cell_regrown RD1.c0
    have z1 := cell_regrown RD1.c1
    have hcp := hd.cp0
    have hsz := hd.sz
    clear HIS RD1 r0 r1 hd hsm b1 HV
    generalize cpS es = cp at *
    generalize inS es = im at *
    go_wp2
    refine wp_region_quiet_below (by kernel_rfl) (by kernel_rfl) ?_
    repeat (go_big_quiet_step (first | (go_at_call 52; exact HCC.out _ _) | (go_at_call 53; exact HCI.out _ _)))
    refine wpQuiet_nil ?_
    intro _ hw'
    obtain ⟨⟨dq, osq⟩, hw''⟩ := hw'
    subst hw''
    have hb2 := hb.trans ((below_regrown w1 dq osq).mono hb.size)
    clear z0 z1 HCC HCI hb
    generalize grow (redrawn w1 dq) osq = W at *
    go_wp2
    go_ret
    exact ⟨ret_intE (by rw [HSZ.out]), hb2⟩
  · have hi' : isB base es = false := by simpa using hi
    rw [hi'] at HIS ⊢
    rw [if_neg (by simp)]
    have r0 := RDH.out.c0
    have r1 := RDH.out.c1
    go_enter Tryd.func37, Tryd.ntmps37
    go_wp2_with fail
    refine HIS.out.mono ?_
    rintro e w1 ⟨rfl, b1⟩
    go_wp2
    go_ret
    exact ⟨rfl, BB.out.trans (b1.mono BB.out.size)⟩
set_option maxHeartbeats 2000000 in
set_option maxRecDepth 100000 in
theorem adds_anyE {w : World} {v : Value} {es : List El} (base : Int) (h : ElAt w v es) (hsm : Sm es 281474976710656) (tb : Nat × Nat) (hT : Tab w tb) :
    Calls Tryd.prog 31 #[.agg #[.int .i64 base, v]] w fun e w' => e = .returned (.int .i64 (if isB base es then (inS es : Int) else 0)) ∧ Below w.heap.size w w' := by
  have HV := Hid.mk7 (h.alloc (.cells #[.int .i64 base, v] 24))
  obtain ⟨a, cap, rfl, _⟩ := id h
  have BB := Hid.mk7 (below_newE (Below.refl w.heap.size w) (.cells #[.int .i64 base, .slice a es.length cap] 24))
  have RDH := Hid.mk7 (Rd.new w (.int .i64 base) (.slice a es.length cap))
  have HIS := Hid.mk7 (is_any base HV.out hsm tb (hT.later BB.out))
  clear h hT
  have r0 := RDH.out.c0
  have r1 := RDH.out.c1
  by_cases hi : isB base es = true
  · rw [hi] at HIS ⊢
    have hd := dl_of hi
    rw [if_pos rfl]
    go_enter Tryd.func31, Tryd.ntmps31
    go_wp2_with fail
    refine HIS.out.mono ?_
    rintro e w1 ⟨rfl, b1⟩
    have RD1 := RDH.out.later b1
    have hb := BB.out.trans (b1.mono BB.out.size)
    have HCI := Hid.mk7 (inserted_any (HV.out.later b1) hsm (by have := hd.len; omega))
    have z0 := RD1.c0
    have z1 := RD1.c1
    clear HIS RD1 r0 r1 hd hsm b1 HV
    go_wp2_with fail
    refine HCI.out.mono ?_
    rintro e w2 ⟨rfl, b2⟩
    go_wp2
    go_ret
    exact ⟨rfl, hb.trans (b2.mono hb.size)⟩
  · have hi' : isB base es = false := by simpa using hi
    rw [hi'] at HIS ⊢
    rw [if_neg (by simp)]
    go_enter Tryd.func31, Tryd.ntmps31
    go_wp2_with fail
    refine HIS.out.mono ?_
    rintro e w1 ⟨rfl, b1⟩
    go_wp2
    go_ret
    exact ⟨rfl, BB.out.trans (b1.mono BB.out.size)⟩
set_option maxHeartbeats 2000000 in
set_option maxRecDepth 100000 in
theorem drops_anyE {w : World} {v : Value} {es : List El} (base : Int) (h : ElAt w v es) (hsm : Sm es 281474976710656) (tb : Nat × Nat) (hT : Tab w tb) :
    Calls Tryd.prog 28 #[.agg #[.int .i64 base, v]] w fun e w' => e = .returned (.int .i64 (if isB base es then base - cpS es else 0)) ∧ Below w.heap.size w w' := by
  have HV := Hid.mk7 (h.alloc (.cells #[.int .i64 base, v] 24))
  obtain ⟨a, cap, rfl, _⟩ := id h
  have BB := Hid.mk7 (below_newE (Below.refl w.heap.size w) (.cells #[.int .i64 base, .slice a es.length cap] 24))
  have RDH := Hid.mk7 (Rd.new w (.int .i64 base) (.slice a es.length cap))
  have HIS := Hid.mk7 (is_any base HV.out hsm tb (hT.later BB.out))
  clear h hT
  have r0 := RDH.out.c0
  have r1 := RDH.out.c1
  by_cases hi : isB base es = true
  · rw [hi] at HIS ⊢
    have hd := dl_of hi
    rw [if_pos rfl]
    go_enter Tryd.func28, Tryd.ntmps28
    go_wp2_with fail
    refine HIS.out.mono ?_
    rintro e w1 ⟨rfl, b1⟩
    have RD1 := RDH.out.later b1
    have hb := BB.out.trans (b1.mono BB.out.size)
    have HV1 := Hid.mk7 (HV.out.later b1)
    have HCC := Hid.mk7 (fun d os => Calls.regrown_of (copied_any (HV1.out.later (below_regrown w1 d os)) hd.bd (by have := hd.len; omega)))
    have z0 := cell_regrown RD1.c0
    have z1 := cell_regrown RD1.c1
    have hcp := hd.cp0
    have hcp1 := hd.cp1
    have hb0 := hd.b1
    clear HIS RD1 r0 r1 hd hsm b1 HV
    obtain ⟨cp, HE⟩ : ∃ x, Hid (cpS es = x) := ⟨_, rfl⟩
    rw [HE.out] at HCC hcp hcp1
    go_wp2
    refine wp_region_quiet_below (by kernel_rfl) (by kernel_rfl) ?_
    repeat (go_big_quiet_step (first | (go_at_call 52; exact HCC.out _ _)))
    refine wpQuiet_nil ?_
    intro _ hw'
    obtain ⟨⟨dq, osq⟩, hw''⟩ := hw'
    subst hw''
    have hb2 := hb.trans ((below_regrown w1 dq osq).mono hb.size)
    clear z0 z1 HCC hb
    generalize grow (redrawn w1 dq) osq = W at *
    go_wp2
    go_ret
    exact ⟨ret_intE (by rw [HE.out]), hb2⟩
  · have hi' : isB base es = false := by simpa using hi
    rw [hi'] at HIS ⊢
    rw [if_neg (by simp)]
    go_enter Tryd.func28, Tryd.ntmps28
    go_wp2_with fail
    refine HIS.out.mono ?_
    rintro e w1 ⟨rfl, b1⟩
    go_wp2
    go_ret
    exact ⟨rfl, BB.out.trans (b1.mono BB.out.size)⟩
end Go.Proofs.YtalolaajcmndeaaDoor
