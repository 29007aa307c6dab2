/- Keep, Build. -/
import Derived.Test.YtalolaajcmndeaaDoorDelElems
namespace Go.Proofs.YtalolaajcmndeaaDoor
open Go.RowKit Go.Sort Go.Lib
set_option linter.unusedSimpArgs false
set_option linter.unusedVariables false

theorem results_del2 {fn : Func} {p u : Tmp} (h : fn.results = #[.cell p 24, .tmp u]) (tmps : Array Value) (w : World) (g : Nat) (x y z : Value)
    (hp : tmps.getD p undef = .pointer (some ⟨g, 0, none⟩)) (hu : tmps.getD u undef = z) (hg : Rd w g x y) : (results fn tmps).run Tryd.prog w = .ok (.tuple #[.agg #[x, y], z]) w := by
  have hp' : tmps[p]?.getD undef = .pointer (some ⟨g, 0, none⟩) := by simpa using hp
  have hu' : tmps[u]?.getD undef = z := by simpa using hu
  simp [results, h, hp', hu', asAddr, run_loadVar_row w g 24 24 _ (0, 0) _ hg Tryd.underlying24 rfl (by kernel_rfl)]
theorem below_set2 {B g : Nat} {a w : World} (h : RowKit.Below B a w) (hg : B ≤ g) (y0 y1 : Value) :
    RowKit.Below B a ((w.setCell ⟨g, 0, none⟩ y0).setCell ⟨g, 1, none⟩ y1) := (h.setCell (p := ⟨g, 0, none⟩) hg _).setCell (p := ⟨g, 1, none⟩) hg _
theorem OwnE.set2 {w : World} {B g : Nat} {v : Value} {es : List El} (h : OwnE w B v es) (hg : g < B) (y0 y1 : Value) : OwnE ((w.setCell ⟨g, 0, none⟩ y0).setCell ⟨g, 1, none⟩ y1) B v es :=
  ownsRow_setCell_below (ownsRow_setCell_below h hg y0) hg y1
set_option maxHeartbeats 2000000 in
set_option maxRecDepth 100000 in
theorem keep_at (base m : Int) (w : World) (h : (base < 0 ∧ m = 0) ∨ (0 ≤ base ∧ base ≤ 20000 ∧ m = base) ∨ (20000 < base ∧ m = 20000)) :
    Calls Tryd.prog 32 #[.int .i64 base] w fun e w' => ∃ v', e = .returned (.agg #[.int .i64 m, v']) ∧ ElAt w' v' (elG m [] 0 []) ∧ RowKit.Below w.heap.size w w' := by
  have HB := Hid.mk7 (below_newE (RowKit.Below.refl w.heap.size w) (.cells #[.int .i64 0, .slice none 0 0] 24))
  have HR := Hid.mk7 (Rd.new w (.int .i64 0) (.slice none 0 0))
  have HEL := Hid.mk7 (fun m => elements_any m (ElAt.nil (w.alloc (.cells #[.int .i64 0, .slice none 0 0] 24))) (by simp) (by simp [inS]))
  have hsz : w.heap.size < (w.alloc (.cells #[.int .i64 0, .slice none 0 0] 24)).heap.size := by simp
  rcases h with ⟨hb, rfl⟩ | ⟨h1, h2, rfl⟩ | ⟨h1, rfl⟩
  · go_enter Tryd.func32, Tryd.ntmps32
    go_wp2_with fail
    all_goals first
      | (exfalso; omega)
      | refine (HEL.out _).mono ?_
        rintro e w1 ⟨v1, rfl, o1, b1⟩
        obtain ⟨a1, cap1, rfl, hc1, _⟩ := own_shapeE o1
        have HR1 := HR.out.later b1
        have HB1 := Hid.mk7 (HB.out.trans (b1.mono HB.out.size))
        have HO1 := Hid.mk7 o1
        have fz := HR1.fz
        have hlt := HR1.lt
        have r0 := HR1.c0
        have r1 := HR1.c1
        clear o1 b1
        go_wp2
        refine bodyPost_ret (results_del rfl _ _ w.heap.size _ _ rfl (HR1.set _ _)) rfl ?_
        exact ⟨_, rfl, (HO1.out.set2 (g := w.heap.size) hsz _ _).row, below_set2 HB1.out (Nat.le_refl _) _ _⟩
  · go_enter Tryd.func32, Tryd.ntmps32
    go_wp2_with fail
    all_goals first
      | (exfalso; omega)
      | refine (HEL.out _).mono ?_
        rintro e w1 ⟨v1, rfl, o1, b1⟩
        obtain ⟨a1, cap1, rfl, hc1, _⟩ := own_shapeE o1
        have HR1 := HR.out.later b1
        have HB1 := Hid.mk7 (HB.out.trans (b1.mono HB.out.size))
        have HO1 := Hid.mk7 o1
        have fz := HR1.fz
        have hlt := HR1.lt
        have r0 := HR1.c0
        have r1 := HR1.c1
        clear o1 b1
        go_wp2
        refine bodyPost_ret (results_del rfl _ _ w.heap.size _ _ rfl (HR1.set _ _)) rfl ?_
        exact ⟨_, rfl, (HO1.out.set2 (g := w.heap.size) hsz _ _).row, below_set2 HB1.out (Nat.le_refl _) _ _⟩
  · go_enter Tryd.func32, Tryd.ntmps32
    go_wp2_with fail
    all_goals first
      | (exfalso; omega)
      | refine (HEL.out _).mono ?_
        rintro e w1 ⟨v1, rfl, o1, b1⟩
        obtain ⟨a1, cap1, rfl, hc1, _⟩ := own_shapeE o1
        have HR1 := HR.out.later b1
        have HB1 := Hid.mk7 (HB.out.trans (b1.mono HB.out.size))
        have HO1 := Hid.mk7 o1
        have fz := HR1.fz
        have hlt := HR1.lt
        have r0 := HR1.c0
        have r1 := HR1.c1
        clear o1 b1
        go_wp2
        refine bodyPost_ret (results_del rfl _ _ w.heap.size _ _ rfl (HR1.set _ _)) rfl ?_
        exact ⟨_, rfl, (HO1.out.set2 (g := w.heap.size) hsz _ _).row, below_set2 HB1.out (Nat.le_refl _) _ _⟩
theorem keep_any (base : Int) (w : World) :
    Calls Tryd.prog 32 #[.int .i64 base] w fun e w' => ∃ v', e = .returned (.agg #[.int .i64 (min (max base 0) 20000), v']) ∧ ElAt w' v' (elG (min (max base 0) 20000) [] 0 []) ∧ RowKit.Below w.heap.size w w' :=
  keep_at base _ w (by omega)
/-- Build's error. -/
def bldE (base : Int) (l : List El) : Int := if flt base l ≠ 0 then flt base l else if 60 < (elG base [] 0 l).length then 70 else 0
set_option maxHeartbeats 2000000 in
set_option maxRecDepth 100000 in
theorem build_bad {w : World} {v : Value} {l : List El} (base : Int) (h : ElAt w v l) (hsm : Sm l 281474976710656) (hl : l.length ≤ 1000) (tb : Nat × Nat) (hT : Tab w tb) (hf : flt base l ≠ 0) :
    Calls Tryd.prog 24 #[.int .i64 base, v] w fun e w' => e = .returned (.tuple #[.agg #[.int .i64 0, .slice none 0 0], .int .i64 (flt base l)]) ∧ RowKit.Below w.heap.size w w' := by
  have HB := Hid.mk7 (below_newE (RowKit.Below.refl w.heap.size w) (.cells #[.int .i64 0, .slice none 0 0] 24))
  have HR := Hid.mk7 (Rd.new w (.int .i64 0) (.slice none 0 0))
  have HF := Hid.mk7 (fault_any base (h.later HB.out) hsm hl tb (hT.later HB.out))
  obtain ⟨r, HRR⟩ : ∃ r, Hid (flt base l = r) := ⟨_, rfl⟩
  rw [HRR.out] at HF hf ⊢
  have d0 : (r != 0) = true := by simpa using hf
  have d1 : decide (r = 0) = false := by simpa using hf
  clear h hT
  go_enter Tryd.func24, Tryd.ntmps24
  go_wp2_with fail
  refine HF.out.mono ?_
  rintro e w1 ⟨rfl, b1⟩
  have HR1 := HR.out.later b1
  have HB1 := Hid.mk7 (HB.out.trans (b1.mono HB.out.size))
  have fz := HR1.fz
  have hlt := HR1.lt
  have r0 := HR1.c0
  have r1 := HR1.c1
  clear b1
  go_wp2
  exact bodyPost_ret (results_del2 rfl _ _ w.heap.size _ _ _ rfl rfl (HR1.set _ _)) rfl ⟨rfl, below_set2 HB1.out (Nat.le_refl _) _ _⟩
set_option maxHeartbeats 2000000 in
set_option maxRecDepth 100000 in
theorem build_good {w : World} {v : Value} {l : List El} (base : Int) (h : ElAt w v l) (hsm : Sm l 281474976710656) (hl : l.length ≤ 1000) (hin : inS l ≤ 100000) (tb : Nat × Nat) (hT : Tab w tb) (hf : flt base l = 0) (hm : (elG base [] 0 l).length ≤ 60) :
    Calls Tryd.prog 24 #[.int .i64 base, v] w fun e w' => ∃ v', e = .returned (.tuple #[.agg #[.int .i64 base, v'], .int .i64 0]) ∧ ElAt w' v' (elG base [] 0 l) ∧ RowKit.Below w.heap.size w w' := by
  have HB := Hid.mk7 (below_newE (RowKit.Below.refl w.heap.size w) (.cells #[.int .i64 0, .slice none 0 0] 24))
  have HR := Hid.mk7 (Rd.new w (.int .i64 0) (.slice none 0 0))
  have HF := Hid.mk7 (fault_any base (h.later HB.out) hsm hl tb (hT.later HB.out))
  have HV := Hid.mk7 (h.later HB.out)
  have hsz : w.heap.size < (w.alloc (.cells #[.int .i64 0, .slice none 0 0] 24)).heap.size := by simp
  rw [hf] at HF
  clear h hT
  obtain ⟨es, HE⟩ : ∃ es, Hid (elG base [] 0 l = es) := ⟨_, rfl⟩
  rw [HE.out] at hm ⊢
  go_enter Tryd.func24, Tryd.ntmps24
  go_wp2_with fail
  refine HF.out.mono ?_
  rintro e w1 ⟨rfl, b1⟩
  have HR1 := Hid.mk7 (HR.out.later b1)
  have HB1 := Hid.mk7 (HB.out.trans (b1.mono HB.out.size))
  have HEL := Hid.mk7 (elements_any base (HV.out.later b1) hl hin)
  have hsz1 : w.heap.size < w1.heap.size := by have := b1.size; omega
  clear b1
  go_wp2_with fail
  refine HEL.out.mono ?_
  rintro e w2 ⟨v2, rfl, o2, b2⟩
  rw [HE.out] at o2
  obtain ⟨a2, cap2, rfl, hc2, _⟩ := own_shapeE o2
  have HR2 := HR1.out.later b2
  have HB2 := Hid.mk7 (HB1.out.trans (b2.mono HB1.out.size))
  have HO2 := Hid.mk7 o2
  have fz := HR2.fz
  have hlt := HR2.lt
  have r0 := HR2.c0
  have r1 := HR2.c1
  clear o2 b2
  go_wp2
  refine bodyPost_ret (results_del2 rfl _ _ w.heap.size _ _ _ rfl rfl (HR2.set _ _)) rfl ?_
  exact ⟨_, rfl, (HO2.out.set2 (g := w.heap.size) hsz1 _ _).row, below_set2 HB2.out (Nat.le_refl _) _ _⟩
set_option maxHeartbeats 2000000 in
set_option maxRecDepth 100000 in
theorem build_many {w : World} {v : Value} {l : List El} (base : Int) (h : ElAt w v l) (hsm : Sm l 281474976710656) (hl : l.length ≤ 1000) (hin : inS l ≤ 100000) (tb : Nat × Nat) (hT : Tab w tb) (hf : flt base l = 0) (hm : 60 < (elG base [] 0 l).length) :
    Calls Tryd.prog 24 #[.int .i64 base, v] w fun e w' => e = .returned (.tuple #[.agg #[.int .i64 0, .slice none 0 0], .int .i64 70]) ∧ RowKit.Below w.heap.size w w' := by
  have HB := Hid.mk7 (below_newE (RowKit.Below.refl w.heap.size w) (.cells #[.int .i64 0, .slice none 0 0] 24))
  have HR := Hid.mk7 (Rd.new w (.int .i64 0) (.slice none 0 0))
  have HF := Hid.mk7 (fault_any base (h.later HB.out) hsm hl tb (hT.later HB.out))
  have HV := Hid.mk7 (h.later HB.out)
  rw [hf] at HF
  clear h hT
  obtain ⟨es, HE⟩ : ∃ es, Hid (elG base [] 0 l = es) := ⟨_, rfl⟩
  rw [HE.out] at hm
  go_enter Tryd.func24, Tryd.ntmps24
  go_wp2_with fail
  refine HF.out.mono ?_
  rintro e w1 ⟨rfl, b1⟩
  have HR1 := Hid.mk7 (HR.out.later b1)
  have HB1 := Hid.mk7 (HB.out.trans (b1.mono HB.out.size))
  have HEL := Hid.mk7 (elements_any base (HV.out.later b1) hl hin)
  clear b1
  go_wp2_with fail
  refine HEL.out.mono ?_
  rintro e w2 ⟨v2, rfl, o2, b2⟩
  rw [HE.out] at o2
  obtain ⟨a2, cap2, rfl, hc2, _⟩ := own_shapeE o2
  have HR2 := HR1.out.later b2
  have HB2 := Hid.mk7 (HB1.out.trans (b2.mono HB1.out.size))
  have fz := HR2.fz
  have hlt := HR2.lt
  have r0 := HR2.c0
  have r1 := HR2.c1
  clear o2 b2
  go_wp2
  exact bodyPost_ret (results_del2 rfl _ _ w.heap.size _ _ _ rfl rfl (HR2.set _ _)) rfl ⟨rfl, below_set2 HB2.out (Nat.le_refl _) _ _⟩
end Go.Proofs.YtalolaajcmndeaaDoor
