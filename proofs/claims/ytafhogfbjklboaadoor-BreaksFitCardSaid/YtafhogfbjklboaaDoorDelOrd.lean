/- within, ordered, valid, sizeOf, fault. ordered, fault. -/
import Derived.Test.YtafhogfbjklboaaDoorDelApply
namespace Go.Proofs.YtafhogfbjklboaaDoor
open Go.RowKit Go.Sort
set_option linter.unusedSimpArgs false
set_option linter.unusedVariables false

def wthE (base : Int) (e : El) : Bool := decide (0 ≤ e.1 ∧ e.1 ≤ e.2.1 ∧ e.2.1 ≤ base)
def wthB (base : Int) (l : List El) : Bool := l.all (wthE base)
def ordE (a b : El) : Bool := decide (a.2.1 ≤ b.1 ∧ b.1 ≠ a.1)
def ordB : List El → Bool
  | [] => true
  | [_] => true
  | a :: b :: l => ordE a b && ordB (b :: l)
def vldB (l : List El) : Bool := l.all fun e => vld e.2.2
/-- The first error, but for too many. -/
def flt (base : Int) (l : List El) : Int :=
  if (decide (0 ≤ base ∧ base ≤ 20000) && wthB base l) = false then 10
  else if ordB l = false then 180
  else if vldB l = false then 12
  else if 20000 < sz8 base l then 13 else 0
theorem all_take {α : Type} {p : α → Bool} {l : List α} {k : Nat} {e : α} (h : l[k]? = some e) : (l.take (k + 1)).all p = ((l.take k).all p && p e) := by
  rw [take_snoc7 h]; simp
theorem all_bad {α : Type} {p : α → Bool} {l : List α} {k : Nat} {e : α} (h : l[k]? = some e) (hp : p e = false) : l.all p = false := by
  rw [List.all_eq_false]
  exact ⟨e, List.mem_of_getElem? h, by simp [hp]⟩
set_option maxHeartbeats 1000000 in
set_option maxRecDepth 100000 in
theorem within_anyE {w : World} {v : Value} {l : List El} (base : Int) (h : ElAt w v l) (hl : l.length ≤ 281474976710656) :
    Calls Tryd.prog 56 #[.int .i64 base, v] w fun e w' => e = .returned (.bool (wthB base l)) ∧ Below w.heap.size w w' := by
  obtain ⟨a, cap, rfl, hcap, _, hcells⟩ := h
  have HC := Hid.mk7 hcells
  clear hcells
  go_enter Tryd.func56, Tryd.ntmps56
  go_wp2
  go_loopw [9] (fun iv wr => ∃ k : Nat, k ≤ l.length ∧ iv = .int .i64 (k : Nat) ∧ Hid ((l.take k).all (wthE base) = true) ∧ Below w.heap.size w wr) (fun iv _ => l.length - (intOf iv).toNat)
  case atStart => exact ⟨0, Nat.zero_le _, rfl, rfl, Below.refl _ _⟩
  case round =>
    obtain ⟨k, hk, rfl, HA, hb⟩ := hrel
    by_cases hlt : k < l.length
    · obtain ⟨⟨f, t, T⟩, hr⟩ : ∃ r, l[k]? = some r := ⟨l[k], List.getElem?_eq_getElem hlt⟩
      obtain ⟨g, off, rfl, q0, q1, q2⟩ := HC.out k _ hr
      have c0 := cell_later7 hb (Nat.le_refl _) q0
      have c1 := cell_later7 hb (Nat.le_refl _) q1
      have c2 := cell_later7 hb (Nat.le_refl _) q2
      simp only at c0 c1 c2
      have HT := Hid.mk7 (all_take (p := wthE base) hr)
      have HBAD := Hid.mk7 (all_bad (p := wthE base) hr)
      have hb2 := below_newE hb (.cells #[.int .i64 f, .int .i64 t, .string (cacc T)] 51)
      clear q0 q1 q2 hr
      generalize cacc T = s at *
      by_cases h1 : f < 0
      · have d1 : decide (f < 0) = true := decide_eq_true h1
        have HF : Hid (wthB base l = false) := HBAD.out (by unfold wthE; exact decide_eq_false (by simp only; omega))
        go_wp2
        go_ret
        exact ⟨ret_boolE HF.out.symm, hb2⟩
      · have d1 : decide (f < 0) = false := decide_eq_false h1
        by_cases h2 : t < f
        · have d2 : decide (t < f) = true := decide_eq_true h2
          have HF : Hid (wthB base l = false) := HBAD.out (by unfold wthE; exact decide_eq_false (by simp only; omega))
          go_wp2
          go_ret
          exact ⟨ret_boolE HF.out.symm, hb2⟩
        · have d2 : decide (t < f) = false := decide_eq_false h2
          by_cases h3 : base < t
          · have d3 : decide (base < t) = true := decide_eq_true h3
            have HF : Hid (wthB base l = false) := HBAD.out (by unfold wthE; exact decide_eq_false (by simp only; omega))
            go_wp2
            go_ret
            exact ⟨ret_boolE HF.out.symm, hb2⟩
          · have d3 : decide (base < t) = false := decide_eq_false h3
            have HA2 : Hid ((l.take (k + 1)).all (wthE base) = true) := by
              show _ = _
              rw [HT.out, HA.out, Bool.true_and]
              unfold wthE
              exact decide_eq_true (by simp only; omega)
            go_wp2
            go_roundw
            case rel => exact ⟨k + 1, by omega, by go_num, HA2, hb2⟩
            case measure => simp [intOf]; omega
    · obtain rfl : k = l.length := by omega
      have HF : Hid (wthB base l = true) := by have := HA.out; rw [List.take_length] at this; exact this
      go_wp2
      go_ret
      exact ⟨ret_boolE HF.out.symm, hb⟩
set_option maxHeartbeats 1000000 in
set_option maxRecDepth 100000 in
theorem valid_anyE {w : World} {v : Value} {l : List El} (h : ElAt w v l) (hsm : Sm l 281474976710656) (hl : l.length ≤ 281474976710656) (tb : Nat × Nat) (hT : Tab w tb) :
    Calls Tryd.prog 58 #[v] w fun e w' => e = .returned (.bool (vldB l)) ∧ Below w.heap.size w w' := by
  obtain ⟨a, cap, rfl, hcap, _, hcells⟩ := h
  have HC := Hid.mk7 hcells
  have HS := Hid.mk7 hsm
  have HT := Hid.mk7 hT
  clear hcells hsm hT
  go_enter Tryd.func58, Tryd.ntmps58
  go_wp2
  go_loopw [7] (fun iv wr => ∃ k : Nat, k ≤ l.length ∧ iv = .int .i64 (k : Nat) ∧ Hid ((l.take k).all (fun e => vld e.2.2) = true) ∧ Below w.heap.size w wr) (fun iv _ => l.length - (intOf iv).toNat)
  case atStart => exact ⟨0, Nat.zero_le _, rfl, rfl, Below.refl _ _⟩
  case round =>
    obtain ⟨k, hk, rfl, HA, hb⟩ := hrel
    by_cases hlt : k < l.length
    · obtain ⟨⟨f, t, T⟩, hr⟩ : ∃ r, l[k]? = some r := ⟨l[k], List.getElem?_eq_getElem hlt⟩
      obtain ⟨g, off, rfl, q0, q1, q2⟩ := HC.out k _ hr
      have c0 := cell_later7 hb (Nat.le_refl _) q0
      have c1 := cell_later7 hb (Nat.le_refl _) q1
      have c2 := cell_later7 hb (Nat.le_refl _) q2
      simp only at c0 c1 c2
      have HT2 := Hid.mk7 (all_take (p := fun e : El => vld e.2.2) hr)
      have HBAD := Hid.mk7 (all_bad (p := fun e : El => vld e.2.2) hr)
      have hb2 := below_newE hb (.cells #[.int .i64 f, .int .i64 t, .string (cacc T)] 51)
      have hs := HS.out _ (List.mem_of_getElem? hr)
      have HV := Hid.mk7 (valid_any (cacc T) (wr.alloc (.cells #[.int .i64 f, .int .i64 t, .string (cacc T)] 51)) tb (by rw [cacc_size]; unfold maxLen; simp only at hs; omega) (HT.out.later hb2))
      rw [cacc_toList] at HV
      clear q0 q1 q2 hr
      generalize cacc T = s at *
      by_cases h1 : vld T = true
      · rw [h1] at HV
        have HA2 : Hid ((l.take (k + 1)).all (fun e => vld e.2.2) = true) := by show _ = _; rw [HT2.out, HA.out, Bool.true_and]; exact h1
        go_wp2_with fail
        refine HV.out.mono ?_
        rintro e w3 ⟨rfl, b3⟩
        have hb3 := hb2.trans (b3.mono hb2.size)
        clear HV b3 hb2 hb c0 c1 c2
        go_wp2
        go_roundw
        case rel => exact ⟨k + 1, by omega, by go_num, HA2, hb3⟩
        case measure => simp [intOf]; omega
      · have h1' : vld T = false := by simpa using h1
        rw [h1'] at HV
        have HF : Hid (vldB l = false) := HBAD.out h1'
        go_wp2_with fail
        refine HV.out.mono ?_
        rintro e w3 ⟨rfl, b3⟩
        go_wp2
        go_ret
        exact ⟨ret_boolE HF.out.symm, hb2.trans (b3.mono hb2.size)⟩
    · obtain rfl : k = l.length := by omega
      have HF : Hid (vldB l = true) := by have := HA.out; rw [List.take_length] at this; exact this
      go_wp2
      go_ret
      exact ⟨ret_boolE HF.out.symm, hb⟩
theorem sz8_append (base : Int) (a b : List El) : sz8 base (a ++ b) = sz8 base a + (b.map fun e => (e.2.2.length : Int) - (e.2.1 - e.1)).sum := by
  simp [sz8]; omega
set_option maxHeartbeats 1000000 in
set_option maxRecDepth 100000 in
theorem sizeOf_any {w : World} {v : Value} {l : List El} (base : Int) (h : ElAt w v l) (hsm : Sm l 281474976710656) (hbd : Bd l) (hl : l.length ≤ 1000) (hb0 : 0 ≤ base ∧ base ≤ 20000) :
    Calls Tryd.prog 59 #[.int .i64 base, v] w fun e w' => e = .returned (.int .i64 (sz8 base l)) ∧ Below w.heap.size w w' := by
  obtain ⟨a, cap, rfl, hcap, _, hcells⟩ := h
  have HC := Hid.mk7 hcells
  have HS := Hid.mk7 hsm
  have HB := Hid.mk7 hbd
  clear hcells hsm hbd
  go_enter Tryd.func59, Tryd.ntmps59
  go_wp2
  go_loopw [5, 11] (fun nv iv wr => ∃ (k : Nat) (n : Int), k ≤ l.length ∧ iv = .int .i64 (k : Nat) ∧ nv = .int .i64 n ∧ Hid (n = sz8 base (l.take k)) ∧ -20000 * (k : Int) ≤ n ∧ n ≤ 20000 + 281474976710656 * (k : Int) ∧ Below w.heap.size w wr) (fun _ iv _ => l.length - (intOf iv).toNat)
  case atStart => exact ⟨0, base, Nat.zero_le _, rfl, rfl, by show _ = _; simp [sz8], by omega, by omega, Below.refl _ _⟩
  case round =>
    obtain ⟨k, n, hk, rfl, rfl, HN, hn0, hn1, hb⟩ := hrel
    by_cases hlt : k < l.length
    · obtain ⟨⟨f, t, T⟩, hr⟩ : ∃ r, l[k]? = some r := ⟨l[k], List.getElem?_eq_getElem hlt⟩
      obtain ⟨g, off, rfl, q0, q1, q2⟩ := HC.out k _ hr
      have c0 := cell_later7 hb (Nat.le_refl _) q0
      have c1 := cell_later7 hb (Nat.le_refl _) q1
      have c2 := cell_later7 hb (Nat.le_refl _) q2
      simp only at c0 c1 c2
      have hd := HB.out _ (List.mem_of_getElem? hr)
      have hs := HS.out _ (List.mem_of_getElem? hr)
      simp only at hd hs
      have HN2 : Hid (n + ((T.length : Int) - (t - f)) = sz8 base (l.take (k + 1))) := by show _ = _; rw [HN.out, take_snoc7 hr, sz8_append]; simp
      have hb2 := below_newE hb (.cells #[.int .i64 f, .int .i64 t, .string (cacc T)] 51)
      have hsz : (cacc T).size = T.length := cacc_size T
      clear q0 q1 q2 hr
      generalize cacc T = s at *
      generalize T.length = m at *
      subst hsz
      go_wp2
      go_roundw
      case rel => exact ⟨k + 1, n + ((s.size : Int) - (t - f)), by omega, by go_num, by go_num, HN2, by omega, by omega, hb2⟩
      case measure => simp [intOf]; omega
    · obtain rfl : k = l.length := by omega
      have HE : Hid (sz8 base l = n) := by show _ = _; rw [HN.out, List.take_length]
      go_wp2
      go_ret
      exact ⟨ret_intE HE.out.symm, hb⟩
end Go.Proofs.YtafhogfbjklboaaDoor
namespace Go.Proofs.YtafhogfbjklboaaDoor
open Go.RowKit Go.Sort
set_option linter.unusedSimpArgs false
set_option linter.unusedVariables false

/-- Block g holds a change's three cells. -/
def Rc (w : World) (g : Nat) (x y z : Value) : Prop := w.heap[g]? = some (.cells #[x, y, z] 51)
theorem Rc.c0 {w : World} {g : Nat} {x y z : Value} (h : Rc w g x y z) : w.cell? ⟨g, 0, none⟩ = some x := cell_of_row w g 0 _ _ _ h
theorem Rc.c1 {w : World} {g : Nat} {x y z : Value} (h : Rc w g x y z) : w.cell? ⟨g, 1, none⟩ = some y := cell_of_row w g 1 _ _ _ h
theorem Rc.c2 {w : World} {g : Nat} {x y z : Value} (h : Rc w g x y z) : w.cell? ⟨g, 2, none⟩ = some z := cell_of_row w g 2 _ _ _ h
theorem Rc.fz {w : World} {g : Nat} {x y z : Value} (h : Rc w g x y z) (j : Nat) : w.frozen? ⟨g, j, none⟩ = false := frozen_of_row w g j _ _ h
theorem Rc.lt {w : World} {g : Nat} {x y z : Value} (h : Rc w g x y z) : g < w.heap.size := (Array.getElem?_eq_some_iff.1 h).1
theorem Rc.new (w : World) (x y z : Value) : Rc (w.alloc (.cells #[x, y, z] 51)) w.heap.size x y z := heap_alloc_new w _
theorem Rc.alloc {w : World} {g : Nat} {x y z : Value} (h : Rc w g x y z) (o : Obj) : Rc (w.alloc o) g x y z := (Below.heap_alloc w o g h.lt).trans h
theorem Rc.later {w w' : World} {g : Nat} {x y z : Value} (h : Rc w g x y z) (hb : Below w.heap.size w w') : Rc w' g x y z := (hb.block g h.lt).trans h
theorem Rc.set {w : World} {g : Nat} {x y z : Value} (h : Rc w g x y z) (x' y' z' : Value) : Rc (((w.setCell ⟨g, 0, none⟩ x').setCell ⟨g, 1, none⟩ y').setCell ⟨g, 2, none⟩ z') g x' y' z' := by
  have e0 := heap_setCell_same w g 0 _ _ x' h
  have e1 := heap_setCell_same _ g 1 _ _ y' e0
  have e2 := heap_setCell_same _ g 2 _ _ z' e1
  unfold Rc
  rw [e2]
  simp
theorem Rc.other {w : World} {g g' : Nat} {x y z : Value} (h : Rc w g x y z) (hne : g ≠ g') (x' y' z' : Value) : Rc (((w.setCell ⟨g', 0, none⟩ x').setCell ⟨g', 1, none⟩ y').setCell ⟨g', 2, none⟩ z') g x y z := by
  unfold Rc; rw [heap_setCell_other _ _ _ _ hne, heap_setCell_other _ _ _ _ hne, heap_setCell_other _ _ _ _ hne]; exact h
theorem below_set3 {B g : Nat} {a w : World} (h : Below B a w) (hg : B ≤ g) (y0 y1 y2 : Value) :
    Below B a (((w.setCell ⟨g, 0, none⟩ y0).setCell ⟨g, 1, none⟩ y1).setCell ⟨g, 2, none⟩ y2) :=
  ((h.setCell (p := ⟨g, 0, none⟩) hg _).setCell (p := ⟨g, 1, none⟩) hg _).setCell (p := ⟨g, 2, none⟩) hg _
theorem anyNext_belowE {P : Program} {l : List Oper} {z k fuel : Nat} {Q : Exit → Act → World → Prop} {listed : Array Bool} {a : Act} {w w3 : World} (hb : Below w.heap.size w w3) (h : wpAnyC P l.toArray (fun w' => ∃ p : Regrown, w' = grow (redrawn w p.d) p.os) z (noPanic Q) fuel listed a w3) :
    AnyNext P l (fun w' => ∃ p : Regrown, w' = grow (redrawn w p.d) p.os) z Q k fuel listed .normal a w3 := anyNext_mk (regrown_of_below hb) h
theorem ordB_one {l : List El} {j : Nat} (h : l.length ≤ j + 1) : ordB (l.drop j) = true := by
  have : (l.drop j).length ≤ 1 := by simp; omega
  match e : l.drop j, this with
  | [], _ => rfl
  | [a], _ => rfl
theorem ordB_step {l : List El} {j : Nat} {a b : El} (ha : l[j]? = some a) (hb : l[j + 1]? = some b) : ordB (l.drop j) = (ordE a b && ordB (l.drop (j + 1))) := by
  rw [drop_consE ha, drop_consE hb]; rfl
set_option maxHeartbeats 4000000 in
set_option maxRecDepth 100000 in
theorem ordered_any {w : World} {v : Value} {l : List El} (h : ElAt w v l) (hl : l.length ≤ 281474976710656) :
    Calls Tryd.prog 57 #[v] w fun e w' => e = .returned (.bool (ordB l)) ∧ Below w.heap.size w w' := by
  obtain ⟨a, cap, rfl, hcap, _, hcells⟩ := h
  have HC := Hid.mk7 hcells
  clear hcells
  go_enter Tryd.func57, Tryd.ntmps57
  go_wp2
  go_loopw [3] (fun iv wr => ∃ j : Nat, (j + 1 ≤ l.length ∨ j = 0) ∧ iv = .int .i64 ((j : Int) + 1) ∧ Hid (ordB l = ordB (l.drop j)) ∧ Below w.heap.size w wr) (fun iv _ => l.length + 1 - (intOf iv).toNat)
  case atStart => exact ⟨0, Or.inr rfl, rfl, rfl, Below.refl _ _⟩
  case round =>
    obtain ⟨j, hj, rfl, HO, hb⟩ := hrel
    by_cases hlt : j + 1 < l.length
    · obtain ⟨⟨f, t, T⟩, hr⟩ : ∃ r, l[j]? = some r := ⟨l[j], List.getElem?_eq_getElem (by omega)⟩
      obtain ⟨⟨f', t', T'⟩, hq⟩ : ∃ r, l[j + 1]? = some r := ⟨l[j + 1], List.getElem?_eq_getElem hlt⟩
      obtain ⟨g, off, rfl, q0, q1, q2⟩ := HC.out j _ hr
      obtain ⟨g', off', he', q3, q4, q5⟩ := HC.out (j + 1) _ hq
      cases he'
      have c0 := cell_regrown (cell_later7 hb (Nat.le_refl _) q0)
      have c1 := cell_regrown (cell_later7 hb (Nat.le_refl _) q1)
      have c2 := cell_regrown (cell_later7 hb (Nat.le_refl _) q2)
      have c3 := cell_regrown (cell_later7 hb (Nat.le_refl _) q3)
      have c4 := cell_regrown (cell_later7 hb (Nat.le_refl _) q4)
      have c5 := cell_regrown (cell_later7 hb (Nat.le_refl _) q5)
      simp only at c0 c1 c2 c3 c4 c5
      have HST := Hid.mk7 (ordB_step hr hq)
      have hi1 : (j : Int) + 1 < (l.length : Int) := by omega
      clear q0 q1 q2 q3 q4 q5 hr hq hj
      generalize cacc T = s at *
      generalize cacc T' = s' at *
      go_upto_region 4 with fail
      go_cut [4, 5] from 12 to 20 (fun s4 s5 wx => ∃ b4 b5, s4 = .pointer (some ⟨b4, 0, none⟩) ∧ s5 = .pointer (some ⟨b5, 0, none⟩) ∧ Hid (Rc wx b4 (.int .i64 f) (.int .i64 t) (.string s)) ∧ Hid (Rc wx b5 (.int .i64 f') (.int .i64 t') (.string s')) ∧ Hid (Below w.heap.size w wx))
      case first =>
        refine wp_region_turns (fun w' => ∃ p : Regrown, w' = grow (redrawn wr p.d) p.os) [0, 1, 2, 3, 4, 5, 6, 7, 8] 12 4 (by kernel_rfl) (by kernel_rfl) (fun d => ⟨⟨d, #[]⟩, by rw [grow_empty]⟩) ?_
        intro d
        have bd := below_redrawnE wr d
        simp only [pickAll, pickAt, List.nil_append, List.cons_append, List.append_nil]
        repeat (go_big_quiet_step (fail))
        refine wpQuiet_nil ?_
        clear c0 c1 c2 c3 c4 c5
        generalize redrawn wr d = W0 at *
        refine anyC_pick2 9 10 (by kernel_rfl) (by kernel_rfl) (by kernel_rfl) ?_ ?_
        · simp only [pickAll, pickAt, List.nil_append, List.cons_append, List.append_nil]
          go_wp2
          have b1 := bd.alloc bd.size (.cells #[.int .i64 0, .int .i64 0, .string ⟨#[]⟩] 51)
          have Va := Hid.mk7 (Rc.new W0 (.int .i64 0) (.int .i64 0) (.string ⟨#[]⟩))
          refine anyNext_belowE b1 ?_
          refine anyC_pick1 10 (by kernel_rfl) (by kernel_rfl) ?_
          simp only [pickAll, pickAt, List.nil_append, List.cons_append, List.append_nil]
          have hsz := bd.size
          generalize hba : W0.heap.size = ba at *
          have hlt1 : ba < (W0.alloc (.cells #[.int .i64 0, .int .i64 0, .string ⟨#[]⟩] 51)).heap.size := by rw [← hba]; simp
          generalize W0.alloc (.cells #[.int .i64 0, .int .i64 0, .string ⟨#[]⟩] 51) = W1 at *
          go_wp2
          have b2 := b1.alloc b1.size (.cells #[.int .i64 0, .int .i64 0, .string ⟨#[]⟩] 51)
          have Vb := Hid.mk7 (Rc.new W1 (.int .i64 0) (.int .i64 0) (.string ⟨#[]⟩))
          have Va2 := Hid.mk7 (Va.out.alloc (.cells #[.int .i64 0, .int .i64 0, .string ⟨#[]⟩] 51))
          have hsz1 := b1.size
          refine anyNext_belowE b2 ?_
          refine anyC_pick1 11 (by kernel_rfl) (by kernel_rfl) ?_
          simp only [pickAll, pickAt, List.nil_append, List.cons_append, List.append_nil]
          generalize hbb : W1.heap.size = bb at *
          generalize W1.alloc (.cells #[.int .i64 0, .int .i64 0, .string ⟨#[]⟩] 51) = W2 at *
          clear Va b1 hbb hba bd
          have fz := Va2.out.fz
          have hlt := Va2.out.lt
          have e0 := Va2.out.c0
          have e1 := Va2.out.c1
          have e2 := Va2.out.c2
          go_wp2
          have b3 := below_set3 b2 (g := ba) (by omega) (.int .i64 f) (.int .i64 t) (.string s)
          have V4 := Hid.mk7 (Va2.out.set (.int .i64 f) (.int .i64 t) (.string s))
          have V5 := Hid.mk7 (Vb.out.other (g' := ba) (by omega) (.int .i64 f) (.int .i64 t) (.string s))
          refine anyNext_belowE b3 ?_
          refine anyC_pick1 12 (by kernel_rfl) (by kernel_rfl) ?_
          simp only [pickAll, pickAt, List.nil_append, List.cons_append, List.append_nil]
          clear fz hlt e0 e1 e2 Va2 Vb b2
          generalize ((W2.setCell ⟨ba, 0, none⟩ (.int .i64 f)).setCell ⟨ba, 1, none⟩ (.int .i64 t)).setCell ⟨ba, 2, none⟩ (.string s) = W3 at *
          have fz := V5.out.fz
          have hlt := V5.out.lt
          have e0 := V5.out.c0
          have e1 := V5.out.c1
          have e2 := V5.out.c2
          go_wp2
          have b4 := below_set3 b3 (g := bb) (by omega) (.int .i64 f') (.int .i64 t') (.string s')
          have V5' := Hid.mk7 (V5.out.set (.int .i64 f') (.int .i64 t') (.string s'))
          have V4' := Hid.mk7 (V4.out.other (g' := bb) (by omega) (.int .i64 f') (.int .i64 t') (.string s'))
          refine anyNext_last (anyC_done (by kernel_rfl) ?_)
          go_wp2
          go_meet
          exact ⟨ba, bb, rfl, rfl, V4', V5', hb.trans (b4.mono hb.size)⟩
        · simp only [pickAll, pickAt, List.nil_append, List.cons_append, List.append_nil]
          go_wp2
          have b1 := bd.alloc bd.size (.cells #[.int .i64 0, .int .i64 0, .string ⟨#[]⟩] 51)
          have Va := Hid.mk7 (Rc.new W0 (.int .i64 0) (.int .i64 0) (.string ⟨#[]⟩))
          refine anyNext_belowE b1 ?_
          refine anyC_pick1 9 (by kernel_rfl) (by kernel_rfl) ?_
          simp only [pickAll, pickAt, List.nil_append, List.cons_append, List.append_nil]
          have hsz := bd.size
          generalize hba : W0.heap.size = ba at *
          have hlt1 : ba < (W0.alloc (.cells #[.int .i64 0, .int .i64 0, .string ⟨#[]⟩] 51)).heap.size := by rw [← hba]; simp
          generalize W0.alloc (.cells #[.int .i64 0, .int .i64 0, .string ⟨#[]⟩] 51) = W1 at *
          go_wp2
          have b2 := b1.alloc b1.size (.cells #[.int .i64 0, .int .i64 0, .string ⟨#[]⟩] 51)
          have Vb := Hid.mk7 (Rc.new W1 (.int .i64 0) (.int .i64 0) (.string ⟨#[]⟩))
          have Va2 := Hid.mk7 (Va.out.alloc (.cells #[.int .i64 0, .int .i64 0, .string ⟨#[]⟩] 51))
          have hsz1 := b1.size
          refine anyNext_belowE b2 ?_
          refine anyC_pick1 11 (by kernel_rfl) (by kernel_rfl) ?_
          simp only [pickAll, pickAt, List.nil_append, List.cons_append, List.append_nil]
          generalize hbb : W1.heap.size = bb at *
          generalize W1.alloc (.cells #[.int .i64 0, .int .i64 0, .string ⟨#[]⟩] 51) = W2 at *
          clear Va b1 hbb hba bd
          have fz := Vb.out.fz
          have hlt := Vb.out.lt
          have e0 := Vb.out.c0
          have e1 := Vb.out.c1
          have e2 := Vb.out.c2
          go_wp2
          have b3 := below_set3 b2 (g := bb) (by omega) (.int .i64 f) (.int .i64 t) (.string s)
          have V4 := Hid.mk7 (Vb.out.set (.int .i64 f) (.int .i64 t) (.string s))
          have V5 := Hid.mk7 (Va2.out.other (g' := bb) (by omega) (.int .i64 f) (.int .i64 t) (.string s))
          refine anyNext_belowE b3 ?_
          refine anyC_pick1 12 (by kernel_rfl) (by kernel_rfl) ?_
          simp only [pickAll, pickAt, List.nil_append, List.cons_append, List.append_nil]
          clear fz hlt e0 e1 e2 Va2 Vb b2
          generalize ((W2.setCell ⟨bb, 0, none⟩ (.int .i64 f)).setCell ⟨bb, 1, none⟩ (.int .i64 t)).setCell ⟨bb, 2, none⟩ (.string s) = W3 at *
          have fz := V5.out.fz
          have hlt := V5.out.lt
          have e0 := V5.out.c0
          have e1 := V5.out.c1
          have e2 := V5.out.c2
          go_wp2
          have b4 := below_set3 b3 (g := ba) (by omega) (.int .i64 f') (.int .i64 t') (.string s')
          have V5' := Hid.mk7 (V5.out.set (.int .i64 f') (.int .i64 t') (.string s'))
          have V4' := Hid.mk7 (V4.out.other (g' := ba) (by omega) (.int .i64 f') (.int .i64 t') (.string s'))
          refine anyNext_last (anyC_done (by kernel_rfl) ?_)
          go_wp2
          go_meet
          exact ⟨bb, ba, rfl, rfl, V4', V5', hb.trans (b4.mono hb.size)⟩
      case rest =>
        obtain ⟨b4, b5, rfl, rfl, R4, R5, HBX⟩ := hcut
        have d0 := R4.out.c0
        have d1 := R4.out.c1
        have d3 := R5.out.c0
        clear c0 c1 c2 c3 c4 c5 hb
        by_cases h1 : f' < t
        · have HF : Hid (ordB l = false) := by
            show _ = _
            rw [HO.out, HST.out]
            unfold ordE
            rw [decide_eq_false (by simp only; omega), Bool.false_and]
          go_wp2
          go_ret
          exact ⟨ret_boolE HF.out.symm, HBX.out⟩
        · by_cases h2 : f' = f
          · have HF : Hid (ordB l = false) := by
              show _ = _
              rw [HO.out, HST.out]
              unfold ordE
              rw [decide_eq_false (by simp only; omega), Bool.false_and]
            have e1 : (f' == f) = true := by simpa using h2
            subst h2
            go_wp2
            go_ret
            exact ⟨ret_boolE HF.out.symm, HBX.out⟩
          · have HO2 : Hid (ordB l = ordB (l.drop (j + 1))) := by
              show _ = _
              rw [HO.out, HST.out]
              unfold ordE
              rw [decide_eq_true (by simp only; omega), Bool.true_and]
            have e1 : (f' == f) = false := by simpa using h2
            have e2 : decide (f' = f) = false := by simpa using h2
            go_wp2
            go_roundw
            case rel => exact ⟨j + 1, Or.inl (by omega), by go_num, HO2, HBX.out⟩
            case measure => simp [intOf]; omega
    · have HF : Hid (ordB l = true) := by show _ = _; rw [HO.out]; exact ordB_one (by omega)
      go_wp2
      go_ret
      exact ⟨ret_boolE HF.out.symm, hb⟩
set_option maxHeartbeats 2000000 in
set_option maxRecDepth 100000 in
theorem fault_any {w : World} {v : Value} {l : List El} (base : Int) (h : ElAt w v l) (hsm : Sm l 281474976710656) (hl : l.length ≤ 1000) (tb : Nat × Nat) (hT : Tab w tb) :
    Calls Tryd.prog 41 #[.int .i64 base, v] w fun e w' => e = .returned (.int .i64 (flt base l)) ∧ Below w.heap.size w w' := by
  have HV := Hid.mk7 h
  have HT := Hid.mk7 hT
  have HIB := Hid.mk7 (isBase_any base)
  have HW := Hid.mk7 (fun W (hW : Below w.heap.size w W) => within_anyE base (h.later hW) (by omega))
  have HO := Hid.mk7 (fun W (hW : Below w.heap.size w W) => ordered_any (h.later hW) (by omega))
  have HVL := Hid.mk7 (fun W (hW : Below w.heap.size w W) => valid_anyE (h.later hW) hsm (by omega) tb (hT.later hW))
  obtain ⟨r, HR⟩ : ∃ r, Hid (flt base l = r) := ⟨_, rfl⟩
  rw [HR.out]
  have HRR : Hid (r = if (decide (0 ≤ base ∧ base ≤ 20000) && wthB base l) = false then 10 else if ordB l = false then 180 else if vldB l = false then 12 else if 20000 < sz8 base l then 13 else 0) := HR.out.symm
  clear h hT HR
  by_cases hb : 0 ≤ base ∧ base ≤ 20000
  case neg =>
    rw [decide_eq_false hb] at HRR
    obtain rfl : r = 10 := HRR.out
    have HIB2 : Hid (∀ W, Calls Tryd.prog 47 #[.int .i64 base] W fun e w' => e = .returned (.bool false) ∧ w' = W) := fun W => by
      have := HIB.out W; rw [decide_eq_false hb] at this; exact this
    go_enter Tryd.func41, Tryd.ntmps41
    go_wp2_with fail
    refine (HIB2.out _).mono ?_
    rintro e w1 ⟨rfl, rfl⟩
    go_wp2
    go_ret
    exact ⟨rfl, Below.refl _ _⟩
  rw [decide_eq_true hb, Bool.true_and] at HRR
  have HIB2 : Hid (∀ W, Calls Tryd.prog 47 #[.int .i64 base] W fun e w' => e = .returned (.bool true) ∧ w' = W) := fun W => by
    have := HIB.out W; rw [decide_eq_true hb] at this; exact this
  clear HIB
  by_cases h1 : wthB base l = true
  case neg =>
    have h1' : wthB base l = false := by simpa using h1
    rw [h1'] at HRR HW
    obtain rfl : r = 10 := HRR.out
    go_enter Tryd.func41, Tryd.ntmps41
    go_wp2_with fail
    refine (HIB2.out _).mono ?_
    rintro e w1 ⟨rfl, rfl⟩
    go_wp2_with fail
    refine (HW.out _ (Below.refl _ _)).mono ?_
    rintro e w2 ⟨rfl, b2⟩
    go_wp2
    go_ret
    exact ⟨rfl, b2⟩
  have HBD : Hid (Bd l) := fun e he => by
    have := List.all_eq_true.1 h1 e he
    unfold wthE at this
    have := of_decide_eq_true this
    omega
  have HSZ := Hid.mk7 (fun W (hW : Below w.heap.size w W) => sizeOf_any base (HV.out.later hW) hsm HBD.out hl hb)
  rw [h1] at HRR HW
  by_cases h2 : ordB l = true
  case neg =>
    have h2' : ordB l = false := by simpa using h2
    rw [h2'] at HRR HO
    obtain rfl : r = 180 := HRR.out
    go_enter Tryd.func41, Tryd.ntmps41
    go_wp2_with fail
    refine (HIB2.out _).mono ?_
    rintro e w1 ⟨rfl, rfl⟩
    go_wp2_with fail
    refine (HW.out _ (Below.refl _ _)).mono ?_
    rintro e w2 ⟨rfl, b2⟩
    go_wp2_with fail
    refine (HO.out _ b2).mono ?_
    rintro e w3 ⟨rfl, b3⟩
    go_wp2
    go_ret
    exact ⟨rfl, b2.trans (b3.mono b2.size)⟩
  rw [h2] at HRR HO
  by_cases h3 : vldB l = true
  case neg =>
    have h3' : vldB l = false := by simpa using h3
    rw [h3'] at HRR HVL
    obtain rfl : r = 12 := HRR.out
    go_enter Tryd.func41, Tryd.ntmps41
    go_wp2_with fail
    refine (HIB2.out _).mono ?_
    rintro e w1 ⟨rfl, rfl⟩
    go_wp2_with fail
    refine (HW.out _ (Below.refl _ _)).mono ?_
    rintro e w2 ⟨rfl, b2⟩
    go_wp2_with fail
    refine (HO.out _ b2).mono ?_
    rintro e w3 ⟨rfl, b3⟩
    have g3 := b2.trans (b3.mono b2.size)
    go_wp2_with fail
    refine (HVL.out _ g3).mono ?_
    rintro e w4 ⟨rfl, b4⟩
    go_wp2
    go_ret
    exact ⟨rfl, g3.trans (b4.mono g3.size)⟩
  rw [h3] at HRR HVL
  obtain ⟨z, HZ⟩ : ∃ z, Hid (sz8 base l = z) := ⟨_, rfl⟩
  rw [HZ.out] at HRR HSZ
  by_cases h4 : 20000 < z
  · obtain rfl : r = 13 := by have := HRR.out; simpa [h4] using this
    go_enter Tryd.func41, Tryd.ntmps41
    go_wp2_with fail
    refine (HIB2.out _).mono ?_
    rintro e w1 ⟨rfl, rfl⟩
    go_wp2_with fail
    refine (HW.out _ (Below.refl _ _)).mono ?_
    rintro e w2 ⟨rfl, b2⟩
    go_wp2_with fail
    refine (HO.out _ b2).mono ?_
    rintro e w3 ⟨rfl, b3⟩
    have g3 := b2.trans (b3.mono b2.size)
    go_wp2_with fail
    refine (HVL.out _ g3).mono ?_
    rintro e w4 ⟨rfl, b4⟩
    have g4 := g3.trans (b4.mono g3.size)
    go_wp2_with fail
    refine (HSZ.out _ g4).mono ?_
    rintro e w5 ⟨rfl, b5⟩
    go_wp2
    go_ret
    exact ⟨rfl, g4.trans (b5.mono g4.size)⟩
  · obtain rfl : r = 0 := by have := HRR.out; simpa [h4] using this
    go_enter Tryd.func41, Tryd.ntmps41
    go_wp2_with fail
    refine (HIB2.out _).mono ?_
    rintro e w1 ⟨rfl, rfl⟩
    go_wp2_with fail
    refine (HW.out _ (Below.refl _ _)).mono ?_
    rintro e w2 ⟨rfl, b2⟩
    go_wp2_with fail
    refine (HO.out _ b2).mono ?_
    rintro e w3 ⟨rfl, b3⟩
    have g3 := b2.trans (b3.mono b2.size)
    go_wp2_with fail
    refine (HVL.out _ g3).mono ?_
    rintro e w4 ⟨rfl, b4⟩
    have g4 := g3.trans (b4.mono g3.size)
    go_wp2_with fail
    refine (HSZ.out _ g4).mono ?_
    rintro e w5 ⟨rfl, b5⟩
    go_wp2
    go_ret
    exact ⟨rfl, g4.trans (b5.mono g4.size)⟩
end Go.Proofs.YtafhogfbjklboaaDoor
