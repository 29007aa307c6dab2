/- ComposeThree walked. -/
import Derived.Test.YtiienebioebjpaaDoorComThreeM
import Derived.Test.YtiienebioebjpaaDoorComLaw
import Derived.LoopN
namespace Go.Proofs.YtiienebioebjpaaDoor
open Go.RowKit Go.Sort Go.Lib
set_option linter.unusedSimpArgs false
set_option linter.unusedVariables false

/-- Blocks of three cells, of six. -/
def R3 (w : World) (g : Nat) (ty : TypeId) (x y z : Value) : Prop := w.heap[g]? = some (.cells #[x, y, z] ty)
theorem R3.c0 {w : World} {g ty : Nat} {x y z : Value} (h : R3 w g ty x y z) : w.cell? ⟨g, 0, none⟩ = some x := cell_of_row w g 0 _ _ _ h
theorem R3.c1 {w : World} {g ty : Nat} {x y z : Value} (h : R3 w g ty x y z) : w.cell? ⟨g, 1, none⟩ = some y := cell_of_row w g 1 _ _ _ h
theorem R3.c2 {w : World} {g ty : Nat} {x y z : Value} (h : R3 w g ty x y z) : w.cell? ⟨g, 2, none⟩ = some z := cell_of_row w g 2 _ _ _ h
theorem R3.lt {w : World} {g ty : Nat} {x y z : Value} (h : R3 w g ty x y z) : g < w.heap.size := (Array.getElem?_eq_some_iff.1 h).1
theorem R3.later {w w' : World} {g ty : Nat} {x y z : Value} (h : R3 w g ty x y z) (hb : RowKit.Below w.heap.size w w') : R3 w' g ty x y z := (hb.block g h.lt).trans h
theorem R3.new' {w : World} {g ty : Nat} (hg : g = w.heap.size) (x y z : Value) : R3 (w.alloc (.cells #[x, y, z] ty)) g ty x y z := by subst hg; exact heap_alloc_new w _
def R6 (w : World) (g : Nat) (x0 x1 x2 x3 x4 x5 : Value) : Prop := w.heap[g]? = some (.cells #[x0, x1, x2, x3, x4, x5] 55)
section
variable {w : World} {g : Nat} {x0 x1 x2 x3 x4 x5 : Value}
theorem R6.c0 (h : R6 w g x0 x1 x2 x3 x4 x5) : w.cell? ⟨g, 0, none⟩ = some x0 := cell_of_row w g 0 _ _ _ h
theorem R6.c1 (h : R6 w g x0 x1 x2 x3 x4 x5) : w.cell? ⟨g, 1, none⟩ = some x1 := cell_of_row w g 1 _ _ _ h
theorem R6.c2 (h : R6 w g x0 x1 x2 x3 x4 x5) : w.cell? ⟨g, 2, none⟩ = some x2 := cell_of_row w g 2 _ _ _ h
theorem R6.c3 (h : R6 w g x0 x1 x2 x3 x4 x5) : w.cell? ⟨g, 3, none⟩ = some x3 := cell_of_row w g 3 _ _ _ h
theorem R6.c4 (h : R6 w g x0 x1 x2 x3 x4 x5) : w.cell? ⟨g, 4, none⟩ = some x4 := cell_of_row w g 4 _ _ _ h
theorem R6.c5 (h : R6 w g x0 x1 x2 x3 x4 x5) : w.cell? ⟨g, 5, none⟩ = some x5 := cell_of_row w g 5 _ _ _ h
theorem R6.fz (h : R6 w g x0 x1 x2 x3 x4 x5) (j : Nat) : w.frozen? ⟨g, j, none⟩ = false := frozen_of_row w g j _ _ h
theorem R6.lt (h : R6 w g x0 x1 x2 x3 x4 x5) : g < w.heap.size := (Array.getElem?_eq_some_iff.1 h).1
theorem R6.later {w' : World} (h : R6 w g x0 x1 x2 x3 x4 x5) (hb : RowKit.Below w.heap.size w w') : R6 w' g x0 x1 x2 x3 x4 x5 := (hb.block g h.lt).trans h
theorem R6.s0 (h : R6 w g x0 x1 x2 x3 x4 x5) (y : Value) : R6 (w.setCell ⟨g, 0, none⟩ y) g y x1 x2 x3 x4 x5 := by
  have e0 := heap_setCell_same w g 0 _ _ y h
  unfold R6
  rw [e0]
  simp
theorem R6.s1 (h : R6 w g x0 x1 x2 x3 x4 x5) (y : Value) : R6 (w.setCell ⟨g, 1, none⟩ y) g x0 y x2 x3 x4 x5 := by
  have e0 := heap_setCell_same w g 1 _ _ y h
  unfold R6
  rw [e0]
  simp
theorem R6.s2 (h : R6 w g x0 x1 x2 x3 x4 x5) (y : Value) : R6 (w.setCell ⟨g, 2, none⟩ y) g x0 x1 y x3 x4 x5 := by
  have e0 := heap_setCell_same w g 2 _ _ y h
  unfold R6
  rw [e0]
  simp
theorem R6.s3 (h : R6 w g x0 x1 x2 x3 x4 x5) (y : Value) : R6 (w.setCell ⟨g, 3, none⟩ y) g x0 x1 x2 y x4 x5 := by
  have e0 := heap_setCell_same w g 3 _ _ y h
  unfold R6
  rw [e0]
  simp
theorem R6.s4 (h : R6 w g x0 x1 x2 x3 x4 x5) (y : Value) : R6 (w.setCell ⟨g, 4, none⟩ y) g x0 x1 x2 x3 y x5 := by
  have e0 := heap_setCell_same w g 4 _ _ y h
  unfold R6
  rw [e0]
  simp
theorem R6.s5 (h : R6 w g x0 x1 x2 x3 x4 x5) (y : Value) : R6 (w.setCell ⟨g, 5, none⟩ y) g x0 x1 x2 x3 x4 y := by
  have e0 := heap_setCell_same w g 5 _ _ y h
  unfold R6
  rw [e0]
  simp
end
theorem OwnE.ne6 {w : World} {g B : Nat} {v : Value} {es : List El} {x0 x1 x2 x3 x4 x5 : Value} (h : OwnE w B v es) (r : R6 w g x0 x1 x2 x3 x4 x5) : some g ≠ v.ownBlock := fun e => by
  rcases h.2 with ⟨h1, _⟩ | ⟨g', cap, cur, h1, _, h3, _⟩
  · rw [h1] at e; cases e
  · rw [h1] at e
    obtain rfl : g = g' := Option.some.inj e
    unfold R6 at r
    rw [r] at h3
    have := congrArg (fun o => match o with | some (Obj.cells _ t _) => t | _ => 0) h3
    simp at this
theorem OwnE.set6 {w : World} {g B : Nat} {v : Value} {es : List El} {x0 x1 x2 x3 x4 x5 : Value} (h : OwnE w B v es) (r : R6 w g x0 x1 x2 x3 x4 x5) (j j' : Nat) (y z : Value) : OwnE ((w.setCell ⟨g, j, none⟩ y).setCell ⟨g, j', none⟩ z) B v es := by
  have hn := h.ne6 r
  rcases h with ⟨h1, h2⟩
  refine ⟨h1, h2.imp id ?_⟩
  rintro ⟨g', cap, cur, e1, e2, e3, e4⟩
  refine ⟨g', cap, cur, e1, e2, ?_, e4⟩
  have hne : g' ≠ g := fun e => hn (by rw [e1, ← e]; rfl)
  rw [heap_setCell_other _ _ _ _ hne, heap_setCell_other _ _ _ _ hne]
  exact e3
theorem R3.set6 {w : World} {g gg ty : Nat} {x y z : Value} (h : R3 w gg ty x y z) (hne : gg ≠ g) (j j' : Nat) (a b : Value) : R3 ((w.setCell ⟨g, j, none⟩ a).setCell ⟨g, j', none⟩ b) gg ty x y z := by
  unfold R3
  rw [heap_setCell_other _ _ _ _ hne, heap_setCell_other _ _ _ _ hne]
  exact h
theorem Rd.set6 {w : World} {g gg : Nat} {x y : Value} (h : Rd w gg x y) (hne : gg ≠ g) (j j' : Nat) (a b : Value) : Rd ((w.setCell ⟨g, j, none⟩ a).setCell ⟨g, j', none⟩ b) gg x y := by
  unfold Rd
  rw [heap_setCell_other _ _ _ _ hne, heap_setCell_other _ _ _ _ hne]
  exact h
theorem below_set6 {B g : Nat} {a w : World} (h : RowKit.Below B a w) (hg : B ≤ g) (j j' : Nat) (y z : Value) : RowKit.Below B a ((w.setCell ⟨g, j, none⟩ y).setCell ⟨g, j', none⟩ z) :=
  (h.setCell (p := ⟨g, j, none⟩) hg _).setCell (p := ⟨g, j', none⟩) hg _
/-- A remainder as a place. -/
theorem rem_of {a : Int} {n : Nat} (h : 0 ≤ a) : ∃ p : Nat, a % ((n : Int) + 1) = (p : Int) ∧ p ≤ n := by
  have h1 := Int.emod_nonneg a (show ((n : Int) + 1) ≠ 0 by omega)
  have h2 := Int.emod_lt_of_pos a (show (0 : Int) < (n : Int) + 1 by omega)
  exact ⟨(a % ((n : Int) + 1)).toNat, by omega, by omega⟩
theorem rem_of2 {a : Int} {n p : Nat} (h : 0 ≤ a) (hp : p ≤ n) : ∃ r q : Nat, a % ((n : Int) - (p : Int) + 1) = (r : Int) ∧ (p : Int) + (r : Int) = (q : Int) ∧ p ≤ q ∧ q ≤ n := by
  obtain ⟨r, h1, h2⟩ := rem_of (n := n - p) h
  rw [show (((n - p : Nat) : Int) + 1) = (n : Int) - (p : Int) + 1 by omega] at h1
  exact ⟨r, p + r, h1, by omega, by omega, by omega⟩
set_option maxHeartbeats 8000000 in
set_option maxRecDepth 100000 in
theorem three13_any (s : ByteArray) (a0 a1 a2 : Int) (x0 x1 x2 : ByteArray) (c0 c1 c2 : Int) (hs : s.size ≤ maxLen) (ha0 : 0 ≤ a0 ∧ a0 ≤ 255) (ha1 : 0 ≤ a1 ∧ a1 ≤ 255) (ha2 : 0 ≤ a2 ∧ a2 ≤ 255) (hx0 : x0.size ≤ maxLen) (hx1 : x1.size ≤ maxLen) (hx2 : x2.size ≤ maxLen) (hc0 : 0 ≤ c0 ∧ c0 ≤ 255) (hc1 : 0 ≤ c1 ∧ c1 ≤ 255) (hc2 : 0 ≤ c2 ∧ c2 ≤ 255) (w : World) (tb : Nat × Nat) (hT : Tab w tb) :
    Calls Tryd.prog 8 #[.string s, .agg #[.int .u8 a0, .int .u8 a1, .int .u8 a2], .agg #[.string x0, .string x1, .string x2], .agg #[.int .u8 c0, .int .u8 c1, .int .u8 c2]] w fun e w' => e = .returned (.bool true) ∧ RowKit.Below w.heap.size w w' := by
  have BX := below_newE (below_newE (below_newE (RowKit.Below.refl w.heap.size w) (.cells #[.int .u8 a0, .int .u8 a1, .int .u8 a2] 53)) (.cells #[.string x0, .string x1, .string x2] 54)) (.cells #[.int .u8 c0, .int .u8 c1, .int .u8 c2] 53)
  have RA0 := Hid.mk7 (((R3.new' rfl _ _ _ : R3 (w.alloc (.cells #[.int .u8 a0, .int .u8 a1, .int .u8 a2] 53)) w.heap.size 53 (.int .u8 a0) (.int .u8 a1) (.int .u8 a2)).later (below_newE (RowKit.Below.refl _ _) (.cells #[.string x0, .string x1, .string x2] 54))).later (below_newE (RowKit.Below.refl _ _) (.cells #[.int .u8 c0, .int .u8 c1, .int .u8 c2] 53)))
  have RX0 := Hid.mk7 ((R3.new' (by simp) _ _ _ : R3 ((w.alloc (.cells #[.int .u8 a0, .int .u8 a1, .int .u8 a2] 53)).alloc (.cells #[.string x0, .string x1, .string x2] 54)) (w.heap.size + 1) 54 (.string x0) (.string x1) (.string x2)).later (below_newE (RowKit.Below.refl _ _) (.cells #[.int .u8 c0, .int .u8 c1, .int .u8 c2] 53)))
  have RC0 : Hid (R3 (((w.alloc (.cells #[.int .u8 a0, .int .u8 a1, .int .u8 a2] 53)).alloc (.cells #[.string x0, .string x1, .string x2] 54)).alloc (.cells #[.int .u8 c0, .int .u8 c1, .int .u8 c2] 53)) (w.heap.size + 2) 53 (.int .u8 c0) (.int .u8 c1) (.int .u8 c2)) := R3.new' (by simp) _ _ _
  have T0 := Hid.mk7 (hT.later BX)
  have G0 := Hid.mk7 BX
  have HTB := Hid.mk7 hT
  clear BX hT
  by_cases hlong : 60 < s.size
  · have t1 : decide ((60 : Int) < (s.size : Int)) = true := decide_eq_true (by omega)
    go_enter Tryd.func8, Tryd.ntmps8
    go_wp2_with fail
    refine (known13_any _ tb T0.out).mono ?_
    rintro e w11 ⟨rfl, bz⟩
    have RA12 := Hid.mk7 (RA0.out.later bz)
    have RX12 := Hid.mk7 (RX0.out.later bz)
    have RC12 := Hid.mk7 (RC0.out.later bz)
    have T12 := Hid.mk7 (T0.out.later bz)
    have G12 := Hid.mk7 (G0.out.trans (bz.mono G0.out.size))
    clear RA0 RX0 RC0 T0 G0 bz
    go_wp2
    go_ret
    exact ⟨rfl, G12.out⟩
  have t1 : decide ((60 : Int) < (s.size : Int)) = false := decide_eq_false (by omega)
  have hs6 : s.size ≤ 60 := by omega
  clear hlong
  go_enter Tryd.func8, Tryd.ntmps8
  go_wp2_with fail
  refine (known13_any _ tb T0.out).mono ?_
  rintro e w11 ⟨rfl, bz⟩
  have RA12 := Hid.mk7 (RA0.out.later bz)
  have RX12 := Hid.mk7 (RX0.out.later bz)
  have RC12 := Hid.mk7 (RC0.out.later bz)
  have T12 := Hid.mk7 (T0.out.later bz)
  have G12 := Hid.mk7 (G0.out.trans (bz.mono G0.out.size))
  clear RA0 RX0 RC0 T0 G0 bz
  have bz : RowKit.Below w11.heap.size w11 (w11.alloc (.cells #[.int .i64 0, .slice none 0 0, .int .i64 0, .slice none 0 0, .int .i64 0, .slice none 0 0] 55)) := below_newE (RowKit.Below.refl _ _) _
  have hgd2 := RC12.out.lt
  have hgd1 := G12.out.size
  have RD8 : Hid (R6 (w11.alloc (.cells #[.int .i64 0, .slice none 0 0, .int .i64 0, .slice none 0 0, .int .i64 0, .slice none 0 0] 55)) w11.heap.size (.int .i64 0) (.slice none 0 0) (.int .i64 0) (.slice none 0 0) (.int .i64 0) (.slice none 0 0)) := heap_alloc_new _ _
  have RA13 := Hid.mk7 (RA12.out.later bz)
  have RX13 := Hid.mk7 (RX12.out.later bz)
  have RC13 := Hid.mk7 (RC12.out.later bz)
  have T13 := Hid.mk7 (T12.out.later bz)
  have G13 := Hid.mk7 (G12.out.trans (bz.mono G12.out.size))
  clear RA12 RX12 RC12 T12 G12 bz
  go_wp2
  generalize w11.alloc (.cells #[.int .i64 0, .slice none 0 0, .int .i64 0, .slice none 0 0, .int .i64 0, .slice none 0 0] 55) = W1 at *
  generalize w11.heap.size = gd at *
  refine wp_loop_rounds 4 ?_
  rw [rounds_succ]
  by_cases hl0 : 10 < x0.size
  · have d1 : decide ((10 : Int) < (x0.size : Int)) = true := decide_eq_true (by omega)
    have RXc0 := RX13.out.c0
    have RXc1 := RX13.out.c1
    have RXc2 := RX13.out.c2
    go_wp2
    go_ret
    exact ⟨rfl, G13.out⟩
  have d10 : decide ((10 : Int) < (x0.size : Int)) = false := decide_eq_false (by omega)
  have hl0' : x0.size ≤ 10 := by omega
  clear hl0
  by_cases hb0 : asB x0.data.toList = true
  case neg =>
    have hb' : asB x0.data.toList = false := by simpa using hb0
    clear hb0
    have RXc0 := RX13.out.c0
    have RXc1 := RX13.out.c1
    have RXc2 := RX13.out.c2
    go_wp2_with fail
    refine (ascii_any hx0 hb' _).mono ?_
    rintro e wv ⟨rfl, hw⟩
    obtain rfl : W1 = wv := hw.symm
    go_wp2
    go_ret
    exact ⟨rfl, G13.out⟩
  have hab0 := asB_of hb0
  have HB0 := Hid.mk7 hb0
  obtain ⟨p0, hp0, hpl0⟩ := rem_of (n := s.size) ha0.1
  obtain ⟨r0, q0, hr0, hq0, hpq0, hqn0⟩ := rem_of2 (n := s.size) hc0.1 hpl0
  have hxl0 : x0.data.toList.length ≤ 10 := hl0'
  obtain ⟨D0, hA0⟩ := asc_of (n := s.size) (T := x0.data.toList) (by omega) hpq0 hqn0 hab0 hxl0
  have HA0 := Hid.mk7 hA0
  have HAB0 := Hid.mk7 hab0
  have hsm0 : Sm [((p0 : Int), (q0 : Int), x0.data.toList)] 100000 := by
    intro e he
    simp only [List.mem_singleton] at he
    subst he
    simp only; omega
  have HBO0 := Hid.mk7 (fun (W : World) (v : Value) (hx : ElAt W v [((p0 : Int), (q0 : Int), x0.data.toList)]) (t : Tab W tb) => build_own (s.size : Nat) hx (hsm0.mono (by omega)) (by simp) (by simp [inS]; omega) tb t hA0.fl elG_one)
  rw [hA0.eq] at HBO0
  have hDl0 := hA0.le
  have hce0 := hA0.ln
  obtain ⟨n1, hn0⟩ : ∃ m : Nat, (cel D0).length = m := ⟨_, rfl⟩
  have HSZ0 := Hid.mk7 (fun (W : World) (u : Value) (hx : ElAt W u D0) (t : Tab W tb) => size_v (z := (n1 : Int)) hA0.iB (by rw [← hn0]; exact (cel_size _ 0 0 (dl_of hA0.iB).nm).symm) hx t)
  have HN0 := Hid.mk7 hn0
  rw [hn0] at hce0
  have hnz0 : ¬ ((s.size : Int) - (p0 : Int) + 1 = 0) := by omega
  have hnz0' : ((s.size : Int) - (p0 : Int) + 1 == 0) = false := beq_eq_false_iff_ne.2 (by omega)
  clear hb0 hab0 hA0 hsm0 hn0
  have RAc0 := RA13.out.c0
  have RAc1 := RA13.out.c1
  have RAc2 := RA13.out.c2
  have RXc0 := RX13.out.c0
  have RXc1 := RX13.out.c1
  have RXc2 := RX13.out.c2
  have RCc0 := RC13.out.c0
  have RCc1 := RC13.out.c1
  have RCc2 := RC13.out.c2
  go_wp2_with fail
  refine (ascii_any hx0 HB0.out _).mono ?_
  rintro e wv ⟨rfl, hw⟩
  obtain rfl : W1 = wv := hw.symm
  have bl : RowKit.Below W1.heap.size W1 (W1.alloc (.cells #[.int .i64 (p0 : Nat), .int .i64 (q0 : Nat), .string x0] 43)) := below_newE (RowKit.Below.refl _ _) _
  have LT := Hid.mk7 (el_lit W1 [((p0 : Int), (q0 : Int), x0.data.toList)] #[.int .i64 (p0 : Nat), .int .i64 (q0 : Nat), .string x0] 43 (by rw [c3_one, cacc_bytes]) 1 rfl)
  have TL := Hid.mk7 (T13.out.later bl)
  go_wp2_with fail
  refine (HBO0.out _ _ LT.out TL.out).mono ?_
  rintro e wb0 ⟨u0, rfl, ou, bu⟩
  obtain ⟨ua0, uc0, rfl, _, _⟩ := own_shapeE ou
  have bz : RowKit.Below W1.heap.size W1 (wb0.alloc (.cells #[.int .i64 (s.size : Nat), .slice ua0 D0.length uc0] 24)) := (bl.trans (bu.mono bl.size)).alloc (Nat.le_trans bl.size bu.size) _
  clear bl LT TL hp0 hr0 hq0 hnz0 hnz0' HBO0 bu
  clear RAc0 RAc1 RAc2 RXc0 RXc1 RXc2 RCc0 RCc1 RCc2
  have RA14 := Hid.mk7 (RA13.out.later bz)
  have RX14 := Hid.mk7 (RX13.out.later bz)
  have RC14 := Hid.mk7 (RC13.out.later bz)
  have T14 := Hid.mk7 (T13.out.later bz)
  have G14 := Hid.mk7 (G13.out.trans (bz.mono G13.out.size))
  have RD14 := Hid.mk7 (RD8.out.later bz)
  clear RA13 RX13 RC13 T13 G13 RD8 bz
  have U00 := Hid.mk7 (ou.alloc (.cells #[.int .i64 (s.size : Nat), .slice ua0 D0.length uc0] 24))
  have BQ0 := Hid.mk7 (Rd.new wb0 (.int .i64 (s.size : Nat)) (.slice ua0 D0.length uc0))
  clear ou
  have hbq := BQ0.out.lt
  have hgx : gd < wb0.heap.size := by
    have h1 : gd ≠ wb0.heap.size := fun e => by
      have h2 := BQ0.out
      unfold Rd at h2
      rw [← e, RD14.out] at h2
      have := congrArg (fun o => match o with | some (Obj.cells _ t _) => t | _ => 0) h2
      simp at this
    have h3 : ((wb0.alloc (.cells #[.int .i64 (s.size : Nat), .slice ua0 D0.length uc0] 24)).heap.size : Nat) = wb0.heap.size + 1 := by simp
    have h4 := RD14.out.lt
    omega
  go_upto_region 17 with fail
  generalize wb0.alloc (.cells #[.int .i64 (s.size : Nat), .slice ua0 D0.length uc0] 24) = W20 at *
  generalize wb0.heap.size = gx0 at *
  have hgw := RD14.out.lt
  have bq0 := BQ0.out.c0
  have bq1 := BQ0.out.c1
  have e0 := RD14.out.c0
  have e1 := RD14.out.c1
  have e2 := (RD14.out.s0 (.int .i64 (s.size : Nat))).c1
  have fz := RD14.out.fz
  have fz2 := (RD14.out.s0 (.int .i64 (s.size : Nat))).fz
  have BQ1 := Hid.mk7 (BQ0.out.set6 (g := gd) (by omega) 0 1 (.int .i64 (s.size : Nat)) (.slice ua0 D0.length uc0))
  have bs0 := BQ1.out.c0
  have bs1 := BQ1.out.c1
  have RAs0 := Hid.mk7 (RA14.out.set6 (g := gd) (by omega) 0 1 (.int .i64 (s.size : Nat)) (.slice ua0 D0.length uc0))
  have RXs0 := Hid.mk7 (RX14.out.set6 (g := gd) (by omega) 0 1 (.int .i64 (s.size : Nat)) (.slice ua0 D0.length uc0))
  have RCs0 := Hid.mk7 (RC14.out.set6 (g := gd) (by omega) 0 1 (.int .i64 (s.size : Nat)) (.slice ua0 D0.length uc0))
  have U0s0 := Hid.mk7 (U00.out.set6 RD14.out 0 1 (.int .i64 (s.size : Nat)) (.slice ua0 D0.length uc0))
  have RDs0 := Hid.mk7 ((RD14.out.s0 (.int .i64 (s.size : Nat))).s1 (.slice ua0 D0.length uc0))
  have Gs0 := Hid.mk7 (below_set6 G14.out (show w.heap.size ≤ gd by omega) 0 1 (.int .i64 (s.size : Nat)) (.slice ua0 D0.length uc0))
  have Ts0 := Hid.mk7 (HTB.out.later Gs0.out)
  clear RA14 RX14 RC14 T14 G14 RD14 U00
  go_wp2_with fail
  refine (HSZ0.out _ _ U0s0.out.row Ts0.out).mono ?_
  rintro e ws0 ⟨rfl, bz⟩
  clear bq0 bq1 e0 e1 e2 fz fz2 bs0 bs1 BQ0 BQ1 hbq hgw hgx HSZ0
  have RA15 := Hid.mk7 (RAs0.out.later bz)
  have RX15 := Hid.mk7 (RXs0.out.later bz)
  have RC15 := Hid.mk7 (RCs0.out.later bz)
  have U015 := Hid.mk7 (U0s0.out.later bz)
  have RD15 := Hid.mk7 (RDs0.out.later bz)
  have G15 := Hid.mk7 (Gs0.out.trans (bz.mono Gs0.out.size))
  have T15 := Hid.mk7 (Ts0.out.later bz)
  clear RAs0 RXs0 RCs0 U0s0 RDs0 Gs0 Ts0 bz
  go_wp2
  rw [rounds_succ]
  by_cases hl1 : 10 < x1.size
  · have d1 : decide ((10 : Int) < (x1.size : Int)) = true := decide_eq_true (by omega)
    have RXc0 := RX15.out.c0
    have RXc1 := RX15.out.c1
    have RXc2 := RX15.out.c2
    go_wp2
    go_ret
    exact ⟨rfl, G15.out⟩
  have d11 : decide ((10 : Int) < (x1.size : Int)) = false := decide_eq_false (by omega)
  have hl1' : x1.size ≤ 10 := by omega
  clear hl1
  by_cases hb1 : asB x1.data.toList = true
  case neg =>
    have hb' : asB x1.data.toList = false := by simpa using hb1
    clear hb1
    have RXc0 := RX15.out.c0
    have RXc1 := RX15.out.c1
    have RXc2 := RX15.out.c2
    go_wp2_with fail
    refine (ascii_any hx1 hb' _).mono ?_
    rintro e wv ⟨rfl, hw⟩
    obtain rfl : ws0 = wv := hw.symm
    go_wp2
    go_ret
    exact ⟨rfl, G15.out⟩
  have hab1 := asB_of hb1
  have HB1 := Hid.mk7 hb1
  obtain ⟨p1, hp1, hpl1⟩ := rem_of (n := n1) ha1.1
  obtain ⟨r1, q1, hr1, hq1, hpq1, hqn1⟩ := rem_of2 (n := n1) hc1.1 hpl1
  have hxl1 : x1.data.toList.length ≤ 10 := hl1'
  obtain ⟨D1, hA1⟩ := asc_of (n := n1) (T := x1.data.toList) (by omega) hpq1 hqn1 hab1 hxl1
  have HA1 := Hid.mk7 hA1
  have HAB1 := Hid.mk7 hab1
  have hsm1 : Sm [((p1 : Int), (q1 : Int), x1.data.toList)] 100000 := by
    intro e he
    simp only [List.mem_singleton] at he
    subst he
    simp only; omega
  have HBO1 := Hid.mk7 (fun (W : World) (v : Value) (hx : ElAt W v [((p1 : Int), (q1 : Int), x1.data.toList)]) (t : Tab W tb) => build_own (n1 : Nat) hx (hsm1.mono (by omega)) (by simp) (by simp [inS]; omega) tb t hA1.fl elG_one)
  rw [hA1.eq] at HBO1
  have hDl1 := hA1.le
  have hce1 := hA1.ln
  obtain ⟨n2, hn1⟩ : ∃ m : Nat, (cel D1).length = m := ⟨_, rfl⟩
  have HSZ1 := Hid.mk7 (fun (W : World) (u : Value) (hx : ElAt W u D1) (t : Tab W tb) => size_v (z := (n2 : Int)) hA1.iB (by rw [← hn1]; exact (cel_size _ 0 0 (dl_of hA1.iB).nm).symm) hx t)
  have HN1 := Hid.mk7 hn1
  rw [hn1] at hce1
  have hnz1 : ¬ ((n1 : Int) - (p1 : Int) + 1 = 0) := by omega
  have hnz1' : ((n1 : Int) - (p1 : Int) + 1 == 0) = false := beq_eq_false_iff_ne.2 (by omega)
  clear hb1 hab1 hA1 hsm1 hn1
  have RAc0 := RA15.out.c0
  have RAc1 := RA15.out.c1
  have RAc2 := RA15.out.c2
  have RXc0 := RX15.out.c0
  have RXc1 := RX15.out.c1
  have RXc2 := RX15.out.c2
  have RCc0 := RC15.out.c0
  have RCc1 := RC15.out.c1
  have RCc2 := RC15.out.c2
  go_wp2_with fail
  refine (ascii_any hx1 HB1.out _).mono ?_
  rintro e wv ⟨rfl, hw⟩
  obtain rfl : ws0 = wv := hw.symm
  have bl : RowKit.Below ws0.heap.size ws0 (ws0.alloc (.cells #[.int .i64 (p1 : Nat), .int .i64 (q1 : Nat), .string x1] 43)) := below_newE (RowKit.Below.refl _ _) _
  have LT := Hid.mk7 (el_lit ws0 [((p1 : Int), (q1 : Int), x1.data.toList)] #[.int .i64 (p1 : Nat), .int .i64 (q1 : Nat), .string x1] 43 (by rw [c3_one, cacc_bytes]) 1 rfl)
  have TL := Hid.mk7 (T15.out.later bl)
  go_wp2_with fail
  refine (HBO1.out _ _ LT.out TL.out).mono ?_
  rintro e wb1 ⟨u1, rfl, ou, bu⟩
  obtain ⟨ua1, uc1, rfl, _, _⟩ := own_shapeE ou
  have bz : RowKit.Below ws0.heap.size ws0 (wb1.alloc (.cells #[.int .i64 (n1 : Nat), .slice ua1 D1.length uc1] 24)) := (bl.trans (bu.mono bl.size)).alloc (Nat.le_trans bl.size bu.size) _
  clear bl LT TL hp1 hr1 hq1 hnz1 hnz1' HBO1 bu
  clear RAc0 RAc1 RAc2 RXc0 RXc1 RXc2 RCc0 RCc1 RCc2
  have RA16 := Hid.mk7 (RA15.out.later bz)
  have RX16 := Hid.mk7 (RX15.out.later bz)
  have RC16 := Hid.mk7 (RC15.out.later bz)
  have U016 := Hid.mk7 (U015.out.later bz)
  have RD16 := Hid.mk7 (RD15.out.later bz)
  have G16 := Hid.mk7 (G15.out.trans (bz.mono G15.out.size))
  have T16 := Hid.mk7 (T15.out.later bz)
  clear RA15 RX15 RC15 U015 RD15 G15 T15 bz
  have U10 := Hid.mk7 (ou.alloc (.cells #[.int .i64 (n1 : Nat), .slice ua1 D1.length uc1] 24))
  have BQ0 := Hid.mk7 (Rd.new wb1 (.int .i64 (n1 : Nat)) (.slice ua1 D1.length uc1))
  clear ou
  have hbq := BQ0.out.lt
  have hgx : gd < wb1.heap.size := by
    have h1 : gd ≠ wb1.heap.size := fun e => by
      have h2 := BQ0.out
      unfold Rd at h2
      rw [← e, RD16.out] at h2
      have := congrArg (fun o => match o with | some (Obj.cells _ t _) => t | _ => 0) h2
      simp at this
    have h3 : ((wb1.alloc (.cells #[.int .i64 (n1 : Nat), .slice ua1 D1.length uc1] 24)).heap.size : Nat) = wb1.heap.size + 1 := by simp
    have h4 := RD16.out.lt
    omega
  go_upto_region 17 with fail
  generalize wb1.alloc (.cells #[.int .i64 (n1 : Nat), .slice ua1 D1.length uc1] 24) = W21 at *
  generalize wb1.heap.size = gx1 at *
  have hgw := RD16.out.lt
  have bq0 := BQ0.out.c0
  have bq1 := BQ0.out.c1
  have e0 := RD16.out.c2
  have e1 := RD16.out.c3
  have e2 := (RD16.out.s2 (.int .i64 (n1 : Nat))).c3
  have fz := RD16.out.fz
  have fz2 := (RD16.out.s2 (.int .i64 (n1 : Nat))).fz
  have BQ1 := Hid.mk7 (BQ0.out.set6 (g := gd) (by omega) 2 3 (.int .i64 (n1 : Nat)) (.slice ua1 D1.length uc1))
  have bs0 := BQ1.out.c0
  have bs1 := BQ1.out.c1
  have RAs1 := Hid.mk7 (RA16.out.set6 (g := gd) (by omega) 2 3 (.int .i64 (n1 : Nat)) (.slice ua1 D1.length uc1))
  have RXs1 := Hid.mk7 (RX16.out.set6 (g := gd) (by omega) 2 3 (.int .i64 (n1 : Nat)) (.slice ua1 D1.length uc1))
  have RCs1 := Hid.mk7 (RC16.out.set6 (g := gd) (by omega) 2 3 (.int .i64 (n1 : Nat)) (.slice ua1 D1.length uc1))
  have U0s1 := Hid.mk7 (U016.out.set6 RD16.out 2 3 (.int .i64 (n1 : Nat)) (.slice ua1 D1.length uc1))
  have U1s1 := Hid.mk7 (U10.out.set6 RD16.out 2 3 (.int .i64 (n1 : Nat)) (.slice ua1 D1.length uc1))
  have RDs1 := Hid.mk7 ((RD16.out.s2 (.int .i64 (n1 : Nat))).s3 (.slice ua1 D1.length uc1))
  have Gs1 := Hid.mk7 (below_set6 G16.out (show w.heap.size ≤ gd by omega) 2 3 (.int .i64 (n1 : Nat)) (.slice ua1 D1.length uc1))
  have Ts1 := Hid.mk7 (HTB.out.later Gs1.out)
  clear RA16 RX16 RC16 U016 RD16 G16 T16 U10
  go_wp2_with fail
  refine (HSZ1.out _ _ U1s1.out.row Ts1.out).mono ?_
  rintro e ws1 ⟨rfl, bz⟩
  clear bq0 bq1 e0 e1 e2 fz fz2 bs0 bs1 BQ0 BQ1 hbq hgw hgx HSZ1
  have RA17 := Hid.mk7 (RAs1.out.later bz)
  have RX17 := Hid.mk7 (RXs1.out.later bz)
  have RC17 := Hid.mk7 (RCs1.out.later bz)
  have U017 := Hid.mk7 (U0s1.out.later bz)
  have U117 := Hid.mk7 (U1s1.out.later bz)
  have RD17 := Hid.mk7 (RDs1.out.later bz)
  have G17 := Hid.mk7 (Gs1.out.trans (bz.mono Gs1.out.size))
  have T17 := Hid.mk7 (Ts1.out.later bz)
  clear RAs1 RXs1 RCs1 U0s1 U1s1 RDs1 Gs1 Ts1 bz
  go_wp2
  rw [rounds_succ]
  by_cases hl2 : 10 < x2.size
  · have d1 : decide ((10 : Int) < (x2.size : Int)) = true := decide_eq_true (by omega)
    have RXc0 := RX17.out.c0
    have RXc1 := RX17.out.c1
    have RXc2 := RX17.out.c2
    go_wp2
    go_ret
    exact ⟨rfl, G17.out⟩
  have d12 : decide ((10 : Int) < (x2.size : Int)) = false := decide_eq_false (by omega)
  have hl2' : x2.size ≤ 10 := by omega
  clear hl2
  by_cases hb2 : asB x2.data.toList = true
  case neg =>
    have hb' : asB x2.data.toList = false := by simpa using hb2
    clear hb2
    have RXc0 := RX17.out.c0
    have RXc1 := RX17.out.c1
    have RXc2 := RX17.out.c2
    go_wp2_with fail
    refine (ascii_any hx2 hb' _).mono ?_
    rintro e wv ⟨rfl, hw⟩
    obtain rfl : ws1 = wv := hw.symm
    go_wp2
    go_ret
    exact ⟨rfl, G17.out⟩
  have hab2 := asB_of hb2
  have HB2 := Hid.mk7 hb2
  obtain ⟨p2, hp2, hpl2⟩ := rem_of (n := n2) ha2.1
  obtain ⟨r2, q2, hr2, hq2, hpq2, hqn2⟩ := rem_of2 (n := n2) hc2.1 hpl2
  have hxl2 : x2.data.toList.length ≤ 10 := hl2'
  obtain ⟨D2, hA2⟩ := asc_of (n := n2) (T := x2.data.toList) (by omega) hpq2 hqn2 hab2 hxl2
  have HA2 := Hid.mk7 hA2
  have HAB2 := Hid.mk7 hab2
  have hsm2 : Sm [((p2 : Int), (q2 : Int), x2.data.toList)] 100000 := by
    intro e he
    simp only [List.mem_singleton] at he
    subst he
    simp only; omega
  have HBO2 := Hid.mk7 (fun (W : World) (v : Value) (hx : ElAt W v [((p2 : Int), (q2 : Int), x2.data.toList)]) (t : Tab W tb) => build_own (n2 : Nat) hx (hsm2.mono (by omega)) (by simp) (by simp [inS]; omega) tb t hA2.fl elG_one)
  rw [hA2.eq] at HBO2
  have hDl2 := hA2.le
  have hce2 := hA2.ln
  obtain ⟨n3, hn2⟩ : ∃ m : Nat, (cel D2).length = m := ⟨_, rfl⟩
  have HSZ2 := Hid.mk7 (fun (W : World) (u : Value) (hx : ElAt W u D2) (t : Tab W tb) => size_v (z := (n3 : Int)) hA2.iB (by rw [← hn2]; exact (cel_size _ 0 0 (dl_of hA2.iB).nm).symm) hx t)
  have HN2 := Hid.mk7 hn2
  rw [hn2] at hce2
  have hnz2 : ¬ ((n2 : Int) - (p2 : Int) + 1 = 0) := by omega
  have hnz2' : ((n2 : Int) - (p2 : Int) + 1 == 0) = false := beq_eq_false_iff_ne.2 (by omega)
  clear hb2 hab2 hA2 hsm2 hn2
  have RAc0 := RA17.out.c0
  have RAc1 := RA17.out.c1
  have RAc2 := RA17.out.c2
  have RXc0 := RX17.out.c0
  have RXc1 := RX17.out.c1
  have RXc2 := RX17.out.c2
  have RCc0 := RC17.out.c0
  have RCc1 := RC17.out.c1
  have RCc2 := RC17.out.c2
  go_wp2_with fail
  refine (ascii_any hx2 HB2.out _).mono ?_
  rintro e wv ⟨rfl, hw⟩
  obtain rfl : ws1 = wv := hw.symm
  have bl : RowKit.Below ws1.heap.size ws1 (ws1.alloc (.cells #[.int .i64 (p2 : Nat), .int .i64 (q2 : Nat), .string x2] 43)) := below_newE (RowKit.Below.refl _ _) _
  have LT := Hid.mk7 (el_lit ws1 [((p2 : Int), (q2 : Int), x2.data.toList)] #[.int .i64 (p2 : Nat), .int .i64 (q2 : Nat), .string x2] 43 (by rw [c3_one, cacc_bytes]) 1 rfl)
  have TL := Hid.mk7 (T17.out.later bl)
  go_wp2_with fail
  refine (HBO2.out _ _ LT.out TL.out).mono ?_
  rintro e wb2 ⟨u2, rfl, ou, bu⟩
  obtain ⟨ua2, uc2, rfl, _, _⟩ := own_shapeE ou
  have bz : RowKit.Below ws1.heap.size ws1 (wb2.alloc (.cells #[.int .i64 (n2 : Nat), .slice ua2 D2.length uc2] 24)) := (bl.trans (bu.mono bl.size)).alloc (Nat.le_trans bl.size bu.size) _
  clear bl LT TL hp2 hr2 hq2 hnz2 hnz2' HBO2 bu
  clear RAc0 RAc1 RAc2 RXc0 RXc1 RXc2 RCc0 RCc1 RCc2
  have RA18 := Hid.mk7 (RA17.out.later bz)
  have RX18 := Hid.mk7 (RX17.out.later bz)
  have RC18 := Hid.mk7 (RC17.out.later bz)
  have U018 := Hid.mk7 (U017.out.later bz)
  have U118 := Hid.mk7 (U117.out.later bz)
  have RD18 := Hid.mk7 (RD17.out.later bz)
  have G18 := Hid.mk7 (G17.out.trans (bz.mono G17.out.size))
  have T18 := Hid.mk7 (T17.out.later bz)
  clear RA17 RX17 RC17 U017 U117 RD17 G17 T17 bz
  have U20 := Hid.mk7 (ou.alloc (.cells #[.int .i64 (n2 : Nat), .slice ua2 D2.length uc2] 24))
  have BQ0 := Hid.mk7 (Rd.new wb2 (.int .i64 (n2 : Nat)) (.slice ua2 D2.length uc2))
  clear ou
  have hbq := BQ0.out.lt
  have hgx : gd < wb2.heap.size := by
    have h1 : gd ≠ wb2.heap.size := fun e => by
      have h2 := BQ0.out
      unfold Rd at h2
      rw [← e, RD18.out] at h2
      have := congrArg (fun o => match o with | some (Obj.cells _ t _) => t | _ => 0) h2
      simp at this
    have h3 : ((wb2.alloc (.cells #[.int .i64 (n2 : Nat), .slice ua2 D2.length uc2] 24)).heap.size : Nat) = wb2.heap.size + 1 := by simp
    have h4 := RD18.out.lt
    omega
  go_upto_region 17 with fail
  generalize wb2.alloc (.cells #[.int .i64 (n2 : Nat), .slice ua2 D2.length uc2] 24) = W22 at *
  generalize wb2.heap.size = gx2 at *
  have hgw := RD18.out.lt
  have bq0 := BQ0.out.c0
  have bq1 := BQ0.out.c1
  have e0 := RD18.out.c4
  have e1 := RD18.out.c5
  have e2 := (RD18.out.s4 (.int .i64 (n2 : Nat))).c5
  have fz := RD18.out.fz
  have fz2 := (RD18.out.s4 (.int .i64 (n2 : Nat))).fz
  have BQ1 := Hid.mk7 (BQ0.out.set6 (g := gd) (by omega) 4 5 (.int .i64 (n2 : Nat)) (.slice ua2 D2.length uc2))
  have bs0 := BQ1.out.c0
  have bs1 := BQ1.out.c1
  have RAs2 := Hid.mk7 (RA18.out.set6 (g := gd) (by omega) 4 5 (.int .i64 (n2 : Nat)) (.slice ua2 D2.length uc2))
  have RXs2 := Hid.mk7 (RX18.out.set6 (g := gd) (by omega) 4 5 (.int .i64 (n2 : Nat)) (.slice ua2 D2.length uc2))
  have RCs2 := Hid.mk7 (RC18.out.set6 (g := gd) (by omega) 4 5 (.int .i64 (n2 : Nat)) (.slice ua2 D2.length uc2))
  have U0s2 := Hid.mk7 (U018.out.set6 RD18.out 4 5 (.int .i64 (n2 : Nat)) (.slice ua2 D2.length uc2))
  have U1s2 := Hid.mk7 (U118.out.set6 RD18.out 4 5 (.int .i64 (n2 : Nat)) (.slice ua2 D2.length uc2))
  have U2s2 := Hid.mk7 (U20.out.set6 RD18.out 4 5 (.int .i64 (n2 : Nat)) (.slice ua2 D2.length uc2))
  have RDs2 := Hid.mk7 ((RD18.out.s4 (.int .i64 (n2 : Nat))).s5 (.slice ua2 D2.length uc2))
  have Gs2 := Hid.mk7 (below_set6 G18.out (show w.heap.size ≤ gd by omega) 4 5 (.int .i64 (n2 : Nat)) (.slice ua2 D2.length uc2))
  have Ts2 := Hid.mk7 (HTB.out.later Gs2.out)
  clear RA18 RX18 RC18 U018 U118 RD18 G18 T18 U20
  go_wp2_with fail
  refine (HSZ2.out _ _ U2s2.out.row Ts2.out).mono ?_
  rintro e ws2 ⟨rfl, bz⟩
  clear bq0 bq1 e0 e1 e2 fz fz2 bs0 bs1 BQ0 BQ1 hbq hgw hgx HSZ2
  have RA19 := Hid.mk7 (RAs2.out.later bz)
  have RX19 := Hid.mk7 (RXs2.out.later bz)
  have RC19 := Hid.mk7 (RCs2.out.later bz)
  have U019 := Hid.mk7 (U0s2.out.later bz)
  have U119 := Hid.mk7 (U1s2.out.later bz)
  have U219 := Hid.mk7 (U2s2.out.later bz)
  have RD19 := Hid.mk7 (RDs2.out.later bz)
  have G19 := Hid.mk7 (Gs2.out.trans (bz.mono Gs2.out.size))
  have T19 := Hid.mk7 (Ts2.out.later bz)
  clear RAs2 RXs2 RCs2 U0s2 U1s2 U2s2 RDs2 Gs2 Ts2 bz
  go_wp2
  rw [rounds_succ]
  obtain ⟨E01, E12, E, ht⟩ := thr_of HA0.out HA1.out HA2.out HN0.out HN1.out (by omega) ⟨hpq1, hqn1⟩ ⟨hpq2, hqn2⟩ HAB1.out HAB2.out hxl1 hxl2
  have HVA : Hid (vld x0.data.toList = true) := vld_ascii _ HAB0.out
  have g1 := rs_good (isB_vl ht.ia).1 (isB_vl ht.ia).2 (base := (s.size : Int))
  have g2 := rs_good (isB_vl ht.iE).1 (isB_vl ht.iE).2 (base := (s.size : Int))
  have g3 := rs_good (isB_vl ht.ic).1 (isB_vl ht.ic).2 (base := (n1 : Int))
  have HT1 := Hid.mk7 (fun (W : World) (u v : Value) (hx : ElAt W u D0) (hy : ElAt W v D1) (t : Tab W tb) => two_v ht.i0 ht.i1 ht.l0 ht.ea g1 hx hy t)
  have HT2 := Hid.mk7 (fun (W : World) (u v : Value) (hx : ElAt W u E01) (hy : ElAt W v D2) (t : Tab W tb) => two_v ht.ia ht.i2 ht.la ht.eb g2 hx hy t)
  have HT3 := Hid.mk7 (fun (W : World) (u v : Value) (hx : ElAt W u D1) (hy : ElAt W v D2) (t : Tab W tb) => two_v ht.i1 ht.i2 ht.l1 ht.ec g3 hx hy t)
  have HT4 := Hid.mk7 (fun (W : World) (u v : Value) (hx : ElAt W u D0) (hy : ElAt W v E12) (t : Tab W tb) => two_v ht.i0 ht.ic ht.l0 ht.ex g2 hx hy t)
  have HAL := Hid.mk7 (fun (W : World) (u : Value) (hx : DAt W u [(((s.size : Nat) : Int), D0), (((n1 : Nat) : Int), D1), (((n2 : Nat) : Int), D2)]) (t : Tab W tb) => all_ok (base := (s.size : Int)) (K := KE (s.size : Nat)) (Z := E) hx (by simp) (by simp) (fun d hd => by simp at hd; subst hd; rfl) rfl ht.al ht.az t)
  have hle := (dl_of ht.iE).len
  clear ht g1 g2 g3 HA0 HA1 HA2 HN0 HN1 HN2 HAB0 HAB1 HAB2
  have RDc0 := RD19.out.c0
  have RDc1 := RD19.out.c1
  have RDc2 := RD19.out.c2
  have RDc3 := RD19.out.c3
  have RDc4 := RD19.out.c4
  have RDc5 := RD19.out.c5
  go_wp2_with fail
  refine (HT1.out _ _ _ U019.out.row U119.out.row T19.out).mono ?_
  rintro e w20 ⟨va, rfl, hva, bz⟩
  clear RDc0 RDc1 RDc2 RDc3 RDc4 RDc5
  obtain ⟨Aa, Ac, rfl, _, _, _⟩ := id hva
  have RA21 := Hid.mk7 (RA19.out.later bz)
  have RX21 := Hid.mk7 (RX19.out.later bz)
  have RC21 := Hid.mk7 (RC19.out.later bz)
  have U021 := Hid.mk7 (U019.out.later bz)
  have U121 := Hid.mk7 (U119.out.later bz)
  have U221 := Hid.mk7 (U219.out.later bz)
  have RD21 := Hid.mk7 (RD19.out.later bz)
  have G21 := Hid.mk7 (G19.out.trans (bz.mono G19.out.size))
  have T21 := Hid.mk7 (T19.out.later bz)
  clear RA19 RX19 RC19 U019 U119 U219 RD19 G19 T19 bz
  have YA22 := Hid.mk7 (hva)
  clear hva
  have bz : RowKit.Below w20.heap.size w20 (w20.alloc (.cells #[.int .i64 (s.size : Nat), .slice Aa E01.length Ac] 24)) := below_newE (RowKit.Below.refl _ _) _
  have nw23 := Hid.mk7 (@Rd.new w20 (.int .i64 (s.size : Nat)) (.slice Aa E01.length Ac))
  have RA24 := Hid.mk7 (RA21.out.later bz)
  have RX24 := Hid.mk7 (RX21.out.later bz)
  have RC24 := Hid.mk7 (RC21.out.later bz)
  have U024 := Hid.mk7 (U021.out.later bz)
  have U124 := Hid.mk7 (U121.out.later bz)
  have U224 := Hid.mk7 (U221.out.later bz)
  have RD24 := Hid.mk7 (RD21.out.later bz)
  have G24 := Hid.mk7 (G21.out.trans (bz.mono G21.out.size))
  have T24 := Hid.mk7 (T21.out.later bz)
  have YA24 := Hid.mk7 (YA22.out.later bz)
  clear RA21 RX21 RC21 U021 U121 U221 RD21 G21 T21 YA22 bz
  have RDc0 := RD24.out.c0
  have RDc1 := RD24.out.c1
  have RDc2 := RD24.out.c2
  have RDc3 := RD24.out.c3
  have RDc4 := RD24.out.c4
  have RDc5 := RD24.out.c5
  have BAc0 := nw23.out.c0
  have BAc1 := nw23.out.c1
  go_wp2_with fail
  refine (HT2.out _ _ _ YA24.out U224.out.row T24.out).mono ?_
  rintro e w25 ⟨vb, rfl, hvb, bz⟩
  clear RDc0 RDc1 RDc2 RDc3 RDc4 RDc5 BAc0 BAc1
  obtain ⟨Ba, Bc, rfl, _, _, _⟩ := id hvb
  have RA26 := Hid.mk7 (RA24.out.later bz)
  have RX26 := Hid.mk7 (RX24.out.later bz)
  have RC26 := Hid.mk7 (RC24.out.later bz)
  have U026 := Hid.mk7 (U024.out.later bz)
  have U126 := Hid.mk7 (U124.out.later bz)
  have U226 := Hid.mk7 (U224.out.later bz)
  have RD26 := Hid.mk7 (RD24.out.later bz)
  have G26 := Hid.mk7 (G24.out.trans (bz.mono G24.out.size))
  have T26 := Hid.mk7 (T24.out.later bz)
  have YA26 := Hid.mk7 (YA24.out.later bz)
  have BA26 := Hid.mk7 (nw23.out.later bz)
  clear RA24 RX24 RC24 U024 U124 U224 RD24 G24 T24 YA24 nw23 bz
  have YB27 := Hid.mk7 (hvb)
  clear hvb
  have bz : RowKit.Below w25.heap.size w25 (w25.alloc (.cells #[.int .i64 (s.size : Nat), .slice Ba E.length Bc] 24)) := below_newE (RowKit.Below.refl _ _) _
  have nw28 := Hid.mk7 (@Rd.new w25 (.int .i64 (s.size : Nat)) (.slice Ba E.length Bc))
  have RA29 := Hid.mk7 (RA26.out.later bz)
  have RX29 := Hid.mk7 (RX26.out.later bz)
  have RC29 := Hid.mk7 (RC26.out.later bz)
  have U029 := Hid.mk7 (U026.out.later bz)
  have U129 := Hid.mk7 (U126.out.later bz)
  have U229 := Hid.mk7 (U226.out.later bz)
  have RD29 := Hid.mk7 (RD26.out.later bz)
  have G29 := Hid.mk7 (G26.out.trans (bz.mono G26.out.size))
  have T29 := Hid.mk7 (T26.out.later bz)
  have YA29 := Hid.mk7 (YA26.out.later bz)
  have BA29 := Hid.mk7 (BA26.out.later bz)
  have YB29 := Hid.mk7 (YB27.out.later bz)
  clear RA26 RX26 RC26 U026 U126 U226 RD26 G26 T26 YA26 BA26 YB27 bz
  clear BA29 YA29
  have RDc0 := RD29.out.c0
  have RDc1 := RD29.out.c1
  have RDc2 := RD29.out.c2
  have RDc3 := RD29.out.c3
  have RDc4 := RD29.out.c4
  have RDc5 := RD29.out.c5
  have BBc0 := nw28.out.c0
  have BBc1 := nw28.out.c1
  go_wp2_with fail
  refine (HT3.out _ _ _ U129.out.row U229.out.row T29.out).mono ?_
  rintro e w30 ⟨vc, rfl, hvc, bz⟩
  clear RDc0 RDc1 RDc2 RDc3 RDc4 RDc5 BBc0 BBc1
  obtain ⟨Ca, Cc, rfl, _, _, _⟩ := id hvc
  have RA31 := Hid.mk7 (RA29.out.later bz)
  have RX31 := Hid.mk7 (RX29.out.later bz)
  have RC31 := Hid.mk7 (RC29.out.later bz)
  have U031 := Hid.mk7 (U029.out.later bz)
  have U131 := Hid.mk7 (U129.out.later bz)
  have U231 := Hid.mk7 (U229.out.later bz)
  have RD31 := Hid.mk7 (RD29.out.later bz)
  have G31 := Hid.mk7 (G29.out.trans (bz.mono G29.out.size))
  have T31 := Hid.mk7 (T29.out.later bz)
  have YB31 := Hid.mk7 (YB29.out.later bz)
  have BB31 := Hid.mk7 (nw28.out.later bz)
  clear RA29 RX29 RC29 U029 U129 U229 RD29 G29 T29 YB29 nw28 bz
  have YC32 := Hid.mk7 (hvc)
  clear hvc
  have bz : RowKit.Below w30.heap.size w30 (w30.alloc (.cells #[.int .i64 (n1 : Nat), .slice Ca E12.length Cc] 24)) := below_newE (RowKit.Below.refl _ _) _
  have nw33 := Hid.mk7 (@Rd.new w30 (.int .i64 (n1 : Nat)) (.slice Ca E12.length Cc))
  have RA34 := Hid.mk7 (RA31.out.later bz)
  have RX34 := Hid.mk7 (RX31.out.later bz)
  have RC34 := Hid.mk7 (RC31.out.later bz)
  have U034 := Hid.mk7 (U031.out.later bz)
  have U134 := Hid.mk7 (U131.out.later bz)
  have U234 := Hid.mk7 (U231.out.later bz)
  have RD34 := Hid.mk7 (RD31.out.later bz)
  have G34 := Hid.mk7 (G31.out.trans (bz.mono G31.out.size))
  have T34 := Hid.mk7 (T31.out.later bz)
  have YB34 := Hid.mk7 (YB31.out.later bz)
  have BB34 := Hid.mk7 (BB31.out.later bz)
  have YC34 := Hid.mk7 (YC32.out.later bz)
  clear RA31 RX31 RC31 U031 U131 U231 RD31 G31 T31 YB31 BB31 YC32 bz
  have RDc0 := RD34.out.c0
  have RDc1 := RD34.out.c1
  have RDc2 := RD34.out.c2
  have RDc3 := RD34.out.c3
  have RDc4 := RD34.out.c4
  have RDc5 := RD34.out.c5
  have BBc0 := BB34.out.c0
  have BBc1 := BB34.out.c1
  have BCc0 := nw33.out.c0
  have BCc1 := nw33.out.c1
  go_wp2_with fail
  refine (HT4.out _ _ _ U034.out.row YC34.out T34.out).mono ?_
  rintro e w35 ⟨vd, rfl, hvd, bz⟩
  clear RDc0 RDc1 RDc2 RDc3 RDc4 RDc5 BBc0 BBc1 BCc0 BCc1
  obtain ⟨Da, Dc, rfl, _, _, _⟩ := id hvd
  have RA36 := Hid.mk7 (RA34.out.later bz)
  have RX36 := Hid.mk7 (RX34.out.later bz)
  have RC36 := Hid.mk7 (RC34.out.later bz)
  have U036 := Hid.mk7 (U034.out.later bz)
  have U136 := Hid.mk7 (U134.out.later bz)
  have U236 := Hid.mk7 (U234.out.later bz)
  have RD36 := Hid.mk7 (RD34.out.later bz)
  have G36 := Hid.mk7 (G34.out.trans (bz.mono G34.out.size))
  have T36 := Hid.mk7 (T34.out.later bz)
  have YB36 := Hid.mk7 (YB34.out.later bz)
  have BB36 := Hid.mk7 (BB34.out.later bz)
  have YC36 := Hid.mk7 (YC34.out.later bz)
  have BC36 := Hid.mk7 (nw33.out.later bz)
  clear RA34 RX34 RC34 U034 U134 U234 RD34 G34 T34 YB34 BB34 YC34 nw33 bz
  have YD37 := Hid.mk7 (hvd)
  clear hvd
  have bz : RowKit.Below w35.heap.size w35 (w35.alloc (.cells #[.int .i64 (s.size : Nat), .slice Da E.length Dc] 24)) := below_newE (RowKit.Below.refl _ _) _
  have nw38 := Hid.mk7 (@Rd.new w35 (.int .i64 (s.size : Nat)) (.slice Da E.length Dc))
  have RA39 := Hid.mk7 (RA36.out.later bz)
  have RX39 := Hid.mk7 (RX36.out.later bz)
  have RC39 := Hid.mk7 (RC36.out.later bz)
  have U039 := Hid.mk7 (U036.out.later bz)
  have U139 := Hid.mk7 (U136.out.later bz)
  have U239 := Hid.mk7 (U236.out.later bz)
  have RD39 := Hid.mk7 (RD36.out.later bz)
  have G39 := Hid.mk7 (G36.out.trans (bz.mono G36.out.size))
  have T39 := Hid.mk7 (T36.out.later bz)
  have YB39 := Hid.mk7 (YB36.out.later bz)
  have BB39 := Hid.mk7 (BB36.out.later bz)
  have YC39 := Hid.mk7 (YC36.out.later bz)
  have BC39 := Hid.mk7 (BC36.out.later bz)
  have YD39 := Hid.mk7 (YD37.out.later bz)
  clear RA36 RX36 RC36 U036 U136 U236 RD36 G36 T36 YB36 BB36 YC36 BC36 YD37 bz
  clear BC39 YC39
  have HDA : Hid (DAt (w35.alloc (.cells #[.int .i64 (s.size : Nat), .slice Da E.length Dc] 24)) (.slice (some ⟨gd, 0, none⟩) 3 3) [(((s.size : Nat) : Int), D0), (((n1 : Nat) : Int), D1), (((n2 : Nat) : Int), D2)]) := by
    refine ⟨_, _, rfl, Nat.le_refl _, fun i q hq => ?_⟩
    have hi3 : i = 0 ∨ i = 1 ∨ i = 2 := by
      have := (List.getElem?_eq_some_iff.1 hq).1
      simp at this
      omega
    rcases hi3 with rfl | rfl | rfl
    · simp at hq; subst hq
      exact ⟨gd, 0, _, rfl, RD39.out.c0, RD39.out.c1, U039.out.row⟩
    · simp at hq; subst hq
      exact ⟨gd, 0, _, rfl, RD39.out.c2, RD39.out.c3, U139.out.row⟩
    · simp at hq; subst hq
      exact ⟨gd, 0, _, rfl, RD39.out.c4, RD39.out.c5, U239.out.row⟩
  have RDc0 := RD39.out.c0
  have RDc1 := RD39.out.c1
  have RDc2 := RD39.out.c2
  have RDc3 := RD39.out.c3
  have RDc4 := RD39.out.c4
  have RDc5 := RD39.out.c5
  have BBc0 := BB39.out.c0
  have BBc1 := BB39.out.c1
  have BDc0 := nw38.out.c0
  have BDc1 := nw38.out.c1
  go_wp2_with fail
  refine (HAL.out _ _ HDA.out T39.out).mono ?_
  rintro e w40 ⟨ve, rfl, hve, bz⟩
  clear RDc0 RDc1 RDc2 RDc3 RDc4 RDc5 BBc0 BBc1 BDc0 BDc1
  obtain ⟨Eea, Eec, rfl, _, _, _⟩ := id hve
  have RA41 := Hid.mk7 (RA39.out.later bz)
  have RX41 := Hid.mk7 (RX39.out.later bz)
  have RC41 := Hid.mk7 (RC39.out.later bz)
  have U041 := Hid.mk7 (U039.out.later bz)
  have U141 := Hid.mk7 (U139.out.later bz)
  have U241 := Hid.mk7 (U239.out.later bz)
  have RD41 := Hid.mk7 (RD39.out.later bz)
  have G41 := Hid.mk7 (G39.out.trans (bz.mono G39.out.size))
  have T41 := Hid.mk7 (T39.out.later bz)
  have YB41 := Hid.mk7 (YB39.out.later bz)
  have BB41 := Hid.mk7 (BB39.out.later bz)
  have YD41 := Hid.mk7 (YD39.out.later bz)
  have BD41 := Hid.mk7 (nw38.out.later bz)
  have DA41 := Hid.mk7 (HDA.out.later bz)
  clear RA39 RX39 RC39 U039 U139 U239 RD39 G39 T39 YB39 BB39 YD39 nw38 HDA bz
  have YE42 := Hid.mk7 (hve)
  clear hve
  clear DA41
  have bz : RowKit.Below w40.heap.size w40 (w40.alloc (.cells #[.int .i64 (s.size : Nat), .slice Eea E.length Eec] 24)) := below_newE (RowKit.Below.refl _ _) _
  have nw43 := Hid.mk7 (@Rd.new w40 (.int .i64 (s.size : Nat)) (.slice Eea E.length Eec))
  have RA44 := Hid.mk7 (RA41.out.later bz)
  have RX44 := Hid.mk7 (RX41.out.later bz)
  have RC44 := Hid.mk7 (RC41.out.later bz)
  have U044 := Hid.mk7 (U041.out.later bz)
  have U144 := Hid.mk7 (U141.out.later bz)
  have U244 := Hid.mk7 (U241.out.later bz)
  have RD44 := Hid.mk7 (RD41.out.later bz)
  have G44 := Hid.mk7 (G41.out.trans (bz.mono G41.out.size))
  have T44 := Hid.mk7 (T41.out.later bz)
  have YB44 := Hid.mk7 (YB41.out.later bz)
  have BB44 := Hid.mk7 (BB41.out.later bz)
  have YD44 := Hid.mk7 (YD41.out.later bz)
  have BD44 := Hid.mk7 (BD41.out.later bz)
  have YE44 := Hid.mk7 (YE42.out.later bz)
  clear RA41 RX41 RC41 U041 U141 U241 RD41 G41 T41 YB41 BB41 YD41 BD41 YE42 bz
  clear HT1 HT2 HT3 HT4 HAL
  have BBc0 := BB44.out.c0
  have BBc1 := BB44.out.c1
  have BDc0 := BD44.out.c0
  have BDc1 := BD44.out.c1
  have BEc0 := nw43.out.c0
  have BEc1 := nw43.out.c1
  have RXc0 := RX44.out.c0
  have RXc1 := RX44.out.c1
  have RXc2 := RX44.out.c2
  go_wp2_with fail
  refine (same_v (t := true) (by simp) (by omega) YB44.out YD44.out).mono ?_
  rintro e w45 ⟨rfl, bz⟩
  clear BBc0 BBc1 BDc0 BDc1 BEc0 BEc1 RXc0 RXc1 RXc2
  have RA46 := Hid.mk7 (RA44.out.later bz)
  have RX46 := Hid.mk7 (RX44.out.later bz)
  have RC46 := Hid.mk7 (RC44.out.later bz)
  have U046 := Hid.mk7 (U044.out.later bz)
  have U146 := Hid.mk7 (U144.out.later bz)
  have U246 := Hid.mk7 (U244.out.later bz)
  have RD46 := Hid.mk7 (RD44.out.later bz)
  have G46 := Hid.mk7 (G44.out.trans (bz.mono G44.out.size))
  have T46 := Hid.mk7 (T44.out.later bz)
  have YB46 := Hid.mk7 (YB44.out.later bz)
  have BB46 := Hid.mk7 (BB44.out.later bz)
  have YD46 := Hid.mk7 (YD44.out.later bz)
  have BD46 := Hid.mk7 (BD44.out.later bz)
  have YE46 := Hid.mk7 (YE44.out.later bz)
  have BE46 := Hid.mk7 (nw43.out.later bz)
  clear RA44 RX44 RC44 U044 U144 U244 RD44 G44 T44 YB44 BB44 YD44 BD44 YE44 nw43 bz
  have BBc0 := BB46.out.c0
  have BBc1 := BB46.out.c1
  have BDc0 := BD46.out.c0
  have BDc1 := BD46.out.c1
  have BEc0 := BE46.out.c0
  have BEc1 := BE46.out.c1
  have RXc0 := RX46.out.c0
  have RXc1 := RX46.out.c1
  have RXc2 := RX46.out.c2
  go_wp2_with fail
  refine (same_v (t := true) (by simp) (by omega) YB46.out YE46.out).mono ?_
  rintro e w47 ⟨rfl, bz⟩
  clear BBc0 BBc1 BDc0 BDc1 BEc0 BEc1 RXc0 RXc1 RXc2
  have RA48 := Hid.mk7 (RA46.out.later bz)
  have RX48 := Hid.mk7 (RX46.out.later bz)
  have RC48 := Hid.mk7 (RC46.out.later bz)
  have U048 := Hid.mk7 (U046.out.later bz)
  have U148 := Hid.mk7 (U146.out.later bz)
  have U248 := Hid.mk7 (U246.out.later bz)
  have RD48 := Hid.mk7 (RD46.out.later bz)
  have G48 := Hid.mk7 (G46.out.trans (bz.mono G46.out.size))
  have T48 := Hid.mk7 (T46.out.later bz)
  have YB48 := Hid.mk7 (YB46.out.later bz)
  have BB48 := Hid.mk7 (BB46.out.later bz)
  have YD48 := Hid.mk7 (YD46.out.later bz)
  have BD48 := Hid.mk7 (BD46.out.later bz)
  have YE48 := Hid.mk7 (YE46.out.later bz)
  have BE48 := Hid.mk7 (BE46.out.later bz)
  clear RA46 RX46 RC46 U046 U146 U246 RD46 G46 T46 YB46 BB46 YD46 BD46 YE46 BE46 bz
  have BBc0 := BB48.out.c0
  have BBc1 := BB48.out.c1
  have BDc0 := BD48.out.c0
  have BDc1 := BD48.out.c1
  have BEc0 := BE48.out.c0
  have BEc1 := BE48.out.c1
  have RXc0 := RX48.out.c0
  have RXc1 := RX48.out.c1
  have RXc2 := RX48.out.c2
  go_wp2_with fail
  refine (refvalid13 hx0 HVA.out _).mono ?_
  rintro e wv ⟨rfl, hw⟩
  obtain rfl : w47 = wv := hw.symm
  clear BBc0 BBc1 BDc0 BDc1 BEc0 BEc1 RXc0 RXc1 RXc2
  go_wp2
  go_ret
  exact ⟨rfl, G48.out⟩
end Go.Proofs.YtiienebioebjpaaDoor
