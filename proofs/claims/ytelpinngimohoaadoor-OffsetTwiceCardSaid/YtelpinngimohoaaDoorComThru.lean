/- compose's through. -/
import Derived.Test.YtelpinngimohoaaDoorComFn
import Derived.Test.YtelpinngimohoaaDoorTurnsP
import Derived.Test.YtelpinngimohoaaDoorDelApply
import Derived.Lib.QuietBelow
import Derived.WalkMore
namespace Go.Proofs.YtelpinngimohoaaDoor
open Go.RowKit Go.Sort
set_option linter.unusedSimpArgs false
set_option linter.unusedVariables false

def slen : Value → Nat
  | .slice _ n _ => n
  | _ => 0
/-- Rows that are gone through, and one that grows. -/
structure Cm (w : World) (B1 B2 B3 gx gy : Nat) (wr : World) (lv xv yv : Value) (xs ys acc : List El) : Prop where
  tx : Xl wr B1 gx xv xs
  ty : Xl wr B2 gy yv ys
  own : OwnE wr B3 lv acc
  be : Below w.heap.size w wr
  sz : B3 ≤ wr.heap.size
theorem Cm.grown {w : World} {B1 B2 B3 gx gy : Nat} {wr w' : World} {lv xv yv : Value} {xs ys acc : List El} (h : Cm w B1 B2 B3 gx gy wr lv xv yv xs ys acc) (hg : Below wr.heap.size wr w') : Cm w B1 B2 B3 gx gy w' lv xv yv xs ys acc :=
  ⟨h.tx.kept (grown_below hg none) (by simp), h.ty.kept (grown_below hg none) (by simp), h.own.later hg, h.be.trans (hg.mono h.be.size), Nat.le_trans h.sz hg.size⟩
theorem cm_tx {w : World} {B1 B2 B3 gx gy : Nat} {wr : World} {lv xv yv : Value} {xs ys acc : List El} {f t : Int} {T : List UInt8} (h : Cm w B1 B2 B3 gx gy wr lv xv yv ((f, t, T) :: xs) ys acc) (hw : w.heap.size ≤ B1) (hx : gx < B3) (hxy : gx ≠ gy) (n : Int) (hg : Gd1 (f, t, T)) (hb : Bx (f, t, T)) (hn : 1 ≤ n) (hn2 : n ≤ elz (f, t, T)) (hl : xs.length ≤ 20000) :
    Calls Tryd.prog 46 #[xv, .int .i64 n] wr fun e w' => ∃ xv', e = .returned xv' ∧ Cm w B1 B2 B3 gx gy w' lv xv' yv (beh (f, t, T) n xs) ys acc := by
  have tk := h.tx.1 (by simp)
  refine (cbehind_any tk hg hb hn hn2 (by omega)).mono ?_
  rintro e w' ⟨xv', rfl, t', g'⟩
  refine ⟨xv', rfl, xl_of t', h.ty.kept g' ?_, h.own.kept g' ?_, h.be.grown g' h.be.size ?_, Nat.le_trans h.sz g'.size⟩
  · intro e; simp at e; exact hxy e.symm
  · by_cases hv : lv.ownBlock = none
    · exact Or.inl hv
    · refine Or.inr fun e => ?_
      have := (h.own.lt e).1
      omega
  · intro j hj; cases hj; have := tk.lt.1; omega
theorem cm_ty {w : World} {B1 B2 B3 gx gy : Nat} {wr : World} {lv xv yv : Value} {xs ys acc : List El} {f t : Int} {T : List UInt8} (h : Cm w B1 B2 B3 gx gy wr lv xv yv xs ((f, t, T) :: ys) acc) (hw : w.heap.size ≤ B2) (hx : gy < B3) (hxy : gx ≠ gy) (n : Int) (hg : Gd1 (f, t, T)) (hb : Bx (f, t, T)) (hn : 1 ≤ n) (hn2 : n ≤ elz (f, t, T)) (hl : ys.length ≤ 20000) :
    Calls Tryd.prog 46 #[yv, .int .i64 n] wr fun e w' => ∃ yv', e = .returned yv' ∧ slen yv' = (beh (f, t, T) n ys).length ∧ Cm w B1 B2 B3 gx gy w' lv xv yv' xs (beh (f, t, T) n ys) acc := by
  have tk := h.ty.1 (by simp)
  refine (cbehind_any tk hg hb hn hn2 (by omega)).mono ?_
  rintro e w' ⟨yv', rfl, t', g'⟩
  obtain ⟨a, cap, e⟩ := t'.shape
  refine ⟨yv', rfl, by rw [e]; rfl, h.tx.kept g' ?_, xl_of t', h.own.kept g' ?_, h.be.grown g' h.be.size ?_, Nat.le_trans h.sz g'.size⟩
  · intro e; simp at e; exact hxy e
  · by_cases hv : lv.ownBlock = none
    · exact Or.inl hv
    · refine Or.inr fun e => ?_
      have := (h.own.lt e).1
      omega
  · intro j hj; cases hj; have := tk.lt.1; omega
theorem cm_push {w : World} {B1 B2 B3 gx gy : Nat} {wr : World} {lv xv yv : Value} {xs ys acc : List El} (h : Cm w B1 B2 B3 gx gy wr lv xv yv xs ys acc) (hw : w.heap.size ≤ B3) (hx : gx < B3) (hy : gy < B3) {o : Obj} {v' : Value} {w' : World} (f t : Int) (T : List UInt8)
    (ho : w'.ownsRow B3 51 3 v' (acc.length + 1) (c3 acc ++ [.int .i64 f, .int .i64 t, .string (cacc T)])) (hg : (wr.alloc o).grownBy w' lv.ownBlock) : Cm w B1 B2 B3 gx gy w' v' xv yv xs ys (acc ++ [(f, t, T)]) := by
  have hg2 : wr.grownBy w' lv.ownBlock := grown_trans (World.grownBy_alloc _ _ _) hg
  refine ⟨h.tx.kept hg2 ?_, h.ty.kept hg2 ?_, ?_, h.be.grown hg2 h.be.size ?_, Nat.le_trans h.sz hg2.size⟩
  · intro e; have := (h.own.lt e.symm).1; omega
  · intro e; have := (h.own.lt e.symm).1; omega
  · unfold OwnE
    rw [List.length_append, c3_append, c3_one]
    exact ho
  · intro j hj; have := (h.own.lt hj).1; omega
set_option maxHeartbeats 8000000 in
set_option maxRecDepth 100000 in
theorem through_any {w W : World} {uv vv : Value} {ba bb : Int} {ea eb : List El} (B1 B2 gx gy : Nat) (ha : isB ba ea = true) (hb : isB bb eb = true) (hl : bb = ((cel ea).length : Nat))
    (hx : Xl W B1 gx uv ea) (hy : Xl W B2 gy vv eb) (hb1 : w.heap.size ≤ B1) (hb2 : w.heap.size ≤ B2) (hgx : gx < W.heap.size) (hgy : gy < W.heap.size) (hne : gx ≠ gy) (hbe : Below w.heap.size w W) :
    Calls Tryd.prog 32 #[uv, vv] W fun e w' => ∃ v' ps, e = .returned v' ∧ ElAt w' v' ps ∧ Tg ba (twoC (cel ea) (cel eb)) ps ∧ Below w.heap.size w w' := by
  obtain ⟨i0, hi0, hz0, hz1, hz2⟩ := info_parts Tryd.info_el
  have HI := Hid.mk7 hi0
  have HTH := Hid.mk7 (th_start ha hb hl)
  have HX := Hid.mk7 hx
  have HY := Hid.mk7 hy
  have HEND := Hid.mk7 (fun xs acc a (h : Th (cel ea) ea eb xs [] acc a) => th_end ha hb hl h)
  have hea := (dl_of ha).len
  have heb := (dl_of hb).len
  have hA : (cel ea).length ≤ 20000 := by
    have h1 := (dl_of hb).b1
    omega
  have hbe2 := hbe.size
  clear hx hy ha hb hl hi0
  obtain ⟨A, hAA⟩ : ∃ A, cel ea = A := ⟨_, rfl⟩
  rw [hAA] at HTH HEND hA ⊢
  clear hAA
  go_enter Tryd.func32, Tryd.ntmps32
  go_wp2
  go_step3
  go_wp2
  go_step3
  go_wp2
  go_loopw [0, 1, 5, 6] (fun xv yv lv nv wr => ∃ xs ys acc a, nv = .int .i64 a ∧ Hid (Th A ea eb xs ys acc a) ∧ Hid (Cm w B1 B2 W.heap.size gx gy wr lv xv yv xs ys acc)) (fun _ yv _ nv _ => (A.length - (intOf nv).toNat) + slen yv)
  case atStart => exact ⟨ea, eb, [], 0, rfl, HTH, ⟨HX.out, HY.out, OwnE.nil _ _, hbe, Nat.le_refl _⟩⟩
  case round =>
    clear HTH HX HY hbe
    obtain ⟨xs, ys, acc, a, rfl, HP, HT⟩ := hrel
    have hcnt := HP.out.cnt
    have ha0 := HP.out.a0
    have ha1 := HP.out.a1
    by_cases hy : ys = []
    · subst hy
      obtain ⟨ay, cy, rfl⟩ := HT.out.ty.2 rfl
      have HE := Hid.mk7 (HEND.out _ _ _ HP.out)
      have O2 := Hid.mk7 HT.out.own.row
      have B2' := Hid.mk7 HT.out.be
      clear HT HP hcnt
      go_wp2
      try rw [Exit.noGoto_ret]
      go_ret
      exact ⟨_, _, rfl, O2.out, HE.out, B2'.out⟩
    · obtain ⟨f, t, T, ys, rfl⟩ : ∃ f t T qs, ys = (f, t, T) :: qs := by cases ys with | nil => exact absurd rfl hy | cons r qs => exact ⟨r.1, r.2.1, r.2.2, qs, rfl⟩
      have tky := HT.out.ty.1 (by simp)
      have hbt := HP.out.by' (f, t, T) (by simp)
      have hwy := tky.lt.2
      obtain ⟨ay, capy, rfl⟩ := tky.shape
      obtain ⟨offy, rfl, _, hcy, hcy2, y0, y1, y2⟩ := tky.cells
      simp only [List.length_cons] at hcnt hcy2 y0 y1 y2 ⊢
      obtain ⟨bt0, bt1, bt2, bt3⟩ := id hbt
      simp only at bt0 bt1 bt2 bt3
      have HBT := Hid.mk7 hbt
      have hs3 := HT.out.sz
      clear hy hbt
      have hal : acc.length ≤ 200 := by omega
      have hyl : ys.length ≤ 1000 := by omega
      have hxl : xs.length ≤ 1000 := by omega
      clear hcnt
      by_cases hT0 : T = []
      · subst hT0
        have HIT := Hid.mk7 (fun W => cisText_v f t (T := []) (x := false) (by simp) W)
        obtain ⟨haf, hft, htA, x, r, rfl⟩ := th_more HP.out
        obtain ⟨xf, xt, xT⟩ := x
        have tkx := HT.out.tx.1 (by simp)
        have hwx := tkx.lt.2
        obtain ⟨ax, capx, rfl⟩ := tkx.shape
        obtain ⟨offx, rfl, _, hcx, hcx2, x0, x1, x2⟩ := tkx.cells
        simp only [List.length_cons] at hcx2 x0 x1 x2 hxl ⊢
        have hbx := HP.out.bx (xf, xt, xT) (by simp)
        have hgx1 := HP.out.gx (xf, xt, xT) (by simp)
        have HBX := Hid.mk7 hbx
        have HGX := Hid.mk7 hgx1
        have HGY : Hid (Gd1 (f, t, [])) := Or.inl ⟨rfl, by omega, hft⟩
        have HSX := Hid.mk7 (fun W => csize_any xf xt xT hbx W)
        have HSY := Hid.mk7 (fun W => csize_any f t [] HBT.out W)
        have HPA := Hid.mk7 (fun n (h1 : 0 < n) (h2 : n ≤ elz (xf, xt, xT)) W => cpart_any hgx1 hbx (a := 0) (b := n) (Int.le_refl _) h1 h2 W)
        have hz1x := (ce1_elz hgx1).2
        have hz2x := bx_elz hbx
        have hlx := th_left HP.out
        obtain ⟨z, hz⟩ : ∃ z, elz (xf, xt, xT) = z := ⟨_, rfl⟩
        have HZ := Hid.mk7 hz
        have hzy : elz (f, t, []) = t - f := by simp [elz]
        have HZY := Hid.mk7 hzy
        rw [hz] at hz1x hz2x hlx HSX HPA
        rw [hzy] at HSY
        clear hbx hgx1 hz hzy tkx tky
        have HTM := Hid.mk7 HT.out
        clear HT
        generalize hs0 : cacc ([] : List UInt8) = s0 at *
        have HS0 := Hid.mk7 hs0
        generalize hsx : cacc xT = sx at *
        have HSXT := Hid.mk7 hsx
        clear hs0 hsx
        go_wp2_with fail
        refine (HIT.out wr).mono ?_
        rintro e w2 ⟨rfl, b2⟩
        have HT2 := Hid.mk7 (HTM.out.grown b2)
        have y0' := cell_later7 b2 (Nat.le_refl _) y0
        have y1' := cell_later7 b2 (Nat.le_refl _) y1
        have y2' := cell_later7 b2 (Nat.le_refl _) y2
        have x0' := cell_later7 b2 (Nat.le_refl _) x0
        have x1' := cell_later7 b2 (Nat.le_refl _) x1
        have x2' := cell_later7 b2 (Nat.le_refl _) x2
        clear y0 y1 y2 x0 x1 x2 HTM b2 HIT hs3 hwx hwy
        by_cases hskip : a < f
        · have dsk : decide (a < f) = true := decide_eq_true hskip
          go_upto_region 10 with fail
          rcases (show z ≤ f - a ∨ f - a < z from by omega) with hmin | hmin
          · have HLC := Hid.mk7 (fun d os => Calls.regrown_of (HSX.out (grow (redrawn w2 d) os)))
            have q0 := cell_regrown x0'
            have q1 := cell_regrown x1'
            have q2 := cell_regrown x2'
            have q3 := cell_regrown y0'
            have q4 := cell_regrown y1'
            have q5 := cell_regrown y2'
            clear x0' x1' x2' y0' y1' y2'
            refine wp_region_quiet_below (by kernel_rfl) (by kernel_rfl) ?_
            repeat (go_big_quiet_step (exact HLC.out _ _))
            refine wpQuiet_nil ?_
            intro _ hw'
            obtain ⟨⟨dq, osq⟩, hw''⟩ := hw'
            subst hw''
            have bz := below_regrown w2 dq osq
            have HT3 := Hid.mk7 (HT2.out.grown bz)
            have x0 := q0 dq osq
            have x1 := q1 dq osq
            have x2 := q2 dq osq
            clear bz q0 q1 q2 q3 q4 q5 HLC HT2 HSX HSY
            generalize grow (redrawn w2 dq) osq = w3 at *
            have hs3 := HT3.out.sz
            have HP2 := Hid.mk7 (th_skip HP.out (n := z) (by omega) (by rw [HZ.out]; omega) (by omega))
            clear HP x0 x1 x2
            go_wp2_with fail
            refine (cm_tx HT3.out (by omega) (by omega) hne (z) HGX.out HBX.out (by omega) (by rw [HZ.out]; omega) (by omega)).mono ?_
            rintro e w5 ⟨xv5, rfl, t5⟩
            have HT5 := Hid.mk7 t5
            clear t5 HT3
            go_wp2
            go_roundw
            case rel => exact ⟨_, _, _, _, rfl, HP2, HT5⟩
            case measure => simp only [intOf, slen]; omega
          · have HLC := Hid.mk7 (fun d os => Calls.regrown_of (HSX.out (grow (redrawn w2 d) os)))
            have q0 := cell_regrown x0'
            have q1 := cell_regrown x1'
            have q2 := cell_regrown x2'
            have q3 := cell_regrown y0'
            have q4 := cell_regrown y1'
            have q5 := cell_regrown y2'
            clear x0' x1' x2' y0' y1' y2'
            refine wp_region_quiet_below (by kernel_rfl) (by kernel_rfl) ?_
            repeat (go_big_quiet_step (exact HLC.out _ _))
            refine wpQuiet_nil ?_
            intro _ hw'
            obtain ⟨⟨dq, osq⟩, hw''⟩ := hw'
            subst hw''
            have bz := below_regrown w2 dq osq
            have HT3 := Hid.mk7 (HT2.out.grown bz)
            have x0 := q0 dq osq
            have x1 := q1 dq osq
            have x2 := q2 dq osq
            clear bz q0 q1 q2 q3 q4 q5 HLC HT2 HSX HSY
            generalize grow (redrawn w2 dq) osq = w3 at *
            have hs3 := HT3.out.sz
            have HP2 := Hid.mk7 (th_skip HP.out (n := f - a) (by omega) (by rw [HZ.out]; omega) (by omega))
            clear HP x0 x1 x2
            go_wp2_with fail
            refine (cm_tx HT3.out (by omega) (by omega) hne (f - a) HGX.out HBX.out (by omega) (by rw [HZ.out]; omega) (by omega)).mono ?_
            rintro e w5 ⟨xv5, rfl, t5⟩
            have HT5 := Hid.mk7 t5
            clear t5 HT3
            go_wp2
            go_roundw
            case rel => exact ⟨_, _, _, _, rfl, HP2, HT5⟩
            case measure => simp only [intOf, slen]; omega
        · obtain rfl : a = f := by omega
          have dsk : decide (a < a) = false := decide_eq_false (by omega)
          clear hskip
          go_upto_region 3 with fail
          rcases (show z ≤ t - a ∨ t - a < z from by omega) with hmin | hmin
          · have HLC := Hid.mk7 (fun d os => Calls.regrown_of (HSX.out (grow (redrawn w2 d) os)))
            have HLD := Hid.mk7 (fun d os => Calls.regrown_of (HSY.out (grow (redrawn w2 d) os)))
            have q0 := cell_regrown x0'
            have q1 := cell_regrown x1'
            have q2 := cell_regrown x2'
            have q3 := cell_regrown y0'
            have q4 := cell_regrown y1'
            have q5 := cell_regrown y2'
            clear x0' x1' x2' y0' y1' y2'
            refine wp_region_quiet_below (by kernel_rfl) (by kernel_rfl) ?_
            repeat (go_big_quiet_step (first | (go_at_call_of 45 (Value.agg #[Value.int .i64 xf, Value.int .i64 xt, Value.string sx]); exact HLC.out _ _) | (go_at_call 45; exact HLD.out _ _)))
            refine wpQuiet_nil ?_
            intro _ hw'
            obtain ⟨⟨dq, osq⟩, hw''⟩ := hw'
            subst hw''
            have bz := below_regrown w2 dq osq
            have HT3 := Hid.mk7 (HT2.out.grown bz)
            have x0 := q0 dq osq
            have x1 := q1 dq osq
            have x2 := q2 dq osq
            clear bz q0 q1 q2 q3 q4 q5 HLC HLD HT2 HSX HSY
            generalize grow (redrawn w2 dq) osq = w3 at *
            have hs3 := HT3.out.sz
            have HP2 := Hid.mk7 (th_copy HP.out (n := z) (by omega) (by rw [HZ.out]; omega) (by omega) (by rw [HZ.out]; omega))
            have HPN := Hid.mk7 (HPA.out (z) (by omega) (by omega))
            obtain ⟨⟨pf, pt, pT⟩, hP⟩ : ∃ p, prt (xf, xt, xT) 0 (z) = p := ⟨_, rfl⟩
            rw [hP] at HP2 HPN
            clear HP HPA hP
            go_wp2_with fail
            refine (HPN.out w3).mono ?_
            rintro e w4 ⟨rfl, b4⟩
            have HT4 := Hid.mk7 (HT3.out.grown b4)
            have hs4 := HT4.out.sz
            clear b4 HT3 HPN x0 x1 x2
            go_wp2_with (at_builtin; refine wpList_append_own _ rfl _ _ 22 rfl W.heap.size 51 i0 (.agg #[.int .i64 0, .int .i64 0, .string ⟨#[]⟩]) 3 32 Tryd.underlying22 HI.out hz0 hz1 hz2 rfl (by decide) _ _ _ rfl (HT4.out.own.alloc _) ⟨_, 0, none⟩ 1 1 [.int .i64 pf, .int .i64 pt, .string (cacc pT)] rfl rfl (three_newE _ _ _ _ _) (fun u hu => by simp at hu; rcases hu with rfl | rfl | rfl <;> rfl) (by unfold maxLen; omega) (by omega) (by simp; omega) ?_)
            intro v' w5 hown' hgrow _
            have HT5 := Hid.mk7 (cm_push HT4.out (by omega) hgx hgy pf pt pT hown' hgrow)
            clear hown' hgrow HT4
            go_wp2_with fail
            refine (cm_tx HT5.out (by omega) (by omega) hne (z) HGX.out HBX.out (by omega) (by rw [HZ.out]; omega) (by omega)).mono ?_
            rintro e w6 ⟨xv6, rfl, t6⟩
            have HT6 := Hid.mk7 t6
            clear t6 HT5
            go_wp2_with fail
            refine (cm_ty HT6.out (by omega) (by omega) hne (z) HGY.out HBT.out (by omega) (by rw [HZY.out]; omega) (by omega)).mono ?_
            rintro e w7 ⟨yv7, rfl, sy7, t7⟩
            have HT7 := Hid.mk7 t7
            have SY7 := Hid.mk7 sy7
            clear t7 sy7 HT6
            go_wp2
            go_roundw
            case rel => exact ⟨_, _, _, _, rfl, HP2, HT7⟩
            case measure =>
              have := (beh_len (a, t, []) (z) ys).1
              rw [SY7.out]
              simp only [intOf, slen]; omega
          · have HLC := Hid.mk7 (fun d os => Calls.regrown_of (HSX.out (grow (redrawn w2 d) os)))
            have HLD := Hid.mk7 (fun d os => Calls.regrown_of (HSY.out (grow (redrawn w2 d) os)))
            have q0 := cell_regrown x0'
            have q1 := cell_regrown x1'
            have q2 := cell_regrown x2'
            have q3 := cell_regrown y0'
            have q4 := cell_regrown y1'
            have q5 := cell_regrown y2'
            clear x0' x1' x2' y0' y1' y2'
            refine wp_region_quiet_below (by kernel_rfl) (by kernel_rfl) ?_
            repeat (go_big_quiet_step (first | (go_at_call_of 45 (Value.agg #[Value.int .i64 xf, Value.int .i64 xt, Value.string sx]); exact HLC.out _ _) | (go_at_call 45; exact HLD.out _ _)))
            refine wpQuiet_nil ?_
            intro _ hw'
            obtain ⟨⟨dq, osq⟩, hw''⟩ := hw'
            subst hw''
            have bz := below_regrown w2 dq osq
            have HT3 := Hid.mk7 (HT2.out.grown bz)
            have x0 := q0 dq osq
            have x1 := q1 dq osq
            have x2 := q2 dq osq
            clear bz q0 q1 q2 q3 q4 q5 HLC HLD HT2 HSX HSY
            generalize grow (redrawn w2 dq) osq = w3 at *
            have hs3 := HT3.out.sz
            have HP2 := Hid.mk7 (th_copy HP.out (n := t - a) (by omega) (by rw [HZ.out]; omega) (by omega) (by rw [HZ.out]; omega))
            have HPN := Hid.mk7 (HPA.out (t - a) (by omega) (by omega))
            obtain ⟨⟨pf, pt, pT⟩, hP⟩ : ∃ p, prt (xf, xt, xT) 0 (t - a) = p := ⟨_, rfl⟩
            rw [hP] at HP2 HPN
            clear HP HPA hP
            go_wp2_with fail
            refine (HPN.out w3).mono ?_
            rintro e w4 ⟨rfl, b4⟩
            have HT4 := Hid.mk7 (HT3.out.grown b4)
            have hs4 := HT4.out.sz
            clear b4 HT3 HPN x0 x1 x2
            go_wp2_with (at_builtin; refine wpList_append_own _ rfl _ _ 22 rfl W.heap.size 51 i0 (.agg #[.int .i64 0, .int .i64 0, .string ⟨#[]⟩]) 3 32 Tryd.underlying22 HI.out hz0 hz1 hz2 rfl (by decide) _ _ _ rfl (HT4.out.own.alloc _) ⟨_, 0, none⟩ 1 1 [.int .i64 pf, .int .i64 pt, .string (cacc pT)] rfl rfl (three_newE _ _ _ _ _) (fun u hu => by simp at hu; rcases hu with rfl | rfl | rfl <;> rfl) (by unfold maxLen; omega) (by omega) (by simp; omega) ?_)
            intro v' w5 hown' hgrow _
            have HT5 := Hid.mk7 (cm_push HT4.out (by omega) hgx hgy pf pt pT hown' hgrow)
            clear hown' hgrow HT4
            go_wp2_with fail
            refine (cm_tx HT5.out (by omega) (by omega) hne (t - a) HGX.out HBX.out (by omega) (by rw [HZ.out]; omega) (by omega)).mono ?_
            rintro e w6 ⟨xv6, rfl, t6⟩
            have HT6 := Hid.mk7 t6
            clear t6 HT5
            go_wp2_with fail
            refine (cm_ty HT6.out (by omega) (by omega) hne (t - a) HGY.out HBT.out (by omega) (by rw [HZY.out]; omega) (by omega)).mono ?_
            rintro e w7 ⟨yv7, rfl, sy7, t7⟩
            have HT7 := Hid.mk7 t7
            have SY7 := Hid.mk7 sy7
            clear t7 sy7 HT6
            go_wp2
            go_roundw
            case rel => exact ⟨_, _, _, _, rfl, HP2, HT7⟩
            case measure =>
              have := (beh_len (a, t, []) (t - a) ys).1
              rw [SY7.out]
              simp only [intOf, slen]; omega
      · obtain ⟨N, hN⟩ : ∃ N, N = ys.length + 1 := ⟨_, rfl⟩
        have HN := Hid.mk7 hN
        rw [← hN] at hcy2 ⊢
        have hp : 0 < N := by omega
        have hp2 : N ≤ 1001 := by omega
        clear hN
        have HPT := Hid.mk7 (th_text HP.out hT0)
        have HIT := Hid.mk7 (fun W => cisText_v f t (T := T) (x := true) (by simpa using hT0) W)
        clear tky HP hT0
        have HTM := Hid.mk7 HT.out
        clear HT
        generalize hs0 : cacc T = s0 at *
        have HS0 := Hid.mk7 hs0
        clear hs0
        go_wp2_with fail
        refine (HIT.out wr).mono ?_
        rintro e w2 ⟨rfl, b2⟩
        have HT2 := Hid.mk7 (HTM.out.grown b2)
        have y0' := cell_later7 b2 (Nat.le_refl _) y0
        have y1' := cell_later7 b2 (Nat.le_refl _) y1
        have y2' := cell_later7 b2 (Nat.le_refl _) y2
        have hwy2 : gy < w2.heap.size := Nat.lt_of_lt_of_le hwy b2.size
        clear y0 y1 y2 HTM b2 HIT hs3
        go_upto_region 8 with fail
        refine wp_region_turns (fun w' => ∃ q : (GW (fun W => W.cell? ⟨gy, offy, none⟩ = some (.int .i64 f) ∧ W.cell? ⟨gy, offy + 1, none⟩ = some (.int .i64 t) ∧ W.cell? ⟨gy, offy + 2, none⟩ = some (.string s0) ∧ gy < W.heap.size)), w' = q.w) [0, 1, 2, 3, 6, 7] 9 4 (by kernel_rfl) (by kernel_rfl) (fun d => ⟨⟨redrawn w2 d, y0', y1', y2', hwy2⟩, rfl⟩) ?_
        intro d
        have k0 : ∀ q : (GW (fun W => W.cell? ⟨gy, offy, none⟩ = some (.int .i64 f) ∧ W.cell? ⟨gy, offy + 1, none⟩ = some (.int .i64 t) ∧ W.cell? ⟨gy, offy + 2, none⟩ = some (.string s0) ∧ gy < W.heap.size)), q.w.cell? ⟨gy, offy, none⟩ = some (.int .i64 f) := fun q => q.h.1
        have k1 : ∀ q : (GW (fun W => W.cell? ⟨gy, offy, none⟩ = some (.int .i64 f) ∧ W.cell? ⟨gy, offy + 1, none⟩ = some (.int .i64 t) ∧ W.cell? ⟨gy, offy + 2, none⟩ = some (.string s0) ∧ gy < W.heap.size)), q.w.cell? ⟨gy, offy + 1, none⟩ = some (.int .i64 t) := fun q => q.h.2.1
        have k2 : ∀ q : (GW (fun W => W.cell? ⟨gy, offy, none⟩ = some (.int .i64 f) ∧ W.cell? ⟨gy, offy + 1, none⟩ = some (.int .i64 t) ∧ W.cell? ⟨gy, offy + 2, none⟩ = some (.string s0) ∧ gy < W.heap.size)), q.w.cell? ⟨gy, offy + 2, none⟩ = some (.string s0) := fun q => q.h.2.2.1
        simp only [pickAll, pickAt, List.nil_append, List.cons_append, List.append_nil]
        have hne' : Nonempty (GW (fun W => W.cell? ⟨gy, offy, none⟩ = some (.int .i64 f) ∧ W.cell? ⟨gy, offy + 1, none⟩ = some (.int .i64 t) ∧ W.cell? ⟨gy, offy + 2, none⟩ = some (.string s0) ∧ gy < W.heap.size)) := ⟨⟨w2, y0', y1', y2', hwy2⟩⟩
        repeat (go_big_quiet_step (fail))
        refine wpQuiet_nil ?_
        clear hne' k0 k1 k2
        have bd := below_redrawnE w2 d
        have HT3 := Hid.mk7 (HT2.out.grown bd)
        have z0 := cell_later7 bd (Nat.le_refl _) y0'
        have z1 := cell_later7 bd (Nat.le_refl _) y1'
        have z2 := cell_later7 bd (Nat.le_refl _) y2'
        have hwy3 : gy < (redrawn w2 d).heap.size := Nat.lt_of_lt_of_le hwy2 bd.size
        clear y0' y1' y2' HT2 bd hwy2
        generalize redrawn w2 d = x0 at *
        refine anyC_pick1 4 (by kernel_rfl) (by kernel_rfl) ?_
        simp only [pickAll, pickAt, List.nil_append, List.cons_append, List.append_nil]
        go_wp2
        · have bx0 := below_newE (Below.refl x0.heap.size x0) (.cells #[.int .i64 f, .int .i64 t, .string s0] 51)
          have c0 := cell_later7 bx0 (Nat.le_refl _) z0
          have c1 := cell_later7 bx0 (Nat.le_refl _) z1
          have c2 := cell_later7 bx0 (Nat.le_refl _) z2
          refine anyNext_mk ⟨⟨_, c0, c1, c2, Nat.lt_of_lt_of_le hwy3 bx0.size⟩, rfl⟩ ?_
          refine anyC_pick1 5 (by kernel_rfl) (by kernel_rfl) ?_
          simp only [pickAll, pickAt, List.nil_append, List.cons_append, List.append_nil]
          have hs3 := HT3.out.sz
          go_wp2_with (at_builtin; refine wpList_append_own _ rfl _ _ 22 rfl W.heap.size 51 i0 (.agg #[.int .i64 0, .int .i64 0, .string ⟨#[]⟩]) 3 32 Tryd.underlying22 HI.out hz0 hz1 hz2 rfl (by decide) _ _ _ rfl (HT3.out.own.alloc _) ⟨_, 0, none⟩ 1 1 [.int .i64 f, .int .i64 t, .string s0] rfl rfl (three_newE _ _ _ _ _) (fun u hu => by simp at hu; rcases hu with rfl | rfl | rfl <;> rfl) (by unfold maxLen; omega) (by omega) (by simp; omega) ?_)
          intro v' w3 hown' hgrow _
          have HT4 := Hid.mk7 (cm_push HT3.out (by omega) hgx hgy f t T (by rw [HS0.out]; exact hown') hgrow)
          have tk4 := HT4.out.ty.1 (by simp)
          have hwy4 := tk4.lt.2
          obtain ⟨off4, e4, _, _, _, d0, d1, d2⟩ := tk4.cells
          cases e4
          simp only at d0 d1 d2
          rw [HS0.out] at d2
          clear hown' hgrow HT3 c0 c1 c2 bx0 z0 z1 z2
          go_wp2
          refine anyNext_mk ⟨⟨_, d0, d1, d2, hwy4⟩, rfl⟩ ?_
          refine anyC_pick1 8 (by kernel_rfl) (by kernel_rfl) ?_
          simp only [pickAll, pickAt, List.nil_append, List.cons_append, List.append_nil]
          go_wp2
          refine anyNext_mk ⟨⟨_, d0, d1, d2, hwy4⟩, rfl⟩ ?_
          refine anyC_pick1 9 (by kernel_rfl) (by kernel_rfl) ?_
          simp only [pickAll, pickAt, List.nil_append, List.cons_append, List.append_nil]
          clear d0 d1 d2 tk4
          go_wp2
          refine anyNext_last (anyC_done (by kernel_rfl) ?_)
          go_wp2
          go_roundw
          case rel =>
            refine ⟨xs, ys, acc ++ [(f, t, T)], a, rfl, HPT, ⟨HT4.out.tx, xl_of ((HT4.out.ty.1 (by simp)).tail (by have := HN.out; omega) (by omega) ?_), HT4.out.own, HT4.out.be, HT4.out.sz⟩⟩
            intro hxn
            have h1 : 0 < ys.length := List.length_pos_iff.2 hxn
            have h2 := HN.out
            first | (rw [if_neg (by omega)]) | (exfalso; omega) | rfl
          case measure => simp only [slen]; omega
        · have bx0 := below_newE (Below.refl x0.heap.size x0) (.cells #[.int .i64 f, .int .i64 t, .string s0] 51)
          have c0 := cell_later7 bx0 (Nat.le_refl _) z0
          have c1 := cell_later7 bx0 (Nat.le_refl _) z1
          have c2 := cell_later7 bx0 (Nat.le_refl _) z2
          refine anyNext_mk ⟨⟨_, c0, c1, c2, Nat.lt_of_lt_of_le hwy3 bx0.size⟩, rfl⟩ ?_
          refine anyC_pick1 5 (by kernel_rfl) (by kernel_rfl) ?_
          simp only [pickAll, pickAt, List.nil_append, List.cons_append, List.append_nil]
          have hs3 := HT3.out.sz
          go_wp2_with (at_builtin; refine wpList_append_own _ rfl _ _ 22 rfl W.heap.size 51 i0 (.agg #[.int .i64 0, .int .i64 0, .string ⟨#[]⟩]) 3 32 Tryd.underlying22 HI.out hz0 hz1 hz2 rfl (by decide) _ _ _ rfl (HT3.out.own.alloc _) ⟨_, 0, none⟩ 1 1 [.int .i64 f, .int .i64 t, .string s0] rfl rfl (three_newE _ _ _ _ _) (fun u hu => by simp at hu; rcases hu with rfl | rfl | rfl <;> rfl) (by unfold maxLen; omega) (by omega) (by simp; omega) ?_)
          intro v' w3 hown' hgrow _
          have HT4 := Hid.mk7 (cm_push HT3.out (by omega) hgx hgy f t T (by rw [HS0.out]; exact hown') hgrow)
          have tk4 := HT4.out.ty.1 (by simp)
          have hwy4 := tk4.lt.2
          obtain ⟨off4, e4, _, _, _, d0, d1, d2⟩ := tk4.cells
          cases e4
          simp only at d0 d1 d2
          rw [HS0.out] at d2
          clear hown' hgrow HT3 c0 c1 c2 bx0 z0 z1 z2
          go_wp2
          refine anyNext_mk ⟨⟨_, d0, d1, d2, hwy4⟩, rfl⟩ ?_
          refine anyC_pick1 8 (by kernel_rfl) (by kernel_rfl) ?_
          simp only [pickAll, pickAt, List.nil_append, List.cons_append, List.append_nil]
          go_wp2
          refine anyNext_mk ⟨⟨_, d0, d1, d2, hwy4⟩, rfl⟩ ?_
          refine anyC_pick1 9 (by kernel_rfl) (by kernel_rfl) ?_
          simp only [pickAll, pickAt, List.nil_append, List.cons_append, List.append_nil]
          clear d0 d1 d2 tk4
          go_wp2
          refine anyNext_last (anyC_done (by kernel_rfl) ?_)
          go_wp2
          go_roundw
          case rel =>
            refine ⟨xs, ys, acc ++ [(f, t, T)], a, rfl, HPT, ⟨HT4.out.tx, xl_of ((HT4.out.ty.1 (by simp)).tail (by have := HN.out; omega) (by omega) ?_), HT4.out.own, HT4.out.be, HT4.out.sz⟩⟩
            intro hxn
            have h1 : 0 < ys.length := List.length_pos_iff.2 hxn
            have h2 := HN.out
            first | (rw [if_neg (by omega)]) | (exfalso; omega) | rfl
          case measure => simp only [slen]; omega
end Go.Proofs.YtelpinngimohoaaDoor
