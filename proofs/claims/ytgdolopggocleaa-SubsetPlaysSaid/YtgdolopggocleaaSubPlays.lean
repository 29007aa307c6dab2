/- SubsetPlays, walked. -/
import Derived.Test.YtgdolopggocleaaSubLawB
import Derived.Test.YtgdolopggocleaaSubRefOf
import Derived.Test.YtgdolopggocleaaSubSame
namespace Go.Proofs.Ytgdolopggocleaa
open Go.RowKit Go.Sort
set_option linter.unusedSimpArgs false
set_option linter.unusedVariables false

/-- The reference's row. -/
def MI (w : World) (v : Value) (L : List Int) : Prop := ∃ B, OwnI w B v L
theorem MI.later {w w' : World} {v : Value} {L : List Int} (h : MI w v L) (hb : Below w.heap.size w w') : MI w' v L := by
  obtain ⟨B, h⟩ := h
  exact ⟨B, h.later hb⟩
theorem MI.num {w : World} {v : Value} {L : List Int} (h : MI w v L) : NumAt .i64 w v L := by
  obtain ⟨B, h⟩ := h
  exact h.num
theorem grown_refl (w : World) (row : Option Nat) : w.grownBy w row := ⟨rfl, rfl, rfl, Nat.le_refl _, fun _ _ _ => rfl⟩
/-- 'append([]int(nil), m...)': a copy. -/
theorem wp_copy {w : World} {ops : Array Oper} {rest : List Oper} {o : Oper} {a : Act} {Q : Exit → Act → World → Prop} (hgd : o.guard = none) (s x : Operand)
    (ho : o.op = .call { callee := .builtin .append, args := #[s, x], argTypes := #[30, 30] }) (base : Nat) (L : List Int) (v : Value) (hs : a.eval s = .slice none 0 0) (hx : a.eval x = v) (hv : MI w v L) (hl : L.length ≤ 1073741824) (hbase : base ≤ w.heap.size)
    (h : ∀ v' w', OwnI w' base v' L → w.grownBy w' none → wpList Try.prog ops Q rest (a.put o.dst v') w') : wpList Try.prog ops Q (o :: rest) a w := by
  obtain ⟨i0, hi, hz0, hz1, hz2⟩ := info_parts Try.info_int7
  obtain ⟨B, hv⟩ := hv
  rcases hv.2 with ⟨rfl, hL⟩ | ⟨g, cap, cur, rfl, _⟩
  · obtain rfl : L = [] := List.eq_nil_of_length_eq_zero hL
    exact wpList_append_own_none hgd s x 30 ho base 3 i0 1 Try.underlying30 hi _ _ _ hs (World.ownsRow_nil _ _ _ _) hx (h _ w (OwnI.nil _ _) (grown_refl _ _))
  · refine wpList_append_own _ hgd s x 30 ho base 3 i0 (.int .i64 0) 1 8 Try.underlying30 hi hz0 hz1 hz2 rfl (by decide) _ _ _ hs (World.ownsRow_nil _ _ _ _) ⟨g, 0, none⟩ L.length cap (L.map (Value.int .i64)) hx (by simp) (World.ownsRow.cells hv (g := g) rfl) ?_ (by unfold maxLen; omega) (by omega) hbase ?_
    · intro u hu
      obtain ⟨y, _, rfl⟩ := List.mem_map.1 hu
      rfl
    · intro v' w' ho' hg' _
      refine h v' w' ?_ hg'
      unfold OwnI
      simpa using ho'
theorem put_zero (L : List Int) (f : Nat) (c : Int) (h : f ≤ L.length) : put L f f c = L := by
  apply List.ext_getElem?
  intro i
  rw [put_get L f f c (Nat.le_refl _) h, if_neg (by omega)]
theorem put_set (L : List Int) (f j : Nat) (c : Int) (h1 : f ≤ j) (h2 : j < L.length) : (put L f j c).set j c = put L f (j + 1) c := by
  apply List.ext_getElem?
  intro i
  rw [put_get L f (j + 1) c (by omega) (by omega), List.getElem?_set, put_get L f j c h1 (by omega), put_length L f j c h1 (by omega)]
  by_cases e : j = i
  · subst e
    rw [if_pos rfl, if_pos h2, if_pos (by omega)]
  · rw [if_neg e]
    by_cases h : f ≤ i ∧ i < j
    · rw [if_pos h, if_pos (by omega)]
    · rw [if_neg h, if_neg (by omega)]
theorem own_set {w : World} {B : Nat} {g n cap : Nat} {M : List Int} (hn : M.length = n) (h : OwnI w B (.slice (some ⟨g, 0, none⟩) n cap) M) (j : Nat) (c : Int) :
    OwnI (w.setCell ⟨g, j, none⟩ (.int .i64 c)) B (.slice (some ⟨g, 0, none⟩) n cap) (M.set j c) ∧ w.grownBy (w.setCell ⟨g, j, none⟩ (.int .i64 c)) (some g) := by
  subst hn
  obtain ⟨h1, h2⟩ := World.ownsRow.stored h j (.int .i64 c)
  refine ⟨?_, h2⟩
  unfold OwnI
  rw [List.length_set, List.map_set]
  exact h1
theorem owni_shape {w : World} {B : Nat} {v : Value} {L : List Int} (h : OwnI w B v L) : ∃ a cap, v = .slice a L.length cap ∧ L.length ≤ cap ∧ (L ≠ [] → ∃ g, a = some ⟨g, 0, none⟩) := by
  rcases h.2 with ⟨h1, h2⟩ | ⟨g, cap, cur, h1, _, _, h4, _⟩
  · exact ⟨none, 0, by rw [h1, h2], by omega, fun hne => absurd (List.eq_nil_of_length_eq_zero h2) hne⟩
  · exact ⟨_, _, h1, h4, fun _ => ⟨g, rfl⟩⟩

set_option maxHeartbeats 8000000 in
set_option maxRecDepth 100000 in
theorem plays_any (rs : List Sg) (xs : List (Int × Int × Int)) (sv lv : Value) (w : World) (hS : SgAt w sv rs) (hX : StAt w lv xs) (hl1 : rs.length ≤ 8796093022208) (hl2 : xs.length ≤ 8796093022208) :
    Calls Try.prog 3 #[sv, lv] w fun e w' => e = .returned (.bool true) ∧ Below w.heap.size w w' := by
  have HK := Hid.mk7 (known7_any w)
  have HS := Hid.mk7 hS
  have hnn : ∀ (b : Nat) (w : World), (binOp .eql 26 (.pointer (some ⟨b, 0, none⟩)) (.pointer none)).run Try.prog w = .ok (.bool false) w := fun _ _ => by kernel_rfl
  obtain ⟨la, lcap, rfl, hlc, hlcells⟩ := hX
  have HX := Hid.mk7 hlcells
  clear hlcells hS
  go_enter Try.func3, Try.ntmps3
  go_wp2_with fail
  refine HK.out.mono ?_
  rintro e w1 ⟨rfl, b1⟩
  have S1 := Hid.mk7 (HS.out.later b1)
  clear HK HS
  go_wp2_with fail
  refine (few_any S1.out hl1).mono ?_
  rintro e w2 ⟨⟨rfl, hfew⟩ | rfl, rfl⟩
  · have HF := Hid.mk7 hfew
    clear hfew
    by_cases h20 : 20 < xs.length
    · have d1 : decide ((20 : Int) < (xs.length : Int)) = true := decide_eq_true (by omega)
      go_wp2
      go_ret
      exact ⟨rfl, b1⟩
    have d1 : decide ((20 : Int) < (xs.length : Int)) = false := decide_eq_false (by omega)
    have d1' : decide (20 < xs.length) = false := decide_eq_false h20
    by_cases hfm : Fm rs
    · by_cases hm : 200 < rs.length
      · have HO := Hid.mk7 (of_many S1.out (by omega) hfm (Or.inl hm))
        go_wp2_with fail
        refine HO.out.mono ?_
        rintro e w3 ⟨rfl, b3⟩
        have S3 := Hid.mk7 (S1.out.later b3)
        have g3 := b1.trans (b3.mono b1.size)
        clear S1 b3 HO
        go_wp2_with fail
        refine (refof_any S3.out HF.out.2.2 HF.out.2.1).mono ?_
        rintro e w4 ⟨⟨hn, _⟩ | ⟨_, _, rfl⟩ | ⟨_, hn, _⟩, b4⟩
        · exact absurd hfm hn
        · have g4 := g3.trans (b4.mono g3.size)
          clear S3 b4
          go_wp2
          go_ret
          exact ⟨rfl, g4⟩
        · exact absurd hm (by omega)
      · have HO := Hid.mk7 (of_ok S1.out hfm (by omega) (Nat.le_trans HF.out.2.1 (by decide)))
        go_wp2_with fail
        refine HO.out.mono ?_
        rintro e w3 ⟨s, rfl, hs, b3⟩
        obtain ⟨bs, _, rfl, _⟩ := id hs
        have S3 := Hid.mk7 (S1.out.later b3)
        have P3 := Hid.mk7 hs
        have g3 := b1.trans (b3.mono b1.size)
        clear S1 b3 HO hs
        go_wp2_with fail
        refine (refof_any S3.out HF.out.2.2 HF.out.2.1).mono ?_
        rintro e w4 ⟨⟨hn, _⟩ | ⟨_, hn, _⟩ | ⟨_, _, mv, rfl, hmv⟩, b4⟩
        · exact absurd hfm hn
        · exact absurd hn hm
        · have g4 := g3.trans (b4.mono g3.size)
          have P4 := Hid.mk7 (P3.out.later b4)
          have M4 : Hid (MI w4 mv (xp rs)) := ⟨_, hmv⟩
          have HLX := Hid.mk7 HF.out.2.1
          clear S3 b4 P3 hmv b1 g3 HF
          generalize xp rs = L0 at *
          obtain ⟨ma, mcap, rfl, _⟩ := (fun h : OwnI w4 _ mv L0 => owni_shape h) M4.out.choose_spec
          go_wp2
          go_loopw [5, 7, 9] (fun sv mv iv wr => ∃ (i b mc : Nat) (mad : Option Addr) (L : List Int), i ≤ xs.length ∧ iv = .int .i64 (i : Nat) ∧ sv = .pointer (some ⟨b, 0, none⟩) ∧ mv = .slice mad L.length mc ∧ L.length ≤ 600 ∧ Hid (Sub wr (.pointer (some ⟨b, 0, none⟩)) L) ∧ Hid (MI wr (.slice mad L.length mc) L) ∧ Below w.heap.size w wr) (fun _ _ iv _ => xs.length - (intOf iv).toNat)
          case atStart => exact ⟨0, bs, mcap, ma, L0, Nat.zero_le _, rfl, rfl, rfl, HLX.out, P4, M4, g4⟩
          case round =>
            clear P4 M4 g4 HLX
            obtain ⟨i, b, mc, mad, L, hi, rfl, rfl, rfl, hL6, HP, HM, gb⟩ := hrel
            by_cases hlt : i < xs.length
            · obtain ⟨⟨f, t, c⟩, hx⟩ : ∃ x, xs[i]? = some x := ⟨xs[i], List.getElem?_eq_getElem hlt⟩
              obtain ⟨g, off, rfl, q0, q1, q2⟩ := HX.out i _ hx
              have c0 := cell_later7 gb (Nat.le_refl _) q0
              have c1 := cell_later7 gb (Nat.le_refl _) q1
              have c2 := cell_later7 gb (Nat.le_refl _) q2
              simp only at c0 c1 c2
              have bA : Below wr.heap.size wr (wr.alloc (.cells #[.int .i64 f, .int .i64 t, .int .i64 c] 34)) := (Below.refl _ _).alloc (Nat.le_refl _) _
              have MA := Hid.mk7 (HM.out.later bA)
              have x0 : (wr.alloc (.cells #[.int .i64 f, .int .i64 t, .int .i64 c] 34)).cell? ⟨wr.heap.size, 0, none⟩ = some (.int .i64 f) := by rw [World.cell?_alloc_new]; rfl
              have x1 : (wr.alloc (.cells #[.int .i64 f, .int .i64 t, .int .i64 c] 34)).cell? ⟨wr.heap.size, 1, none⟩ = some (.int .i64 t) := by rw [World.cell?_alloc_new]; rfl
              have x2 : (wr.alloc (.cells #[.int .i64 f, .int .i64 t, .int .i64 c] 34)).cell? ⟨wr.heap.size, 2, none⟩ = some (.int .i64 c) := by rw [World.cell?_alloc_new]; rfl
              have X0 := Hid.mk7 x0
              have X1 := Hid.mk7 x1
              have X2 := Hid.mk7 x2
              have BA := Hid.mk7 bA
              clear q0 q1 q2 hx x0 x1 x2 bA
              go_wp2_with (at_builtin; refine wp_copy rfl _ _ rfl (wr.alloc (.cells #[.int .i64 f, .int .i64 t, .int .i64 c] 34)).heap.size L _ rfl rfl MA.out (by omega) (Nat.le_refl _) ?_)
              intro nv w5 ho5 hg5
              clear c0 c1 c2
              have b5 := grown_below7 hg5 rfl
              have HWA : Hid ((wr.alloc (.cells #[.int .i64 f, .int .i64 t, .int .i64 c] 34)).heap.size = wr.heap.size + 1) := by show _ = _; simp
              generalize wr.alloc (.cells #[.int .i64 f, .int .i64 t, .int .i64 c] 34) = wA at *
              obtain ⟨na, ncap, rfl, hncap, hna⟩ := owni_shape ho5
              have HN5 := Hid.mk7 ho5
              have HNA := Hid.mk7 hna
              have B5 := Hid.mk7 b5
              have e0 := cell_later7 b5 (Nat.le_refl _) X0.out
              have e1 := cell_later7 b5 (Nat.le_refl _) X1.out
              have e2 := cell_later7 b5 (Nat.le_refl _) X2.out
              have G5 := Hid.mk7 (BA.out.trans (b5.mono BA.out.size))
              clear ho5 hg5 hna b5
              by_cases f1 : f < 0
              · have d : decide (f < 0) = true := decide_eq_true f1
                have P5 := Hid.mk7 (HP.out.later G5.out)
                have M5 := Hid.mk7 (HM.out.later G5.out)
                have g5 := gb.trans (G5.out.mono gb.size)
                have HW : Hid (Calls Try.prog 13 #[.pointer (some ⟨b, 0, none⟩), .int .i64 f, .int .i64 t, .int .i64 c] w5 fun e w' => e = .returned (.tuple #[.pointer none, .int .i64 10]) ∧ Below w5.heap.size w5 w') := with_range f t c P5.out (by omega) (by omega)
                clear HP HM gb HN5 HNA
                go_wp2_with fail
                refine HW.out.mono ?_
                rintro e w6 ⟨rfl, b6⟩
                have P6 := Hid.mk7 (P5.out.later b6)
                have M6 := Hid.mk7 (M5.out.later b6)
                have g6 := g5.trans (b6.mono g5.size)
                clear P5 M5 g5 b6 HW e0 e1 e2
                go_wp2_with fail
                refine (same_true P6.out M6.out.num (by omega)).mono ?_
                rintro e w7 ⟨rfl, b7⟩
                have P7 := Hid.mk7 (P6.out.later b7)
                have M7 := Hid.mk7 (M6.out.later b7)
                have g7 := g6.trans (b7.mono g6.size)
                clear P6 M6 g6 b7
                go_wp2
                go_roundw
                case rel => exact ⟨i + 1, b, mc, mad, L, by omega, by go_num, rfl, rfl, hL6, P7, M7, g7⟩
                case measure => simp [intOf]; omega
              have df : decide (f < 0) = false := decide_eq_false f1
              by_cases f2 : t < f
              · have d : decide (t < f) = true := decide_eq_true f2
                have P5 := Hid.mk7 (HP.out.later G5.out)
                have M5 := Hid.mk7 (HM.out.later G5.out)
                have g5 := gb.trans (G5.out.mono gb.size)
                have HW : Hid (Calls Try.prog 13 #[.pointer (some ⟨b, 0, none⟩), .int .i64 f, .int .i64 t, .int .i64 c] w5 fun e w' => e = .returned (.tuple #[.pointer none, .int .i64 10]) ∧ Below w5.heap.size w5 w') := with_range f t c P5.out (by omega) (by omega)
                clear HP HM gb HN5 HNA
                go_wp2_with fail
                refine HW.out.mono ?_
                rintro e w6 ⟨rfl, b6⟩
                have P6 := Hid.mk7 (P5.out.later b6)
                have M6 := Hid.mk7 (M5.out.later b6)
                have g6 := g5.trans (b6.mono g5.size)
                clear P5 M5 g5 b6 HW e0 e1 e2
                go_wp2_with fail
                refine (same_true P6.out M6.out.num (by omega)).mono ?_
                rintro e w7 ⟨rfl, b7⟩
                have P7 := Hid.mk7 (P6.out.later b7)
                have M7 := Hid.mk7 (M6.out.later b7)
                have g7 := g6.trans (b7.mono g6.size)
                clear P6 M6 g6 b7
                go_wp2
                go_roundw
                case rel => exact ⟨i + 1, b, mc, mad, L, by omega, by go_num, rfl, rfl, hL6, P7, M7, g7⟩
                case measure => simp [intOf]; omega
              have dt : decide (t < f) = false := decide_eq_false f2
              by_cases f3 : (L.length : Int) < t
              · have d : decide ((L.length : Int) < t) = true := decide_eq_true f3
                have P5 := Hid.mk7 (HP.out.later G5.out)
                have M5 := Hid.mk7 (HM.out.later G5.out)
                have g5 := gb.trans (G5.out.mono gb.size)
                have HW : Hid (Calls Try.prog 13 #[.pointer (some ⟨b, 0, none⟩), .int .i64 f, .int .i64 t, .int .i64 c] w5 fun e w' => e = .returned (.tuple #[.pointer none, .int .i64 10]) ∧ Below w5.heap.size w5 w') := with_range f t c P5.out (by omega) (by omega)
                clear HP HM gb HN5 HNA
                go_wp2_with fail
                refine HW.out.mono ?_
                rintro e w6 ⟨rfl, b6⟩
                have P6 := Hid.mk7 (P5.out.later b6)
                have M6 := Hid.mk7 (M5.out.later b6)
                have g6 := g5.trans (b6.mono g5.size)
                clear P5 M5 g5 b6 HW e0 e1 e2
                go_wp2_with fail
                refine (same_true P6.out M6.out.num (by omega)).mono ?_
                rintro e w7 ⟨rfl, b7⟩
                have P7 := Hid.mk7 (P6.out.later b7)
                have M7 := Hid.mk7 (M6.out.later b7)
                have g7 := g6.trans (b7.mono g6.size)
                clear P6 M6 g6 b7
                go_wp2
                go_roundw
                case rel => exact ⟨i + 1, b, mc, mad, L, by omega, by go_num, rfl, rfl, hL6, P7, M7, g7⟩
                case measure => simp [intOf]; omega
              have dl : decide ((L.length : Int) < t) = false := decide_eq_false f3
              by_cases f4 : c < 0
              · have d : decide (c < 0) = true := decide_eq_true f4
                have P5 := Hid.mk7 (HP.out.later G5.out)
                have M5 := Hid.mk7 (HM.out.later G5.out)
                have g5 := gb.trans (G5.out.mono gb.size)
                have HW : Hid (Calls Try.prog 13 #[.pointer (some ⟨b, 0, none⟩), .int .i64 f, .int .i64 t, .int .i64 c] w5 fun e w' => e = .returned (.tuple #[.pointer none, .int .i64 12]) ∧ Below w5.heap.size w5 w') := with_form f t c P5.out (by omega) (by omega) (Or.inl f4)
                clear HP HM gb HN5 HNA
                go_wp2_with fail
                refine HW.out.mono ?_
                rintro e w6 ⟨rfl, b6⟩
                have P6 := Hid.mk7 (P5.out.later b6)
                have M6 := Hid.mk7 (M5.out.later b6)
                have g6 := g5.trans (b6.mono g5.size)
                clear P5 M5 g5 b6 HW e0 e1 e2
                go_wp2_with fail
                refine (same_true P6.out M6.out.num (by omega)).mono ?_
                rintro e w7 ⟨rfl, b7⟩
                have P7 := Hid.mk7 (P6.out.later b7)
                have M7 := Hid.mk7 (M6.out.later b7)
                have g7 := g6.trans (b7.mono g6.size)
                clear P6 M6 g6 b7
                go_wp2
                go_roundw
                case rel => exact ⟨i + 1, b, mc, mad, L, by omega, by go_num, rfl, rfl, hL6, P7, M7, g7⟩
                case measure => simp [intOf]; omega
              have dc : decide (c < 0) = false := decide_eq_false f4
              by_cases f5 : 100 < c
              · have d : decide (100 < c) = true := decide_eq_true f5
                have P5 := Hid.mk7 (HP.out.later G5.out)
                have M5 := Hid.mk7 (HM.out.later G5.out)
                have g5 := gb.trans (G5.out.mono gb.size)
                have HW : Hid (Calls Try.prog 13 #[.pointer (some ⟨b, 0, none⟩), .int .i64 f, .int .i64 t, .int .i64 c] w5 fun e w' => e = .returned (.tuple #[.pointer none, .int .i64 12]) ∧ Below w5.heap.size w5 w') := with_form f t c P5.out (by omega) (by omega) (Or.inr f5)
                clear HP HM gb HN5 HNA
                go_wp2_with fail
                refine HW.out.mono ?_
                rintro e w6 ⟨rfl, b6⟩
                have P6 := Hid.mk7 (P5.out.later b6)
                have M6 := Hid.mk7 (M5.out.later b6)
                have g6 := g5.trans (b6.mono g5.size)
                clear P5 M5 g5 b6 HW e0 e1 e2
                go_wp2_with fail
                refine (same_true P6.out M6.out.num (by omega)).mono ?_
                rintro e w7 ⟨rfl, b7⟩
                have P7 := Hid.mk7 (P6.out.later b7)
                have M7 := Hid.mk7 (M6.out.later b7)
                have g7 := g6.trans (b7.mono g6.size)
                clear P6 M6 g6 b7
                go_wp2
                go_roundw
                case rel => exact ⟨i + 1, b, mc, mad, L, by omega, by go_num, rfl, rfl, hL6, P7, M7, g7⟩
                case measure => simp [intOf]; omega
              have dh : decide (100 < c) = false := decide_eq_false f5
              obtain ⟨F, rfl⟩ : ∃ F : Nat, f = (F : Int) := ⟨f.toNat, by omega⟩
              obtain ⟨T, rfl⟩ : ∃ T : Nat, t = (T : Int) := ⟨t.toNat, by omega⟩
              have hFT : F ≤ T := by omega
              have hTL : T ≤ L.length := by omega
              have dt2 : decide (T < F) = false := decide_eq_false (by omega)
              have dl2 : decide (L.length < T) = false := decide_eq_false (by omega)
              have HPL : Hid (∀ j, F ≤ j → j ≤ T → (put L F j c).length = L.length) := fun j h1 h2 => put_length L F j c h1 (by omega)
              have HN0 : Hid (OwnI w5 wA.heap.size (.slice na L.length ncap) (put L F F c)) := by show OwnI _ _ _ _; rw [put_zero L F c (by omega), HWA.out]; exact HN5.out
              clear HN5
              go_wp2
              clear e0 e1 e2 f1 f2 f3 f4 f5
              go_loopw [13] (fun kv wx => ∃ j : Nat, F ≤ j ∧ j ≤ T ∧ kv = .int .i64 (j : Nat) ∧ Hid (OwnI wx wA.heap.size (.slice na L.length ncap) (put L F j c)) ∧ Below wA.heap.size wA wx) (fun kv _ => T - (intOf kv).toNat)
              case atStart => exact ⟨F, Nat.le_refl _, hFT, rfl, HN0, B5.out⟩
              case round =>
                clear HN0 B5 G5
                obtain ⟨j, hFj, hjT, rfl, HJ, bx⟩ := hrel
                have e0 := cell_later7 bx (Nat.le_refl _) X0.out
                have e1 := cell_later7 bx (Nat.le_refl _) X1.out
                have e2 := cell_later7 bx (Nat.le_refl _) X2.out
                by_cases hj : j < T
                · obtain ⟨gn, rfl⟩ := HNA.out (fun e => by rw [e] at hTL; simp at hTL; omega)
                  have HJL := Hid.mk7 (HPL.out j hFj hjT)
                  have hjl : j < L.length := by omega
                  have fz : ∀ k, wr.frozen? ⟨gn, k, none⟩ = false := fun k => by
                    have h := HJ.out
                    unfold OwnI at h
                    rw [HJL.out] at h
                    exact h.frozenAt k
                  have cj : ∃ z, wr.cell? ⟨gn, j, none⟩ = some z := by
                    have h := HJ.out
                    unfold OwnI at h
                    rw [HJL.out] at h
                    have := h.cellAt j (by omega)
                    rw [List.getElem?_map, List.getElem?_eq_getElem (by rw [HJL.out]; exact hjl)] at this
                    exact ⟨_, this⟩
                  obtain ⟨zj, cj⟩ := cj
                  have HS := Hid.mk7 (own_set HJL.out HJ.out j c)
                  rw [put_set L F j c hFj hjl] at HS
                  have HGN := Hid.mk7 (HJ.out.lt gn rfl).1
                  have b3 := bx.grown HS.out.2 bx.size (fun k hk => by cases hk; exact HGN.out)
                  have HS1 := Hid.mk7 HS.out.1
                  clear HS HJ
                  go_wp2
                  go_roundw
                  case rel => exact ⟨j + 1, by omega, by omega, by go_num, HS1, b3⟩
                  case measure => simp [intOf]; omega
                · obtain rfl : j = T := by omega
                  have HM7 := Hid.mk7 (HPL.out j hFj (Nat.le_refl _))
                  have Gx := BA.out.trans (bx.mono BA.out.size)
                  have PX := Hid.mk7 (HP.out.later Gx)
                  have MX := Hid.mk7 (HM.out.later Gx)
                  have gx := gb.trans (Gx.mono gb.size)
                  clear HP HM gb Gx
                  go_wp2_with fail
                  refine (told_any HJ.out.num (by rw [HM7.out]; omega)).mono ?_
                  rintro e w7 ⟨⟨hmany, rfl⟩ | ⟨hfew, rfl⟩, b7⟩
                  · have P7 := Hid.mk7 (PX.out.later b7)
                    have M7 := Hid.mk7 (MX.out.later b7)
                    have g7 := gx.trans (b7.mono gx.size)
                    have e0 := cell_later7 b7 (Nat.le_refl _) e0
                    have e1 := cell_later7 b7 (Nat.le_refl _) e1
                    have e2 := cell_later7 b7 (Nat.le_refl _) e2
                    have HW := Hid.mk7 (with_many F j c P7.out (by omega) hFj hTL (by simpa using dc) (by simpa using dh) hmany)
                    clear PX MX gx HJ hmany HNA bx b7
                    go_wp2_with fail
                    refine HW.out.mono ?_
                    rintro e w8 ⟨rfl, b8⟩
                    have P8 := Hid.mk7 (P7.out.later b8)
                    have M8 := Hid.mk7 (M7.out.later b8)
                    have g8 := g7.trans (b8.mono g7.size)
                    clear P7 M7 g7 b8 HW e0 e1 e2
                    go_wp2_with fail
                    refine (same_true P8.out M8.out.num (by omega)).mono ?_
                    rintro e w9 ⟨rfl, b9⟩
                    have P9 := Hid.mk7 (P8.out.later b9)
                    have M9 := Hid.mk7 (M8.out.later b9)
                    have g9 := g8.trans (b9.mono g8.size)
                    clear P8 M8 g8 b9
                    go_wp2
                    go_roundw
                    case rel => exact ⟨i + 1, b, mc, mad, L, by omega, by go_num, rfl, rfl, hL6, P9, M9, g9⟩
                    case measure => simp [intOf]; omega
                  · have P7 := Hid.mk7 (PX.out.later b7)
                    have M7 := Hid.mk7 (MX.out.later b7)
                    have N7 : Hid (MI w7 (.slice na L.length ncap) (put L F j c)) := ⟨_, HJ.out.later b7⟩
                    have g7 := gx.trans (b7.mono gx.size)
                    have e0 := cell_later7 b7 (Nat.le_refl _) e0
                    have e1 := cell_later7 b7 (Nat.le_refl _) e1
                    have e2 := cell_later7 b7 (Nat.le_refl _) e2
                    have HW := Hid.mk7 (with_ok F j c P7.out (by omega) hFj hTL (by simpa using dc) (by simpa using dh) hfew)
                    clear PX MX gx HJ hfew HNA bx b7
                    generalize put L F j c = M at *
                    go_wp2_with fail
                    refine HW.out.mono ?_
                    rintro e w8 ⟨tv, rfl, ht, b8⟩
                    obtain ⟨bt, _, rfl, _⟩ := id ht
                    have T8 := Hid.mk7 ht
                    have P8 := Hid.mk7 (P7.out.later b8)
                    have M8 := Hid.mk7 (M7.out.later b8)
                    have N8 := Hid.mk7 (N7.out.later b8)
                    have g8 := g7.trans (b8.mono g7.size)
                    clear P7 M7 N7 g7 b8 HW e0 e1 e2 ht
                    go_wp2_with fail
                    refine (same_true P8.out M8.out.num (by omega)).mono ?_
                    rintro e w9 ⟨rfl, b9⟩
                    have T9 := Hid.mk7 (T8.out.later b9)
                    have P9 := Hid.mk7 (P8.out.later b9)
                    have M9 := Hid.mk7 (M8.out.later b9)
                    have N9 := Hid.mk7 (N8.out.later b9)
                    have g9 := g8.trans (b9.mono g8.size)
                    clear T8 P8 M8 N8 g8 b9
                    go_wp2_with fail
                    refine (same_true T9.out N9.out.num (by rw [HM7.out]; omega)).mono ?_
                    rintro e w10 ⟨rfl, b10⟩
                    have T10 := Hid.mk7 (T9.out.later b10)
                    have P10 := Hid.mk7 (P9.out.later b10)
                    have M10 := Hid.mk7 (M9.out.later b10)
                    have N10 := Hid.mk7 (N9.out.later b10)
                    have g10 := g9.trans (b10.mono g9.size)
                    clear T9 P9 M9 N9 g9 b10
                    go_wp2_with fail
                    refine (same_any7 T10.out P10.out (by rw [HM7.out]; omega) (by omega)).mono ?_
                    rintro e w11 ⟨rfl, b11⟩
                    have T11 := Hid.mk7 (T10.out.later b11)
                    have P11 := Hid.mk7 (P10.out.later b11)
                    have M11 := Hid.mk7 (M10.out.later b11)
                    have N11 := Hid.mk7 (N10.out.later b11)
                    have g11 := g10.trans (b11.mono g10.size)
                    clear T10 P10 M10 N10 g10 b11
                    go_wp2_with fail
                    refine (equal_nums N11.out.num M11.out.num HM7.out (by rw [HM7.out]; omega)).mono ?_
                    rintro e w12 ⟨rfl, b12⟩
                    have T12 := Hid.mk7 (T11.out.later b12)
                    have N12 := Hid.mk7 (N11.out.later b12)
                    have g12 := g11.trans (b12.mono g11.size)
                    clear T11 P11 M11 N11 g11 b12
                    have HSM : Hid (Calls Try.prog 15 #[.pointer (some ⟨bt, 0, none⟩), .pointer (some ⟨bt, 0, none⟩)] w12 fun e w' => e = .returned (.bool true) ∧ Below w12.heap.size w12 w') := by
                      have := same_any7 T12.out T12.out (by rw [HM7.out]; omega) (by rw [HM7.out]; omega)
                      rw [decide_eq_true rfl] at this
                      exact this
                    go_wp2_with fail
                    refine HSM.out.mono ?_
                    rintro e w13 ⟨rfl, b13⟩
                    have T13 := Hid.mk7 (T12.out.later b13)
                    have N13 := Hid.mk7 (N12.out.later b13)
                    have g13 := g12.trans (b13.mono g12.size)
                    clear T12 N12 g12 b13 HSM
                    go_wp2
                    go_roundw
                    case rel => exact ⟨i + 1, bt, ncap, na, M, by omega, by go_num, rfl, by rw [HM7.out], by rw [HM7.out]; exact hL6, T13, by rw [HM7.out]; exact N13, g13⟩
                    case measure => simp [intOf]; omega
            · have HE := Hid.mk7 (same_true HP.out HM.out.num (by omega))
              go_wp2_with fail
              refine HE.out.mono ?_
              rintro e w9 ⟨rfl, b9⟩
              have g9 := gb.trans (b9.mono gb.size)
              clear HE HP HM gb
              go_wp2
              go_ret
              exact ⟨rfl, g9⟩
    · have HO := Hid.mk7 (of_form S1.out (by omega) hfm)
      go_wp2_with fail
      refine HO.out.mono ?_
      rintro e w3 ⟨rfl, b3⟩
      have S3 := Hid.mk7 (S1.out.later b3)
      have g3 := b1.trans (b3.mono b1.size)
      clear S1 b3 HO
      go_wp2_with fail
      refine (refof_any S3.out HF.out.2.2 HF.out.2.1).mono ?_
      rintro e w4 ⟨⟨_, rfl⟩ | ⟨hn, _⟩ | ⟨hn, _⟩, b4⟩
      · have g4 := g3.trans (b4.mono g3.size)
        clear S3 b4
        go_wp2
        go_ret
        exact ⟨rfl, g4⟩
      · exact absurd hn hfm
      · exact absurd hn hfm
  · go_wp2
    go_ret
    exact ⟨rfl, b1⟩
end Go.Proofs.Ytgdolopggocleaa
