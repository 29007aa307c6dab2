/- put. Is. Put. -/
import Derived.Test.YtmgjfmgkmlfjeaaDoorSpFew
import Derived.Test.YtmgjfmgkmlfjeaaDoorTurnsP
import Derived.Maps.AppendAt
import Derived.Laws.AppendOwnNone
import Derived.Test.YtmgjfmgkmlfjeaaDoorSpLeast
namespace Go.Proofs.YtmgjfmgkmlfjeaaDoor
open Go.RowKit Go.Sort
set_option linter.unusedSimpArgs false
set_option linter.unusedVariables false

theorem mixNext15 {P : Program} {l : List Oper} {Q : Exit → Act → World → Prop} {r : List (List Nat × List Nat)} {a : Act} {w w3 : World} (hb : RowKit.Below w.heap.size w w3) (h : wpPlan P l (fun w' => ∃ p : Regrown, w' = grow (redrawn w p.d) p.os) Q r a w3) :
    MixNext P l (fun w' => ∃ p : Regrown, w' = grow (redrawn w p.d) p.os) Q r .normal a w3 := mixNext_mk (regrown_of_below hb) h
theorem redrawn15 (w : World) (d : Nat) : RowKit.Below w.heap.size w (redrawn w d) := by have := below_regrown w d #[]; rwa [grow_empty] at this
theorem OwnP.kept {ty : TypeId} {w w' : World} {B : Nat} {v : Value} {es : List Sp} {row : Option Nat} (h : OwnP ty w B v es) (hg : w.grownBy w' row) (hne : ∀ j, v.ownBlock = some j → some j ≠ row) : OwnP ty w' B v es := by
  refine ⟨h.1, h.2.imp id ?_⟩
  rintro ⟨g', cap, cur, h1, h2, h3, h4⟩
  exact ⟨g', cap, cur, h1, h2, (hg.block g' (Array.getElem?_eq_some_iff.1 h3).1 (hne g' (by rw [h1]; rfl))).trans h3, h4⟩
theorem OwnP.news {ty : TypeId} {w : World} {B : Nat} {v : Value} {es : List Sp} (h : OwnP ty w B v es) {ad : Addr} {n c : Nat} (hv : v = .slice (some ad) n c) : ∀ j u, (t3 es)[j]? = some u → w.cell? (ad.add j) = some u := by
  rcases h.2 with ⟨h1, _⟩ | ⟨g, cap, cur, h1, _, _⟩
  · rw [h1] at hv; cases hv
  · have hg := World.ownsRow.cells h (g := g) (by rw [h1]; rfl)
    rw [h1] at hv
    cases hv
    exact hg
set_option maxHeartbeats 4000000 in
set_option maxRecDepth 100000 in
theorem rput_any {w : World} {v : Value} {L : List Sp} (x y z m : Int) (h : SpAt w v L) (hl : L.length ≤ 400) :
    Calls Tryd.prog 21 #[v, .agg #[.int .i64 x, .int .i64 y, .int .i64 z], .int .i64 m] w fun e w' => ∃ v', e = .returned v' ∧ OwnP 57 w' w.heap.size v' (prgS m L (x, y, z)) ∧ Below w.heap.size w w' := by
  obtain ⟨i0, hi, hz0, hz1, hz2⟩ := info_parts Tryd.info_pt
  obtain ⟨a, cap, rfl⟩ := h.shape
  have HI := Hid.mk7 hi
  clear hi
  have hl1 := inS15_len 0 x L
  have hl2 := inS15_len y m L
  have hb0 := below15 (Below.refl w.heap.size w) (.cells #[.int .i64 x, .int .i64 y, .int .i64 z] 57)
  have HP0 := Hid.mk7 (Rt.new 57 w (.int .i64 x) (.int .i64 y) (.int .i64 z))
  have HV0 := Hid.mk7 (h.later hb0)
  have HB0 := Hid.mk7 hb0
  have HW1 := Hid.mk7 (within15_any 0 x HV0.out (by omega))
  have HS : Hid (w.heap.size < (w.alloc (.cells #[.int .i64 x, .int .i64 y, .int .i64 z] 57)).heap.size) := HP0.out.lt
  clear h hb0
  go_enter Tryd.func21, Tryd.ntmps21
  go_wp2_with fail
  refine HW1.out.mono ?_
  rintro e w1 ⟨v1, rfl, o1, b1⟩
  have HO1 := Hid.mk7 (o1.base (B' := w.heap.size + 1) HS.out)
  have HV1 := Hid.mk7 (HV0.out.later b1)
  have HP1 := Hid.mk7 (HP0.out.later b1)
  have HB1 := Hid.mk7 (HB0.out.trans (b1.mono HB0.out.size))
  clear o1 b1 HW1 HV0 HP0 HB0
  have HW2 := Hid.mk7 (within15_any y m HV1.out (by omega))
  have p0 := HP1.out.c0
  have p1 := HP1.out.c1
  have p2 := HP1.out.c2
  go_wp2_with fail
  refine HW2.out.mono ?_
  rintro e w2 ⟨v2, rfl, o2, b2⟩
  have HO2 := Hid.mk7 o2
  have HL1 : Hid (∀ j, v1.ownBlock = some j → j < w1.heap.size) := fun j hj => (World.ownsRow.lt HO1.out j hj).2
  have HO1' := Hid.mk7 (HO1.out.later b2)
  have HP2 := Hid.mk7 (HP1.out.later b2)
  have HB2 := Hid.mk7 (HB1.out.trans (b2.mono HB1.out.size))
  have hs12 := b2.size
  clear o2 b2 HW2 HO1 HP1 HB1 HV1 p0 p1 p2
  have p0 := HP2.out.c0
  have p1 := HP2.out.c1
  have p2 := HP2.out.c2
  have hlt2 := HP2.out.lt
  have hs2 := HB2.out.size
  have HAP : Hid (∀ j, v2.ownBlock = some j → some j ≠ v1.ownBlock) := fun j hj e => by
    have h1 := (World.ownsRow.lt HO2.out j hj).1
    have h2 := HL1.out j e.symm
    omega
  go_wp2_with (at_builtin; refine wpList_append_own_at _ rfl _ _ 53 rfl (w.heap.size + 1) 57 i0 (.agg #[.int .i64 0, .int .i64 0, .int .i64 0]) 3 24 Tryd.underlying53 HI.out hz0 hz1 hz2 rfl (by decide) _ _ _ rfl (World.ownsRow.alloc HO1'.out _) ⟨_, 0, none⟩ 1 1 [.int .i64 x, .int .i64 y, .int .i64 z] rfl rfl (three15 rfl _ _ _ _) (fun u hu => by simp at hu; rcases hu with rfl | rfl | rfl <;> rfl) (by unfold maxLen; omega) (by omega) (by simp; omega) ?_)
  intro v3 w3 hown' hgrow _ _
  have HO3 : Hid (OwnP 57 w3 (w.heap.size + 1) v3 (inS15 0 x L ++ [(x, y, z)])) := by
    show OwnP _ _ _ _ _
    unfold OwnP
    rw [List.length_append, t3_append, t3_one]
    exact hown'
  have HB3 : Hid (Below w.heap.size w w3) := (below15 HB2.out _).grown hgrow (by simp; omega) (fun j hj => by have := (World.ownsRow.lt (HO1'.out) j hj).1; omega)
  have HO4 : Hid (OwnP 57 w3 w1.heap.size v2 (inS15 y m L)) := (HO2.out.alloc _).kept hgrow HAP.out
  have hsz3 := HB3.out.size
  have hlt3 : w.heap.size < w3.heap.size := by have := hgrow.size; simp at this; omega
  have HE : Hid (prgS m L (x, y, z) = fewS (inS15 0 x L ++ [(x, y, z)] ++ inS15 y m L)) := by show _ = _; unfold prgS; rw [List.append_assoc]; rfl
  have hln : (inS15 0 x L ++ [(x, y, z)] ++ inS15 y m L).length ≤ 1000 := by simp; omega
  have hl3 : (inS15 0 x L ++ [(x, y, z)]).length ≤ 401 := by simp; omega
  clear HO1' HO2 HL1 HAP HB2 HP2 p0 p1 p2 hown' hgrow
  rcases HO4.out.2 with ⟨h1, h2⟩ | ⟨g, cp, cur, h1, h2, h3⟩
  · have hnil : inS15 y m L = [] := List.eq_nil_of_length_eq_zero h2
    rw [hnil, List.append_nil] at HE hln
    subst h1
    clear h2 hnil HO4
    have HSL := Hid.mk7 (rleast_any HO3.out.row hln)
    go_wp2_with (at_builtin; refine wpList_append_own_none rfl _ _ 53 rfl (w.heap.size + 1) 57 i0 3 Tryd.underlying53 HI.out _ _ _ rfl HO3.out rfl ?_)
    go_wp2_with fail
    refine HSL.out.mono ?_
    rintro e w4 ⟨v4, rfl, o4, b4⟩
    have HO5 := Hid.mk7 (o4.base hsz3)
    have HB5 := Hid.mk7 (HB3.out.trans (b4.mono hsz3))
    clear o4 b4
    go_wp2
    go_ret
    exact ⟨_, rfl, by rw [HE.out]; exact HO5.out, HB5.out⟩
  · have HNW := Hid.mk7 (HO4.out.news h1)
    generalize hnb : inS15 y m L = Bh at *
    clear hnb
    subst h1
    go_wp2_with (at_builtin; refine wpList_append_own_at _ rfl _ _ 53 rfl (w.heap.size + 1) 57 i0 (.agg #[.int .i64 0, .int .i64 0, .int .i64 0]) 3 24 Tryd.underlying53 HI.out hz0 hz1 hz2 rfl (by decide) _ _ _ rfl HO3.out ⟨g, 0, none⟩ Bh.length cp (t3 Bh) rfl (t3_length _) HNW.out t3_oneCell (by unfold maxLen; omega) (by omega) (by omega) ?_)
    intro v5 w5 hown' hgrow _ _
    have HO5 : Hid (OwnP 57 w5 (w.heap.size + 1) v5 (inS15 0 x L ++ [(x, y, z)] ++ Bh)) := by
      show OwnP _ _ _ _ _
      unfold OwnP
      rw [@List.length_append _ (inS15 0 x L ++ [(x, y, z)]) Bh, t3_append (inS15 0 x L ++ [(x, y, z)]), show (inS15 0 x L ++ [(x, y, z)]).length = (inS15 0 x L).length + 1 by simp]
      exact hown'
    have HB5 : Hid (Below w.heap.size w w5) := HB3.out.grown hgrow hsz3 (fun j hj => by have := (World.ownsRow.lt (HO3.out) j hj).1; omega)
    have hsz5 := HB5.out.size
    have HSL := Hid.mk7 (rleast_any HO5.out.row hln)
    clear HO3 HB3 HO4 HNW hown' hgrow
    go_wp2_with fail
    refine HSL.out.mono ?_
    rintro e w6 ⟨v6, rfl, o6, b6⟩
    have HO6 := Hid.mk7 (o6.base hsz5)
    have HB6 := Hid.mk7 (HB5.out.trans (b6.mono hsz5))
    clear o6 b6
    go_wp2
    go_ret
    exact ⟨_, rfl, by rw [HE.out]; exact HO6.out, HB6.out⟩
end Go.Proofs.YtmgjfmgkmlfjeaaDoor
namespace Go.Proofs.YtmgjfmgkmlfjeaaDoor
open Go.RowKit Go.Sort
set_option linter.unusedSimpArgs false
set_option linter.unusedVariables false

theorem isS_long {n : Int} {L : List Sp} (h : ¬ L.length ≤ 60) : isS n L = false := by rw [isS_parts, decide_eq_false h, Bool.false_and]
theorem isS_short {n : Int} {L : List Sp} (h : L.length ≤ 60) : isS n L = (styB L && lstB (min n 20000) 0 0 L) := by rw [isS_parts, decide_eq_true h, Bool.true_and]
theorem sty_step {f t s : Int} {l : List Sp} (h : 1 ≤ s ∧ s ≤ 100) : styB ((f, t, s) :: l) = styB l := by
  unfold styB; rw [List.all_cons, decide_eq_true (p := 1 ≤ ((f, t, s) : Sp).2.2 ∧ ((f, t, s) : Sp).2.2 ≤ 100) h, Bool.true_and]
theorem sty_stop {f t s : Int} {l : List Sp} (h : ¬ (1 ≤ s ∧ s ≤ 100)) : styB ((f, t, s) :: l) = false := by
  unfold styB; rw [List.all_cons, decide_eq_false (p := 1 ≤ ((f, t, s) : Sp).2.2 ∧ ((f, t, s) : Sp).2.2 ≤ 100) h, Bool.false_and]
set_option maxHeartbeats 2000000 in
set_option maxRecDepth 100000 in
theorem is_any15 {w : World} {v : Value} {L : List Sp} (n : Int) (h : SpAt w v L) :
    Calls Tryd.prog 11 #[v, .int .i64 n] w fun e w' => e = .returned (.bool (isS n L)) ∧ Below w.heap.size w w' := by
  by_cases hl : L.length ≤ 60
  · have HV := Hid.mk7 h
    obtain ⟨a, cap, rfl, hcap, _, hcells⟩ := h
    have HC := Hid.mk7 hcells
    clear hcells
    rw [isS_short hl]
    have d0 : decide ((60 : Int) < (L.length : Nat)) = false := decide_eq_false (by omega)
    have d0' : decide (60 < L.length) = false := decide_eq_false (by omega)
    generalize hres : (styB L && lstB (min n 20000) 0 0 L) = res
    have HR0 := Hid.mk7 hres
    clear hres
    go_enter Tryd.func11, Tryd.ntmps11
    go_wp2
    go_loopw [12] (fun iv wr => ∃ k : Nat, k ≤ L.length ∧ iv = .int .i64 (k : Nat) ∧ Hid (styB (L.drop k) = styB L) ∧ Below w.heap.size w wr) (fun iv _ => L.length - (intOf iv).toNat)
    case atStart => exact ⟨0, Nat.zero_le _, rfl, rfl, Below.refl _ _⟩
    case round =>
      obtain ⟨k, hk, rfl, HS, hb⟩ := hrel
      by_cases hlt : k < L.length
      · obtain ⟨⟨x, y, z⟩, hr⟩ : ∃ r, L[k]? = some r := ⟨L[k], List.getElem?_eq_getElem hlt⟩
        obtain ⟨g, off, rfl, q0, q1, q2⟩ := HC.out k _ hr
        have c0 := cell_later7 hb (Nat.le_refl _) q0
        have c1 := cell_later7 hb (Nat.le_refl _) q1
        have c2 := cell_later7 hb (Nat.le_refl _) q2
        simp only at c0 c1 c2
        rw [drop15 hr] at HS
        have HB1 := Hid.mk7 (below15 hb (.cells #[.int .i64 x, .int .i64 y, .int .i64 z] 24))
        have HT := Hid.mk7 (fun W => sty_any z W)
        clear q0 q1 q2 hr
        by_cases h1 : 1 ≤ z ∧ z ≤ 100
        · rw [decide_eq_true h1] at HT
          have HS2 : Hid (styB (L.drop (k + 1)) = styB L) := by show _ = _; rw [← HS.out, sty_step h1]
          clear h1 HS
          go_wp2_with (refine (HT.out _).mono ?_; rintro e w' ⟨rfl, rfl⟩)
          go_roundw
          case rel => exact ⟨k + 1, by omega, by go_num, HS2, HB1.out⟩
          case measure => simp [intOf]; omega
        · rw [decide_eq_false h1] at HT
          have HF : Hid (res = false) := by show _ = _; rw [← HR0.out, ← HS.out, sty_stop h1]; rfl
          clear h1 HS
          go_wp2_with (refine (HT.out _).mono ?_; rintro e w' ⟨rfl, rfl⟩)
          go_ret
          exact ⟨ret_bool15 HF.out.symm, HB1.out⟩
      · obtain rfl : k = L.length := by omega
        have HF : Hid (lstB (min n 20000) 0 0 L = res) := by show _ = _; have := HS.out; rw [List.drop_length] at this; rw [← HR0.out, ← this]; rfl
        have HRW := Hid.mk7 (rowOf_any (HV.out.later hb) (by omega))
        clear HR0 HS
        by_cases hn : n ≤ 20000
        · have dn : decide (n ≤ 20000) = true := decide_eq_true hn
          have dn' : decide ((20000 : Int) < n) = false := decide_eq_false (by omega)
          have hm : min n 20000 = n := Int.min_eq_left hn
          rw [hm] at HF
          go_wp2_with fail
          refine HRW.out.mono ?_
          rintro e w1 ⟨rv, rfl, o1, b1⟩
          have HLS := Hid.mk7 (least_any n o1.row (by omega))
          rw [HF.out] at HLS
          have HB1 := Hid.mk7 (hb.trans (b1.mono hb.size))
          clear o1 b1 HRW
          go_wp2_with fail
          refine HLS.out.mono ?_
          rintro e w2 ⟨rfl, b2⟩
          have HB2 := Hid.mk7 (HB1.out.trans (b2.mono HB1.out.size))
          clear b2 HLS HB1
          go_wp2
          go_ret
          exact ⟨rfl, HB2.out⟩
        · have dn : decide (n ≤ 20000) = false := decide_eq_false hn
          have dn' : decide ((20000 : Int) < n) = true := decide_eq_true (by omega)
          have hm : min n 20000 = 20000 := Int.min_eq_right (by omega)
          rw [hm] at HF
          go_wp2_with fail
          refine HRW.out.mono ?_
          rintro e w1 ⟨rv, rfl, o1, b1⟩
          have HLS := Hid.mk7 (least_any 20000 o1.row (by omega))
          rw [HF.out] at HLS
          have HB1 := Hid.mk7 (hb.trans (b1.mono hb.size))
          clear o1 b1 HRW
          go_wp2_with fail
          refine HLS.out.mono ?_
          rintro e w2 ⟨rfl, b2⟩
          have HB2 := Hid.mk7 (HB1.out.trans (b2.mono HB1.out.size))
          clear b2 HLS HB1
          go_wp2
          go_ret
          exact ⟨rfl, HB2.out⟩
  · have d0 : decide ((60 : Int) < (L.length : Nat)) = true := decide_eq_true (by omega)
    have d0' : decide (60 < L.length) = true := decide_eq_true (by omega)
    obtain ⟨a, cap, rfl⟩ := h.shape
    rw [isS_long hl]
    go_enter Tryd.func11, Tryd.ntmps11
    go_wp2
    go_ret
    exact ⟨rfl, Below.refl _ _⟩
end Go.Proofs.YtmgjfmgkmlfjeaaDoor
namespace Go.Proofs.YtmgjfmgkmlfjeaaDoor
open Go.RowKit Go.Sort
set_option linter.unusedSimpArgs false
set_option linter.unusedVariables false

/-- A row that lies no lower than this. -/
def HiB (B : Nat) (v : Value) : Prop := ∀ ad n c, v = .slice (some ad) n c → B ≤ ad.block
theorem HiB.nil (B : Nat) : HiB B (.slice none 0 0) := fun ad n c h => by cases h
theorem HiB.mono {B B' : Nat} {v : Value} (h : HiB B v) (hb : B' ≤ B) : HiB B' v := fun ad n c e => Nat.le_trans hb (h ad n c e)
theorem OwnP.hi {ty : TypeId} {w : World} {B : Nat} {v : Value} {es : List Sp} (h : OwnP ty w B v es) : HiB B v := by
  rcases h.2 with ⟨h1, _⟩ | ⟨g, cap, cur, h1, h2, _⟩
  · rw [h1]; exact HiB.nil B
  · intro ad n c e
    rw [h1] at e
    cases e
    exact (World.ownsRow.lt h g (by rw [h1]; rfl)).1
theorem SpAt.set {w : World} {v : Value} {es : List Sp} {g : Nat} (h : SpAt w v es) (hb : HiB (g + 1) v) (j : Nat) (x : Value) : SpAt (w.setCell ⟨g, j, none⟩ x) v es := by
  obtain ⟨a, cap, e, hc, hn, h⟩ := h
  refine ⟨a, cap, e, hc, hn, fun i r hr => ?_⟩
  obtain ⟨g', off, ea, h1, h2, h3⟩ := h i r hr
  have hg : g + 1 ≤ g' := by have := hb ⟨g', off, none⟩ _ _ (by rw [e, ea]); exact this
  have hne : g' ≠ g := by omega
  have key : ∀ o y, w.cell? ⟨g', o, none⟩ = some y → (w.setCell ⟨g, j, none⟩ x).cell? ⟨g', o, none⟩ = some y := fun o y hy => (World.cell?_setCell_other _ _ _ _ (by intro e'; simp only [Addr.mk.injEq] at e'; omega)).trans hy
  exact ⟨g', off, ea, key _ _ h1, key _ _ h2, key _ _ h3⟩
theorem nil_put {w : World} {M : List Sp} (h : M = []) : SpAt w (.slice none 0 0) M := by subst h; exact SpAt.nil w
theorem tup15 {v : Value} {a b : Int} (h : a = b) : Ending.returned (.tuple #[v, .int .i64 a]) = .returned (.tuple #[v, .int .i64 b]) := by rw [h]
set_option maxHeartbeats 4000000 in
set_option maxRecDepth 100000 in
theorem put_any15 {w : World} {v : Value} {L : List Sp} (x y z : Int) (h : SpAt w v L) :
    Calls Tryd.prog 7 #[v, .agg #[.int .i64 x, .int .i64 y, .int .i64 z]] w fun e w' => ∃ v', e = .returned (.tuple #[v', .int .i64 (putE L (x, y, z))]) ∧ SpAt w' v' (putL L (x, y, z)) ∧ HiB w.heap.size v' ∧ Below w.heap.size w w' := by
  have b0 := below15 (Below.refl w.heap.size w) (.cells #[.int .i64 x, .int .i64 y, .int .i64 z] 24)
  have HP0 := Hid.mk7 (Rt.new 24 w (.int .i64 x) (.int .i64 y) (.int .i64 z))
  have HV0 := Hid.mk7 (h.later b0)
  have HB0 := Hid.mk7 b0
  have HIS := Hid.mk7 (is_any15 20000 HV0.out)
  have p0 := HP0.out.c0
  have p1 := HP0.out.c1
  have p2 := HP0.out.c2
  clear h b0
  cases hi : isS 20000 L with
  | false =>
    obtain ⟨e1, e2⟩ := putE_no (l := L) (x := (x, y, z)) (by simp [hi])
    rw [hi] at HIS
    have E1 := Hid.mk7 e1
    have E2 := Hid.mk7 e2
    clear e1 e2 hi
    go_enter Tryd.func7, Tryd.ntmps7
    go_wp2_with fail
    refine HIS.out.mono ?_
    rintro e w1 ⟨rfl, b1⟩
    have HB1 := Hid.mk7 (HB0.out.trans (b1.mono HB0.out.size))
    clear b1 HIS p0 p1 p2
    go_wp2
    go_ret2
    exact ⟨_, tup15 E1.out.symm, nil_put E2.out, HiB.nil _, HB1.out⟩
  | true =>
    rw [hi] at HIS
    have HI := Hid.mk7 hi
    have hl60 : L.length ≤ 60 := (isS_spec.1 hi).1
    clear hi
    cases ht : toP (x, y, z) with
    | false =>
      obtain ⟨e1, e2⟩ := putE_no (l := L) (x := (x, y, z)) (by simp [ht])
      have HT := Hid.mk7 (fun W => top_any x y z W)
      rw [ht] at HT
      have E1 := Hid.mk7 e1
      have E2 := Hid.mk7 e2
      clear e1 e2 ht
      go_enter Tryd.func7, Tryd.ntmps7
      go_wp2_with fail
      refine HIS.out.mono ?_
      rintro e w1 ⟨rfl, b1⟩
      have HB1 := Hid.mk7 (HB0.out.trans (b1.mono HB0.out.size))
      have HP1 := Hid.mk7 (HP0.out.later b1)
      clear b1 HIS p0 p1 p2
      have p0 := HP1.out.c0
      have p1 := HP1.out.c1
      have p2 := HP1.out.c2
      go_wp2_with fail
      refine (HT.out _).mono ?_
      rintro e w2 ⟨rfl, b2⟩
      have HB2 := Hid.mk7 (HB1.out.trans (b2.mono HB1.out.size))
      clear b2 p0 p1 p2
      go_wp2
      go_ret2
      exact ⟨_, tup15 E1.out.symm, nil_put E2.out, HiB.nil _, HB2.out⟩
    | true =>
      have HPU := Hid.mk7 (prg_put (l := L) (x := (x, y, z)) ⟨HI.out, ht⟩)
      have HT := Hid.mk7 (fun W => top_any x y z W)
      rw [ht] at HT
      have HTT := Hid.mk7 ht
      clear ht
      go_enter Tryd.func7, Tryd.ntmps7
      go_wp2_with fail
      refine HIS.out.mono ?_
      rintro e w1 ⟨rfl, b1⟩
      have HB1 := Hid.mk7 (HB0.out.trans (b1.mono HB0.out.size))
      have HP1 := Hid.mk7 (HP0.out.later b1)
      have HV1 := Hid.mk7 (HV0.out.later b1)
      clear b1 HIS p0 p1 p2
      have p0 := HP1.out.c0
      have p1 := HP1.out.c1
      have p2 := HP1.out.c2
      go_wp2_with fail
      refine (HT.out _).mono ?_
      rintro e w2 ⟨rfl, b2⟩
      have HB2 := Hid.mk7 (HB1.out.trans (b2.mono HB1.out.size))
      have HP2 := Hid.mk7 (HP1.out.later b2)
      have HV2 := Hid.mk7 (HV1.out.later b2)
      clear b2 p0 p1 p2 HT HB0 HP0 HV0 HB1 HP1 HV1
      have p0 := HP2.out.c0
      have p1 := HP2.out.c1
      have p2 := HP2.out.c2
      go_wp2_with fail
      have z0 := cell_regrown p0
      have z1 := cell_regrown p1
      have z2 := cell_regrown p2
      refine wp_region_mixP [([0, 2], [1]), ([], [3]), ([], [4]), ([5], [])] (by kernel_rfl) (by kernel_rfl) ?_
      rintro x0 ⟨d0, rfl⟩
      have m0 := redrawn15 w2 d0
      have s0 := m0.size
      refine wpPlan_cons ?_
      simp only [pickAll, pickAt, List.nil_append, List.cons_append, List.append_nil]
      repeat (go_big_quiet_step (fail))
      refine wpQuiet_nil ?_
      go_wp2_with fail
      refine (rowOf_any (HV2.out.later m0) (by omega)).mono ?_
      rintro e x1 ⟨rv, rfl, o1, b1⟩
      have m1 := m0.trans (b1.mono m0.size)
      have s1 := b1.size
      go_wp2
      refine mixNext15 m1 ?_
      refine wpPlan_cons ?_
      simp only [pickAll, pickAt, List.nil_append, List.cons_append, List.append_nil]
      repeat (go_big_quiet_step (fail))
      refine wpQuiet_nil ?_
      go_wp2_with fail
      refine (part_any x y z x1).mono ?_
      rintro e x2 ⟨rfl, b2⟩
      have m2 := m1.trans (b2.mono m1.size)
      have s2 := b2.size
      have o2 := o1.later b2
      go_wp2
      refine mixNext15 m2 ?_
      refine wpPlan_cons ?_
      simp only [pickAll, pickAt, List.nil_append, List.cons_append, List.append_nil]
      repeat (go_big_quiet_step (fail))
      refine wpQuiet_nil ?_
      go_wp2_with fail
      refine (rput_any x y z 20000 o2.row (by omega)).mono ?_
      rintro e x3 ⟨pv, rfl, o3, b3⟩
      have m3 := m2.trans (b3.mono m2.size)
      have s3 := b3.size
      go_wp2
      refine mixNext15 m3 ?_
      refine wpPlan_cons ?_
      simp only [pickAll, pickAt, List.nil_append, List.cons_append, List.append_nil]
      repeat (go_big_quiet_step (fail))
      refine wpQuiet_nil ?_
      refine mixNext15 m3 (wpPlan_nil ?_)
      rw [HPU.out] at o3
      have HO3 := Hid.mk7 o3.row
      have HB3 := Hid.mk7 (HB2.out.trans (m3.mono HB2.out.size))
      obtain ⟨pa, pc, rfl⟩ := o3.row.shape
      have hpl : (putS L (x, y, z)).length ≤ 400 := by
        have h1 := inS15_len 0 x L
        have h2 := inS15_len y 20000 L
        have h3 := fewS_len (inS15 0 x L ++ (x, y, z) :: inS15 y 20000 L)
        have h4 : prgS 20000 L (x, y, z) = fewS (inS15 0 x L ++ (x, y, z) :: inS15 y 20000 L) := rfl
        rw [← HPU.out, h4]
        simp at h3
        omega
      clear p0 p1 p2 z0 z1 z2 m0 m1 m2 m3 b1 b2 b3 o1 o2 o3 s0 s1 s2 s3 HB2 HP2 HV2
      by_cases hm : (putS L (x, y, z)).length ≤ 60
      · obtain ⟨e1, e2⟩ := putE_ok (l := L) (x := (x, y, z)) ⟨HI.out, HTT.out⟩ hm
        have E1 := Hid.mk7 e1
        have E2 := Hid.mk7 e2
        have HSO := Hid.mk7 (spansOf_any HO3.out (by omega))
        have d1 : decide ((60 : Int) < ((putS L (x, y, z)).length : Nat)) = false := decide_eq_false (by omega)
        have d1' : decide (60 < (putS L (x, y, z)).length) = false := decide_eq_false (by omega)
        clear e1 e2
        generalize (putS L (x, y, z)) = M at *
        go_wp2_with fail
        refine HSO.out.mono ?_
        rintro e w4 ⟨v4, rfl, o4, b4⟩
        have HO4 := Hid.mk7 o4.row
        have HH4 := Hid.mk7 (o4.hi.mono HB3.out.size)
        have HB4 := Hid.mk7 (HB3.out.trans (b4.mono HB3.out.size))
        clear o4 b4
        go_wp2
        go_ret2
        exact ⟨_, tup15 E1.out.symm, by rw [E2.out]; exact HO4.out, HH4.out, HB4.out⟩
      · obtain ⟨e1, e2⟩ := putE_many (l := L) (x := (x, y, z)) ⟨HI.out, HTT.out⟩ hm
        have E1 := Hid.mk7 e1
        have E2 := Hid.mk7 e2
        have d1 : decide ((60 : Int) < ((putS L (x, y, z)).length : Nat)) = true := decide_eq_true (by omega)
        have d1' : decide (60 < (putS L (x, y, z)).length) = true := decide_eq_true (by omega)
        clear e1 e2
        generalize (putS L (x, y, z)) = M at *
        go_wp2
        go_ret2
        exact ⟨_, tup15 E1.out.symm, nil_put E2.out, HiB.nil _, HB3.out⟩
end Go.Proofs.YtmgjfmgkmlfjeaaDoor
