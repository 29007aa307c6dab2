/- Put. -/
import Derived.Test.YtmgjfmgkmlfjeaaDoorSpPutP
import Derived.Test.YtmgjfmgkmlfjeaaDoorSpIs
namespace Go.Proofs.YtmgjfmgkmlfjeaaDoor
open Go.RowKit Go.Sort
set_option linter.unusedSimpArgs false
set_option linter.unusedVariables false

/-- A row that lies no lower than this. -/
def HiB (B : Nat) (v : Value) : Prop := ∀ ad n c, v = .slice (some ad) n c → B ≤ ad.block
theorem HiB.nil (B : Nat) : HiB B (.slice none 0 0) := fun ad n c h => by cases h
theorem HiB.mono {B B' : Nat} {v : Value} (h : HiB B v) (hb : B' ≤ B) : HiB B' v := fun ad n c e => Nat.le_trans hb (h ad n c e)
theorem OwnP.hi {ty : TypeId} {w : World} {B : Nat} {v : Value} {es : List Sp} (h : OwnP ty w B v es) : HiB B v := by
  rcases h.2 with ⟨h1, _⟩ | ⟨g, cap, cur, h1, h2, _⟩
  · rw [h1]; exact HiB.nil B
  · intro ad n c e
    rw [h1] at e
    cases e
    exact (World.ownsRow.lt h g (by rw [h1]; rfl)).1
theorem SpAt.set {w : World} {v : Value} {es : List Sp} {g : Nat} (h : SpAt w v es) (hb : HiB (g + 1) v) (j : Nat) (x : Value) : SpAt (w.setCell ⟨g, j, none⟩ x) v es := by
  obtain ⟨a, cap, e, hc, hn, h⟩ := h
  refine ⟨a, cap, e, hc, hn, fun i r hr => ?_⟩
  obtain ⟨g', off, ea, h1, h2, h3⟩ := h i r hr
  have hg : g + 1 ≤ g' := by have := hb ⟨g', off, none⟩ _ _ (by rw [e, ea]); exact this
  have hne : g' ≠ g := by omega
  have key : ∀ o y, w.cell? ⟨g', o, none⟩ = some y → (w.setCell ⟨g, j, none⟩ x).cell? ⟨g', o, none⟩ = some y := fun o y hy => (World.cell?_setCell_other _ _ _ _ (by intro e'; simp only [Addr.mk.injEq] at e'; omega)).trans hy
  exact ⟨g', off, ea, key _ _ h1, key _ _ h2, key _ _ h3⟩
theorem nil_put {w : World} {M : List Sp} (h : M = []) : SpAt w (.slice none 0 0) M := by subst h; exact SpAt.nil w
theorem tup15 {v : Value} {a b : Int} (h : a = b) : Ending.returned (.tuple #[v, .int .i64 a]) = .returned (.tuple #[v, .int .i64 b]) := by rw [h]
set_option maxHeartbeats 4000000 in
set_option maxRecDepth 100000 in
theorem put_any15 {w : World} {v : Value} {L : List Sp} (x y z : Int) (h : SpAt w v L) :
    Calls Tryd.prog 7 #[v, .agg #[.int .i64 x, .int .i64 y, .int .i64 z]] w fun e w' => ∃ v', e = .returned (.tuple #[v', .int .i64 (putE L (x, y, z))]) ∧ SpAt w' v' (putL L (x, y, z)) ∧ HiB w.heap.size v' ∧ Below w.heap.size w w' := by
  have b0 := below15 (Below.refl w.heap.size w) (.cells #[.int .i64 x, .int .i64 y, .int .i64 z] 24)
  have HP0 := Hid.mk7 (Rt.new 24 w (.int .i64 x) (.int .i64 y) (.int .i64 z))
  have HV0 := Hid.mk7 (h.later b0)
  have HB0 := Hid.mk7 b0
  have HIS := Hid.mk7 (is_any15 20000 HV0.out)
  have p0 := HP0.out.c0
  have p1 := HP0.out.c1
  have p2 := HP0.out.c2
  clear h b0
  cases hi : isS 20000 L with
  | false =>
    obtain ⟨e1, e2⟩ := putE_no (l := L) (x := (x, y, z)) (by simp [hi])
    rw [hi] at HIS
    have E1 := Hid.mk7 e1
    have E2 := Hid.mk7 e2
    clear e1 e2 hi
    go_enter Tryd.func7, Tryd.ntmps7
    go_wp2_with fail
    refine HIS.out.mono ?_
    rintro e w1 ⟨rfl, b1⟩
    have HB1 := Hid.mk7 (HB0.out.trans (b1.mono HB0.out.size))
    clear b1 HIS p0 p1 p2
    go_wp2
    go_ret2
    exact ⟨_, tup15 E1.out.symm, nil_put E2.out, HiB.nil _, HB1.out⟩
  | true =>
    rw [hi] at HIS
    have HI := Hid.mk7 hi
    have hl60 : L.length ≤ 60 := (isS_spec.1 hi).1
    clear hi
    cases ht : toP (x, y, z) with
    | false =>
      obtain ⟨e1, e2⟩ := putE_no (l := L) (x := (x, y, z)) (by simp [ht])
      have HT := Hid.mk7 (fun W => top_any x y z W)
      rw [ht] at HT
      have E1 := Hid.mk7 e1
      have E2 := Hid.mk7 e2
      clear e1 e2 ht
      go_enter Tryd.func7, Tryd.ntmps7
      go_wp2_with fail
      refine HIS.out.mono ?_
      rintro e w1 ⟨rfl, b1⟩
      have HB1 := Hid.mk7 (HB0.out.trans (b1.mono HB0.out.size))
      have HP1 := Hid.mk7 (HP0.out.later b1)
      clear b1 HIS p0 p1 p2
      have p0 := HP1.out.c0
      have p1 := HP1.out.c1
      have p2 := HP1.out.c2
      go_wp2_with fail
      refine (HT.out _).mono ?_
      rintro e w2 ⟨rfl, b2⟩
      have HB2 := Hid.mk7 (HB1.out.trans (b2.mono HB1.out.size))
      clear b2 p0 p1 p2
      go_wp2
      go_ret2
      exact ⟨_, tup15 E1.out.symm, nil_put E2.out, HiB.nil _, HB2.out⟩
    | true =>
      have HPU := Hid.mk7 (prg_put (l := L) (x := (x, y, z)) ⟨HI.out, ht⟩)
      have HT := Hid.mk7 (fun W => top_any x y z W)
      rw [ht] at HT
      have HTT := Hid.mk7 ht
      clear ht
      go_enter Tryd.func7, Tryd.ntmps7
      go_wp2_with fail
      refine HIS.out.mono ?_
      rintro e w1 ⟨rfl, b1⟩
      have HB1 := Hid.mk7 (HB0.out.trans (b1.mono HB0.out.size))
      have HP1 := Hid.mk7 (HP0.out.later b1)
      have HV1 := Hid.mk7 (HV0.out.later b1)
      clear b1 HIS p0 p1 p2
      have p0 := HP1.out.c0
      have p1 := HP1.out.c1
      have p2 := HP1.out.c2
      go_wp2_with fail
      refine (HT.out _).mono ?_
      rintro e w2 ⟨rfl, b2⟩
      have HB2 := Hid.mk7 (HB1.out.trans (b2.mono HB1.out.size))
      have HP2 := Hid.mk7 (HP1.out.later b2)
      have HV2 := Hid.mk7 (HV1.out.later b2)
      clear b2 p0 p1 p2 HT HB0 HP0 HV0 HB1 HP1 HV1
      have p0 := HP2.out.c0
      have p1 := HP2.out.c1
      have p2 := HP2.out.c2
      go_wp2_with fail
      have z0 := cell_regrown p0
      have z1 := cell_regrown p1
      have z2 := cell_regrown p2
      refine wp_region_mixP [([0, 2], [1]), ([], [3]), ([], [4]), ([5], [])] (by kernel_rfl) (by kernel_rfl) ?_
      rintro x0 ⟨d0, rfl⟩
      have m0 := redrawn15 w2 d0
      have s0 := m0.size
      refine wpPlan_cons ?_
      simp only [pickAll, pickAt, List.nil_append, List.cons_append, List.append_nil]
      repeat (go_big_quiet_step (fail))
      refine wpQuiet_nil ?_
      go_wp2_with fail
      refine (rowOf_any (HV2.out.later m0) (by omega)).mono ?_
      rintro e x1 ⟨rv, rfl, o1, b1⟩
      have m1 := m0.trans (b1.mono m0.size)
      have s1 := b1.size
      go_wp2
      refine mixNext15 m1 ?_
      refine wpPlan_cons ?_
      simp only [pickAll, pickAt, List.nil_append, List.cons_append, List.append_nil]
      repeat (go_big_quiet_step (fail))
      refine wpQuiet_nil ?_
      go_wp2_with fail
      refine (part_any x y z x1).mono ?_
      rintro e x2 ⟨rfl, b2⟩
      have m2 := m1.trans (b2.mono m1.size)
      have s2 := b2.size
      have o2 := o1.later b2
      go_wp2
      refine mixNext15 m2 ?_
      refine wpPlan_cons ?_
      simp only [pickAll, pickAt, List.nil_append, List.cons_append, List.append_nil]
      repeat (go_big_quiet_step (fail))
      refine wpQuiet_nil ?_
      go_wp2_with fail
      refine (rput_any x y z 20000 o2.row (by omega)).mono ?_
      rintro e x3 ⟨pv, rfl, o3, b3⟩
      have m3 := m2.trans (b3.mono m2.size)
      have s3 := b3.size
      go_wp2
      refine mixNext15 m3 ?_
      refine wpPlan_cons ?_
      simp only [pickAll, pickAt, List.nil_append, List.cons_append, List.append_nil]
      repeat (go_big_quiet_step (fail))
      refine wpQuiet_nil ?_
      refine mixNext15 m3 (wpPlan_nil ?_)
      rw [HPU.out] at o3
      have HO3 := Hid.mk7 o3.row
      have HB3 := Hid.mk7 (HB2.out.trans (m3.mono HB2.out.size))
      obtain ⟨pa, pc, rfl⟩ := o3.row.shape
      have hpl : (putS L (x, y, z)).length ≤ 400 := by
        have h1 := inS15_len 0 x L
        have h2 := inS15_len y 20000 L
        have h3 := fewS_len (inS15 0 x L ++ (x, y, z) :: inS15 y 20000 L)
        have h4 : prgS 20000 L (x, y, z) = fewS (inS15 0 x L ++ (x, y, z) :: inS15 y 20000 L) := rfl
        rw [← HPU.out, h4]
        simp at h3
        omega
      clear p0 p1 p2 z0 z1 z2 m0 m1 m2 m3 b1 b2 b3 o1 o2 o3 s0 s1 s2 s3 HB2 HP2 HV2
      by_cases hm : (putS L (x, y, z)).length ≤ 60
      · obtain ⟨e1, e2⟩ := putE_ok (l := L) (x := (x, y, z)) ⟨HI.out, HTT.out⟩ hm
        have E1 := Hid.mk7 e1
        have E2 := Hid.mk7 e2
        have HSO := Hid.mk7 (spansOf_any HO3.out (by omega))
        have d1 : decide ((60 : Int) < ((putS L (x, y, z)).length : Nat)) = false := decide_eq_false (by omega)
        have d1' : decide (60 < (putS L (x, y, z)).length) = false := decide_eq_false (by omega)
        clear e1 e2
        generalize (putS L (x, y, z)) = M at *
        go_wp2_with fail
        refine HSO.out.mono ?_
        rintro e w4 ⟨v4, rfl, o4, b4⟩
        have HO4 := Hid.mk7 o4.row
        have HH4 := Hid.mk7 (o4.hi.mono HB3.out.size)
        have HB4 := Hid.mk7 (HB3.out.trans (b4.mono HB3.out.size))
        clear o4 b4
        go_wp2
        go_ret2
        exact ⟨_, tup15 E1.out.symm, by rw [E2.out]; exact HO4.out, HH4.out, HB4.out⟩
      · obtain ⟨e1, e2⟩ := putE_many (l := L) (x := (x, y, z)) ⟨HI.out, HTT.out⟩ hm
        have E1 := Hid.mk7 e1
        have E2 := Hid.mk7 e2
        have d1 : decide ((60 : Int) < ((putS L (x, y, z)).length : Nat)) = true := decide_eq_true (by omega)
        have d1' : decide (60 < (putS L (x, y, z)).length) = true := decide_eq_true (by omega)
        clear e1 e2
        generalize (putS L (x, y, z)) = M at *
        go_wp2
        go_ret2
        exact ⟨_, tup15 E1.out.symm, nil_put E2.out, HiB.nil _, HB3.out⟩
end Go.Proofs.YtmgjfmgkmlfjeaaDoor
