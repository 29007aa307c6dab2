/- put. -/
import Derived.Test.YtmgjfmgkmlfjeaaDoorSpFew
import Derived.Test.YtmgjfmgkmlfjeaaDoorTurnsP
import Derived.Maps.AppendAt
import Derived.Laws.AppendOwnNone
namespace Go.Proofs.YtmgjfmgkmlfjeaaDoor
open Go.RowKit Go.Sort
set_option linter.unusedSimpArgs false
set_option linter.unusedVariables false

theorem mixNext15 {P : Program} {l : List Oper} {Q : Exit → Act → World → Prop} {r : List (List Nat × List Nat)} {a : Act} {w w3 : World} (hb : RowKit.Below w.heap.size w w3) (h : wpPlan P l (fun w' => ∃ p : Regrown, w' = grow (redrawn w p.d) p.os) Q r a w3) :
    MixNext P l (fun w' => ∃ p : Regrown, w' = grow (redrawn w p.d) p.os) Q r .normal a w3 := mixNext_mk (regrown_of_below hb) h
theorem redrawn15 (w : World) (d : Nat) : RowKit.Below w.heap.size w (redrawn w d) := by have := below_regrown w d #[]; rwa [grow_empty] at this
theorem OwnP.kept {ty : TypeId} {w w' : World} {B : Nat} {v : Value} {es : List Sp} {row : Option Nat} (h : OwnP ty w B v es) (hg : w.grownBy w' row) (hne : ∀ j, v.ownBlock = some j → some j ≠ row) : OwnP ty w' B v es := by
  refine ⟨h.1, h.2.imp id ?_⟩
  rintro ⟨g', cap, cur, h1, h2, h3, h4⟩
  exact ⟨g', cap, cur, h1, h2, (hg.block g' (Array.getElem?_eq_some_iff.1 h3).1 (hne g' (by rw [h1]; rfl))).trans h3, h4⟩
theorem OwnP.news {ty : TypeId} {w : World} {B : Nat} {v : Value} {es : List Sp} (h : OwnP ty w B v es) {ad : Addr} {n c : Nat} (hv : v = .slice (some ad) n c) : ∀ j u, (t3 es)[j]? = some u → w.cell? (ad.add j) = some u := by
  rcases h.2 with ⟨h1, _⟩ | ⟨g, cap, cur, h1, _, _⟩
  · rw [h1] at hv; cases hv
  · have hg := World.ownsRow.cells h (g := g) (by rw [h1]; rfl)
    rw [h1] at hv
    cases hv
    exact hg
set_option maxHeartbeats 4000000 in
set_option maxRecDepth 100000 in
theorem rput_any {w : World} {v : Value} {L : List Sp} (x y z m : Int) (h : SpAt w v L) (hl : L.length ≤ 400) :
    Calls Tryd.prog 21 #[v, .agg #[.int .i64 x, .int .i64 y, .int .i64 z], .int .i64 m] w fun e w' => ∃ v', e = .returned v' ∧ OwnP 57 w' w.heap.size v' (prgS m L (x, y, z)) ∧ Below w.heap.size w w' := by
  obtain ⟨i0, hi, hz0, hz1, hz2⟩ := info_parts Tryd.info_pt
  obtain ⟨a, cap, rfl⟩ := h.shape
  have HI := Hid.mk7 hi
  clear hi
  have hl1 := inS15_len 0 x L
  have hl2 := inS15_len y m L
  have hb0 := below15 (Below.refl w.heap.size w) (.cells #[.int .i64 x, .int .i64 y, .int .i64 z] 57)
  have HP0 := Hid.mk7 (Rt.new 57 w (.int .i64 x) (.int .i64 y) (.int .i64 z))
  have HV0 := Hid.mk7 (h.later hb0)
  have HB0 := Hid.mk7 hb0
  have HW1 := Hid.mk7 (within15_any 0 x HV0.out (by omega))
  have HS : Hid (w.heap.size < (w.alloc (.cells #[.int .i64 x, .int .i64 y, .int .i64 z] 57)).heap.size) := HP0.out.lt
  clear h hb0
  go_enter Tryd.func21, Tryd.ntmps21
  go_wp2_with fail
  refine HW1.out.mono ?_
  rintro e w1 ⟨v1, rfl, o1, b1⟩
  have HO1 := Hid.mk7 (o1.base (B' := w.heap.size + 1) HS.out)
  have HV1 := Hid.mk7 (HV0.out.later b1)
  have HP1 := Hid.mk7 (HP0.out.later b1)
  have HB1 := Hid.mk7 (HB0.out.trans (b1.mono HB0.out.size))
  clear o1 b1 HW1 HV0 HP0 HB0
  have HW2 := Hid.mk7 (within15_any y m HV1.out (by omega))
  have p0 := HP1.out.c0
  have p1 := HP1.out.c1
  have p2 := HP1.out.c2
  go_wp2_with fail
  refine HW2.out.mono ?_
  rintro e w2 ⟨v2, rfl, o2, b2⟩
  have HO2 := Hid.mk7 o2
  have HL1 : Hid (∀ j, v1.ownBlock = some j → j < w1.heap.size) := fun j hj => (World.ownsRow.lt HO1.out j hj).2
  have HO1' := Hid.mk7 (HO1.out.later b2)
  have HP2 := Hid.mk7 (HP1.out.later b2)
  have HB2 := Hid.mk7 (HB1.out.trans (b2.mono HB1.out.size))
  have hs12 := b2.size
  clear o2 b2 HW2 HO1 HP1 HB1 HV1 p0 p1 p2
  have p0 := HP2.out.c0
  have p1 := HP2.out.c1
  have p2 := HP2.out.c2
  have hlt2 := HP2.out.lt
  have hs2 := HB2.out.size
  have HAP : Hid (∀ j, v2.ownBlock = some j → some j ≠ v1.ownBlock) := fun j hj e => by
    have h1 := (World.ownsRow.lt HO2.out j hj).1
    have h2 := HL1.out j e.symm
    omega
  go_wp2_with (at_builtin; refine wpList_append_own_at _ rfl _ _ 53 rfl (w.heap.size + 1) 57 i0 (.agg #[.int .i64 0, .int .i64 0, .int .i64 0]) 3 24 Tryd.underlying53 HI.out hz0 hz1 hz2 rfl (by decide) _ _ _ rfl (World.ownsRow.alloc HO1'.out _) ⟨_, 0, none⟩ 1 1 [.int .i64 x, .int .i64 y, .int .i64 z] rfl rfl (three15 rfl _ _ _ _) (fun u hu => by simp at hu; rcases hu with rfl | rfl | rfl <;> rfl) (by unfold maxLen; omega) (by omega) (by simp; omega) ?_)
  intro v3 w3 hown' hgrow _ _
  have HO3 : Hid (OwnP 57 w3 (w.heap.size + 1) v3 (inS15 0 x L ++ [(x, y, z)])) := by
    show OwnP _ _ _ _ _
    unfold OwnP
    rw [List.length_append, t3_append, t3_one]
    exact hown'
  have HB3 : Hid (Below w.heap.size w w3) := (below15 HB2.out _).grown hgrow (by simp; omega) (fun j hj => by have := (World.ownsRow.lt (HO1'.out) j hj).1; omega)
  have HO4 : Hid (OwnP 57 w3 w1.heap.size v2 (inS15 y m L)) := (HO2.out.alloc _).kept hgrow HAP.out
  have hsz3 := HB3.out.size
  have hlt3 : w.heap.size < w3.heap.size := by have := hgrow.size; simp at this; omega
  have HE : Hid (prgS m L (x, y, z) = fewS (inS15 0 x L ++ [(x, y, z)] ++ inS15 y m L)) := by show _ = _; unfold prgS; rw [List.append_assoc]; rfl
  have hln : (inS15 0 x L ++ [(x, y, z)] ++ inS15 y m L).length ≤ 1000 := by simp; omega
  have hl3 : (inS15 0 x L ++ [(x, y, z)]).length ≤ 401 := by simp; omega
  clear HO1' HO2 HL1 HAP HB2 HP2 p0 p1 p2 hown' hgrow
  rcases HO4.out.2 with ⟨h1, h2⟩ | ⟨g, cp, cur, h1, h2, h3⟩
  · have hnil : inS15 y m L = [] := List.eq_nil_of_length_eq_zero h2
    rw [hnil, List.append_nil] at HE hln
    subst h1
    clear h2 hnil HO4
    have HSL := Hid.mk7 (rleast_any HO3.out.row hln)
    go_wp2_with (at_builtin; refine wpList_append_own_none rfl _ _ 53 rfl (w.heap.size + 1) 57 i0 3 Tryd.underlying53 HI.out _ _ _ rfl HO3.out rfl ?_)
    go_wp2_with fail
    refine HSL.out.mono ?_
    rintro e w4 ⟨v4, rfl, o4, b4⟩
    have HO5 := Hid.mk7 (o4.base hsz3)
    have HB5 := Hid.mk7 (HB3.out.trans (b4.mono hsz3))
    clear o4 b4
    go_wp2
    go_ret
    exact ⟨_, rfl, by rw [HE.out]; exact HO5.out, HB5.out⟩
  · have HNW := Hid.mk7 (HO4.out.news h1)
    generalize hnb : inS15 y m L = Bh at *
    clear hnb
    subst h1
    go_wp2_with (at_builtin; refine wpList_append_own_at _ rfl _ _ 53 rfl (w.heap.size + 1) 57 i0 (.agg #[.int .i64 0, .int .i64 0, .int .i64 0]) 3 24 Tryd.underlying53 HI.out hz0 hz1 hz2 rfl (by decide) _ _ _ rfl HO3.out ⟨g, 0, none⟩ Bh.length cp (t3 Bh) rfl (t3_length _) HNW.out t3_oneCell (by unfold maxLen; omega) (by omega) (by omega) ?_)
    intro v5 w5 hown' hgrow _ _
    have HO5 : Hid (OwnP 57 w5 (w.heap.size + 1) v5 (inS15 0 x L ++ [(x, y, z)] ++ Bh)) := by
      show OwnP _ _ _ _ _
      unfold OwnP
      rw [@List.length_append _ (inS15 0 x L ++ [(x, y, z)]) Bh, t3_append (inS15 0 x L ++ [(x, y, z)]), show (inS15 0 x L ++ [(x, y, z)]).length = (inS15 0 x L).length + 1 by simp]
      exact hown'
    have HB5 : Hid (Below w.heap.size w w5) := HB3.out.grown hgrow hsz3 (fun j hj => by have := (World.ownsRow.lt (HO3.out) j hj).1; omega)
    have hsz5 := HB5.out.size
    have HSL := Hid.mk7 (rleast_any HO5.out.row hln)
    clear HO3 HB3 HO4 HNW hown' hgrow
    go_wp2_with fail
    refine HSL.out.mono ?_
    rintro e w6 ⟨v6, rfl, o6, b6⟩
    have HO6 := Hid.mk7 (o6.base hsz5)
    have HB6 := Hid.mk7 (HB5.out.trans (b6.mono hsz5))
    clear o6 b6
    go_wp2
    go_ret
    exact ⟨_, rfl, by rw [HE.out]; exact HO6.out, HB6.out⟩
end Go.Proofs.YtmgjfmgkmlfjeaaDoor
