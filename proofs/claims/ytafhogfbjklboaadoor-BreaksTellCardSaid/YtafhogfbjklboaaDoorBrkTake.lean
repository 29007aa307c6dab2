/- The law's take: one less. -/
import Derived.Test.YtafhogfbjklboaaDoorBrkRPut
import Derived.Test.YtafhogfbjklboaaDoorTurnsP
namespace Go.Proofs.YtafhogfbjklboaaDoor
open Go.RowKit Go.Sort
set_option linter.unusedSimpArgs false
set_option linter.unusedVariables false

theorem mixNext16 {P : Program} {l : List Oper} {Q : Exit → Act → World → Prop} {r : List (List Nat × List Nat)} {a : Act} {w w3 : World} (hb : RowKit.Below w.heap.size w w3) (h : wpPlan P l (fun w' => ∃ p : Regrown, w' = grow (redrawn w p.d) p.os) Q r a w3) :
    MixNext P l (fun w' => ∃ p : Regrown, w' = grow (redrawn w p.d) p.os) Q r .normal a w3 := mixNext_mk (regrown_of_below hb) h
theorem redrawn16 (w : World) (d : Nat) : RowKit.Below w.heap.size w (redrawn w d) := by have := below_regrown w d #[]; rwa [grow_empty] at this
theorem nat_none {w : World} {ad : Addr} {u c : Nat} {L : List Int} (hL : L.length = 0) (hu : u = 0) : NAt w (.slice (some ad) u c) L := by
  obtain rfl : L = [] := List.eq_nil_of_length_eq_zero hL
  subst hu
  exact ⟨some ad, c, rfl, Nat.zero_le _, (fun e => by cases e), fun i x hx => by simp at hx⟩
theorem tk_at {L : List Int} {y : Int} {k : Nat} (h : ∀ j x, j < k → L[j]? = some x → x ≠ y) (hk : L[k]? = some y) : tkE y L = 0 ∧ tkL y L = L.take k ++ L.drop (k + 1) := by
  have hm : y ∈ L := List.mem_of_getElem? hk
  refine ⟨if_pos hm, ?_⟩
  unfold tkL
  rw [if_pos hm, erase_at h hk]
theorem tk_no {L : List Int} {y : Int} (h : ∀ j x, j < L.length → L[j]? = some x → x ≠ y) : tkE y L = 10 ∧ tkL y L = [] := by
  have hm : ¬ y ∈ L := fun hm => by
    obtain ⟨j, hj⟩ := List.getElem?_of_mem hm
    exact h j y (List.getElem?_eq_some_iff.1 hj).1 hj rfl
  exact ⟨if_neg hm, if_neg hm⟩
set_option maxHeartbeats 8000000 in
set_option maxRecDepth 100000 in
theorem ltake_any {w : World} {v : Value} {L : List Int} (y : Int) (h : NAt w v L) (hl : L.length ≤ 1000) :
    Calls Tryd.prog 14 #[v, .int .i64 y] w fun e w' => ∃ v', e = .returned (.tuple #[v', .int .i64 (tkE y L)]) ∧ NAt w' v' (tkL y L) ∧ Below w.heap.size w w' := by
  have HV := Hid.mk7 h
  obtain ⟨a, cap, rfl⟩ := nat_shape h
  clear h
  go_enter Tryd.func14, Tryd.ntmps14
  go_wp2
  go_loopw [6] (fun iv wr => ∃ k : Nat, k ≤ L.length ∧ iv = .int .i64 (k : Nat) ∧ Hid (∀ j x, j < k → L[j]? = some x → x ≠ y) ∧ wr = w) (fun iv _ => L.length - (intOf iv).toNat)
  case atStart => exact ⟨0, Nat.zero_le _, rfl, fun j x hj => absurd hj (Nat.not_lt_zero _), rfl⟩
  case round =>
    obtain ⟨k, hk, rfl, HK, rfl⟩ := hrel
    by_cases hlt : k < L.length
    · obtain ⟨x, hr⟩ : ∃ r, L[k]? = some r := ⟨L[k], List.getElem?_eq_getElem hlt⟩
      obtain ⟨g, off, rfl, c0⟩ := nat_cell HV.out hr
      have hcc : L.length ≤ cap := by obtain ⟨_, _, e, hc, _⟩ := HV.out; cases e; omega
      by_cases h1 : x = y
      case neg =>
        have s1 : (x == y) = false := by simpa using h1
        have HN : Hid (∀ j z, j < k + 1 → L[j]? = some z → z ≠ y) := fun j z hj hz => by
          by_cases e : j = k
          · subst e; rw [hr] at hz; cases hz; exact h1
          · exact HK.out j z (by omega) hz
        clear hr HK h1
        go_wp2
        go_roundw
        case rel => exact ⟨k + 1, by omega, by go_num, HN, trivial⟩
        case measure => simp [intOf]; omega
      have s1 : (x == y) = true := by simpa using h1
      obtain ⟨e1, e2⟩ := tk_at HK.out (by rw [hr, h1])
      have E1 := Hid.mk7 e1
      have HU1 := Hid.mk7 (fun (W : World) (h : NAt W (.slice (some ⟨g, off, none⟩) L.length cap) L) => nat_take (c := cap) (u := k) h hk (by omega) rfl)
      have hal : (L.take k).length ≤ 1000 := by simp; omega
      have hdl : (L.drop (k + 1)).length ≤ 1000 := by simp; omega
      by_cases hz : cap = k + 1
      · have hLk : L.length = k + 1 := by omega
        have hd0 : (L.drop (k + 1)).length = 0 := by simp; omega
        have HU3 := Hid.mk7 (fun (W : World) (ad : Addr) (u c : Nat) (hu : u = 0) => nat_none (w := W) (ad := ad) (c := c) hd0 hu)
        subst hz
        generalize L.take k = A at *
        generalize L.drop (k + 1) = D at *
        have E2 := Hid.mk7 e2
        clear hr HK h1 e1 e2
        go_wp2_with fail
        refine wp_region_mixP [([0, 1, 2, 4, 5, 6, 7], [3]), ([], [8]), ([9, 10], [])] (by kernel_rfl) (by kernel_rfl) ?_
        rintro x0 ⟨d0, rfl⟩
        have m0 := redrawn16 wr d0
        have s0 := m0.size
        have HV0 := Hid.mk7 (HV.out.later m0)
        have HM0 := Hid.mk7 m0
        refine wpPlan_cons ?_
        simp only [pickAll, pickAt, List.nil_append, List.cons_append, List.append_nil]
        repeat (go_big_quiet_step (fail))
        refine wpQuiet_nil ?_
        clear m0
        generalize redrawn wr d0 = w1 at *
        go_wp2_with (at_builtin; refine wpList_append_row16 rfl _ _ rfl w1.heap.size _ _ [] A rfl (OwnZ.nil _ _) rfl (HU1.out _ HV0.out) (by simp) (by omega) (Nat.le_refl _) ?_)
        intro v2 w2 ho hgrow
        have HO2 : Hid (OwnZ w2 w1.heap.size v2 A) := ho
        have HR2 : Hid (Below w1.heap.size w1 w2) := (Below.refl _ w1).grown hgrow (Nat.le_refl _) (fun _ h => by cases h)
        have HV2 := Hid.mk7 (HV0.out.later HR2.out)
        have m2 := below_old' HM0.out HR2.out
        have s2 := HR2.out.size
        clear ho hgrow
        go_wp2
        refine mixNext16 m2 ?_
        refine wpPlan_cons ?_
        simp only [pickAll, pickAt, List.nil_append, List.cons_append, List.append_nil]
        repeat (go_big_quiet_step (fail))
        refine wpQuiet_nil ?_
        obtain ⟨ta, tc, hta, _⟩ := HO2.out.shape
        obtain ⟨m, hm⟩ : ∃ m, A.length = m := ⟨_, rfl⟩
        rw [hm] at hta
        subst hta
        clear hm m2
        go_wp2_with (at_builtin; refine wpList_append_row16 rfl _ _ rfl w1.heap.size _ _ A D rfl HO2.out rfl (HU3.out _ _ _ _ (by omega)) (by omega) (by omega) s2 ?_)
        intro v3 w3 ho hgrow
        have HO3 := Hid.mk7 ho.num
        have m3 := below_old' HM0.out (HR2.out.grown hgrow s2 (fun g hg => (World.ownsRow.lt HO2.out g hg).1))
        have HB3 := Hid.mk7 m3
        clear ho hgrow
        go_wp2
        refine mixNext16 m3 ?_
        refine wpPlan_cons ?_
        simp only [pickAll, pickAt, List.nil_append, List.cons_append, List.append_nil]
        repeat (go_big_quiet_step (fail))
        refine wpQuiet_nil ?_
        refine mixNext16 m3 (wpPlan_nil ?_)
        clear m3
        go_wp2
        go_ret2
        exact ⟨_, tup16 E1.out.symm, by rw [E2.out]; exact HO3.out, HB3.out⟩
      · have HU3 := Hid.mk7 (fun (W : World) (h : NAt W (.slice (some ⟨g, off, none⟩) L.length cap) L) => nat_drop (k := k + 1) (c := cap - (k + 1)) (u := L.length - (k + 1)) h hlt (Nat.sub_le_sub_right hcc _) rfl)
        generalize L.take k = A at *
        generalize L.drop (k + 1) = D at *
        have E2 := Hid.mk7 e2
        clear hr HK h1 e1 e2
        go_wp2_with fail
        refine wp_region_mixP [([0, 1, 2, 4, 5, 6, 7], [3]), ([], [8]), ([9, 10], [])] (by kernel_rfl) (by kernel_rfl) ?_
        rintro x0 ⟨d0, rfl⟩
        have m0 := redrawn16 wr d0
        have s0 := m0.size
        have HV0 := Hid.mk7 (HV.out.later m0)
        have HM0 := Hid.mk7 m0
        refine wpPlan_cons ?_
        simp only [pickAll, pickAt, List.nil_append, List.cons_append, List.append_nil]
        repeat (go_big_quiet_step (fail))
        refine wpQuiet_nil ?_
        clear m0
        generalize redrawn wr d0 = w1 at *
        go_wp2_with (at_builtin; refine wpList_append_row16 rfl _ _ rfl w1.heap.size _ _ [] A rfl (OwnZ.nil _ _) rfl (HU1.out _ HV0.out) (by simp) (by omega) (Nat.le_refl _) ?_)
        intro v2 w2 ho hgrow
        have HO2 : Hid (OwnZ w2 w1.heap.size v2 A) := ho
        have HR2 : Hid (Below w1.heap.size w1 w2) := (Below.refl _ w1).grown hgrow (Nat.le_refl _) (fun _ h => by cases h)
        have HV2 := Hid.mk7 (HV0.out.later HR2.out)
        have m2 := below_old' HM0.out HR2.out
        have s2 := HR2.out.size
        clear ho hgrow
        go_wp2
        refine mixNext16 m2 ?_
        refine wpPlan_cons ?_
        simp only [pickAll, pickAt, List.nil_append, List.cons_append, List.append_nil]
        repeat (go_big_quiet_step (fail))
        refine wpQuiet_nil ?_
        obtain ⟨ta, tc, hta, _⟩ := HO2.out.shape
        obtain ⟨m, hm⟩ : ∃ m, A.length = m := ⟨_, rfl⟩
        rw [hm] at hta
        subst hta
        clear hm m2
        go_wp2_with (at_builtin; refine wpList_append_row16 rfl _ _ rfl w1.heap.size _ _ A D rfl HO2.out rfl (HU3.out _ HV2.out) (by omega) (by omega) s2 ?_)
        intro v3 w3 ho hgrow
        have HO3 := Hid.mk7 ho.num
        have m3 := below_old' HM0.out (HR2.out.grown hgrow s2 (fun g hg => (World.ownsRow.lt HO2.out g hg).1))
        have HB3 := Hid.mk7 m3
        clear ho hgrow
        go_wp2
        refine mixNext16 m3 ?_
        refine wpPlan_cons ?_
        simp only [pickAll, pickAt, List.nil_append, List.cons_append, List.append_nil]
        repeat (go_big_quiet_step (fail))
        refine wpQuiet_nil ?_
        refine mixNext16 m3 (wpPlan_nil ?_)
        clear m3
        go_wp2
        go_ret2
        exact ⟨_, tup16 E1.out.symm, by rw [E2.out]; exact HO3.out, HB3.out⟩
    · obtain rfl : k = L.length := by omega
      obtain ⟨e1, e2⟩ := tk_no HK.out
      have E1 := Hid.mk7 e1
      have E2 := Hid.mk7 e2
      clear HK e1 e2
      go_wp2
      go_ret2
      exact ⟨_, tup16 E1.out.symm, nat_nil' E2.out, Below.refl _ _⟩
end Go.Proofs.YtafhogfbjklboaaDoor
