/- breaks.Put, Take. -/
import Derived.Test.YtafhogfbjklboaaDoorBrkIs
import Derived.Test.YtafhogfbjklboaaDoorBrkShelf
namespace Go.Proofs.YtafhogfbjklboaaDoor
open Go.RowKit Go.Sort
set_option linter.unusedSimpArgs false
set_option linter.unusedVariables false

theorem isK_one (y : Int) : isK 20000 [y] = decide (1 ≤ y ∧ y < 20000) := by
  rw [Bool.eq_iff_iff, isK_spec, decide_eq_true_eq]
  simp [Ris]
  omega
theorem own_out {w w' : World} {B : Nat} {v : Value} {L : List Int} (h : OwnZ w B v L) {g : Nat} (hg : w.heap.size ≤ g) : v.ownBlock ≠ some g := fun e => by
  have := (World.ownsRow.lt h g e).2
  omega
theorem below_old {a b c : World} (h : Below a.heap.size a b) (k : Below b.heap.size b c) : Below a.heap.size a c := h.trans (k.mono h.size)
set_option maxHeartbeats 4000000 in
set_option maxRecDepth 100000 in
theorem put_any16 {w : World} {v : Value} {L : List Int} (y : Int) (h : NAt w v L) (hl : L.length ≤ 1073741824) :
    Calls Tryd.prog 11 #[v, .int .i64 y] w fun e w' => ∃ v', e = .returned (.tuple #[v', .int .i64 (pbE y L)]) ∧ NAt w' v' (pbL y L) ∧ Below w.heap.size w w' := by
  have HI := Hid.mk7 (is_any16 20000 h hl)
  have HV := Hid.mk7 h
  obtain ⟨a, cap, rfl⟩ := nat_shape h
  clear h
  cases hi : isK 20000 L with
  | false =>
    rw [hi] at HI
    obtain ⟨e1, e2⟩ := pb_bad (y := y) (l := L) (by simp [hi])
    have E1 := Hid.mk7 e1
    have E2 := Hid.mk7 e2
    clear e1 e2 hi
    go_enter Tryd.func11, Tryd.ntmps11
    go_wp2_with fail
    refine HI.out.mono ?_
    rintro e w1 ⟨rfl, rfl⟩
    go_wp2
    go_ret2
    exact ⟨_, tup16 E1.out.symm, nat_nil' E2.out, Below.refl _ _⟩
  | true =>
    rw [hi] at HI
    have HY := Hid.mk7 (fun (W : World) (u : Value) (hu : NAt W u [y]) => is_any16 20000 hu (by simp))
    rw [isK_one] at HY
    by_cases hy : 1 ≤ y ∧ y < 20000
    case neg =>
      rw [decide_eq_false hy] at HY
      obtain ⟨e1, e2⟩ := pb_bad (y := y) (l := L) (fun hc => hy hc.2)
      have E1 := Hid.mk7 e1
      have E2 := Hid.mk7 e2
      clear e1 e2 hi hy
      go_enter Tryd.func11, Tryd.ntmps11
      go_wp2_with fail
      refine HI.out.mono ?_
      rintro e w1 ⟨rfl, rfl⟩
      go_wp2_with fail
      refine (HY.out _ _ (nat_one rfl y _)).mono ?_
      rintro e w2 ⟨rfl, rfl⟩
      go_wp2
      go_ret2
      exact ⟨_, tup16 E1.out.symm, nat_nil' E2.out, below16 (Below.refl _ _) _⟩
    rw [decide_eq_true hy] at HY
    have hok : isK 20000 L = true ∧ 1 ≤ y ∧ y < 20000 := ⟨hi, hy⟩
    have h60 := (isK_spec.1 hi).1
    have HR := Hid.mk7 (isK_spec.1 hi).2
    by_cases hm : y ∈ L
    · obtain ⟨e1, e2⟩ := pb_there hok hm
      have E1 := Hid.mk7 e1
      have E2 := Hid.mk7 e2
      have HD : Hid (decide (y ∈ L) = true) := decide_eq_true hm
      clear e1 e2 hi hy hok hm
      go_enter Tryd.func11, Tryd.ntmps11
      go_wp2_with fail
      refine HI.out.mono ?_
      rintro e w1 ⟨rfl, rfl⟩
      have HV2 := Hid.mk7 (nat_alloc HV.out (.cells #[.int .i64 y] 3))
      go_wp2_with fail
      refine (HY.out _ _ (nat_one rfl y _)).mono ?_
      rintro e w2 ⟨rfl, rfl⟩
      go_wp2_with fail
      refine (bsearch16 y HV2.out HR.out hl).mono ?_
      rintro e w3 ⟨rfl, b3⟩
      rw [HD.out]
      have HV3 := Hid.mk7 (HV2.out.later b3)
      have HB3 := Hid.mk7 (below_old (below16 (Below.refl _ _) _) b3)
      clear b3 HV HV2
      go_wp2_with fail
      refine (clone16 HV3.out hl).mono ?_
      rintro e w4 ⟨v4, rfl, ho, b4⟩
      have HO4 := Hid.mk7 ho.num
      have HB4 := Hid.mk7 (below_old HB3.out b4)
      clear ho b4
      go_wp2
      go_ret2
      exact ⟨_, tup16 E1.out.symm, by rw [E2.out]; exact HO4.out, HB4.out⟩
    have HD : Hid (decide (y ∈ L) = false) := decide_eq_false hm
    by_cases hf : L.length = 60
    · obtain ⟨e1, e2⟩ := pb_full hok hm hf
      have E1 := Hid.mk7 e1
      have E2 := Hid.mk7 e2
      have df : ((L.length : Int) == 60) = true := by simpa using (by omega : (L.length : Int) = 60)
      clear e1 e2 hi hy hok hm hf
      go_enter Tryd.func11, Tryd.ntmps11
      go_wp2_with fail
      refine HI.out.mono ?_
      rintro e w1 ⟨rfl, rfl⟩
      have HV2 := Hid.mk7 (nat_alloc HV.out (.cells #[.int .i64 y] 3))
      go_wp2_with fail
      refine (HY.out _ _ (nat_one rfl y _)).mono ?_
      rintro e w2 ⟨rfl, rfl⟩
      go_wp2_with fail
      refine (bsearch16 y HV2.out HR.out hl).mono ?_
      rintro e w3 ⟨rfl, b3⟩
      rw [HD.out]
      have HB3 := Hid.mk7 (below_old (below16 (Below.refl _ _) _) b3)
      clear b3 HV HV2
      go_wp2
      go_ret2
      exact ⟨_, tup16 E1.out.symm, nat_nil' E2.out, HB3.out⟩
    obtain ⟨e1, e2⟩ := pb_new hok hm hf
    rw [insK_eq HR.out] at e2
    have hcl := cntL_le y L
    have E1 := Hid.mk7 e1
    have E2 := Hid.mk7 e2
    have df : ((L.length : Int) == 60) = false := by simpa using (by omega : ¬ (L.length : Int) = 60)
    clear e1 e2 hi hy hok hm hf
    go_enter Tryd.func11, Tryd.ntmps11
    go_wp2_with fail
    refine HI.out.mono ?_
    rintro e w1 ⟨rfl, rfl⟩
    have HV2 := Hid.mk7 (nat_alloc HV.out (.cells #[.int .i64 y] 3))
    go_wp2_with fail
    refine (HY.out _ _ (nat_one rfl y _)).mono ?_
    rintro e w2 ⟨rfl, rfl⟩
    go_wp2_with fail
    refine (bsearch16 y HV2.out HR.out hl).mono ?_
    rintro e w3 ⟨rfl, b3⟩
    rw [HD.out]
    have HV3 := Hid.mk7 (HV2.out.later b3)
    have HB3 := Hid.mk7 (below_old (below16 (Below.refl _ _) _) b3)
    clear b3 HV HV2
    generalize cntL y L = k at *
    go_wp2_with fail
    refine (clone16 HV3.out hl).mono ?_
    rintro e w4 ⟨v4, rfl, ho, b4⟩
    have HO4 := Hid.mk7 ho
    have HB4 := Hid.mk7 (below_old HB3.out b4)
    have hs4 := b4.size
    have hs3 := HB3.out.size
    clear ho b4
    go_wp2_with fail
    refine (insert16 (y := y) (k := k) (HO4.out.alloc (.cells #[.int .i64 y] 3)) hcl hl ?_ (heap_alloc_new w4 _) (own_out (w' := w4) HO4.out (Nat.le_refl _))).mono ?_
    · simp; omega
    rintro e w5 ⟨v5, rfl, hn, b5⟩
    have HN5 := Hid.mk7 hn
    have HB5 := Hid.mk7 ((below16 HB4.out _).trans (b5.mono hs3))
    clear hn b5
    go_wp2
    go_ret2
    exact ⟨_, tup16 E1.out.symm, by rw [E2.out]; exact HN5.out, HB5.out⟩

set_option maxHeartbeats 4000000 in
set_option maxRecDepth 100000 in
theorem take_any16 {w : World} {v : Value} {L : List Int} (y : Int) (h : NAt w v L) (hl : L.length ≤ 1073741824) :
    Calls Tryd.prog 13 #[v, .int .i64 y] w fun e w' => ∃ v', e = .returned (.tuple #[v', .int .i64 (tkE y L)]) ∧ NAt w' v' (tkL y L) ∧ Below w.heap.size w w' := by
  have HI := Hid.mk7 (index16 y h hl)
  have HV := Hid.mk7 h
  obtain ⟨a, cap, rfl⟩ := nat_shape h
  clear h
  by_cases hm : y ∈ L
  · obtain ⟨k, hk, hkl, _, hke⟩ := idx_there hm
    rw [hk] at HI
    have E1 : Hid (tkE y L = 0) := if_pos hm
    have E2 : Hid (tkL y L = L.take k ++ L.drop (k + 1)) := by show _ = _; unfold tkL; rw [if_pos hm, hke]
    clear hm hk hke
    go_enter Tryd.func13, Tryd.ntmps13
    go_wp2_with fail
    refine HI.out.mono ?_
    rintro e w1 ⟨rfl, rfl⟩
    go_wp2_with fail
    refine (clone16 HV.out hl).mono ?_
    rintro e w4 ⟨v4, rfl, ho, b4⟩
    have HO4 := Hid.mk7 ho
    have HB4 := Hid.mk7 b4
    have hs4 := HB4.out.size
    clear ho b4
    go_wp2_with fail
    refine (delete16 HO4.out hkl hl).mono ?_
    rintro e w5 ⟨v5, rfl, hn, b5⟩
    have HN5 := Hid.mk7 hn
    have HB5 := Hid.mk7 (HB4.out.trans b5)
    clear hn b5
    go_wp2
    go_ret2
    exact ⟨_, tup16 E1.out.symm, by rw [E2.out]; exact HN5.out, HB5.out⟩
  · rw [idx_none hm] at HI
    have E1 : Hid (tkE y L = 10) := if_neg hm
    have E2 : Hid (tkL y L = []) := if_neg hm
    clear hm
    go_enter Tryd.func13, Tryd.ntmps13
    go_wp2_with fail
    refine HI.out.mono ?_
    rintro e w1 ⟨rfl, rfl⟩
    go_wp2
    go_ret2
    exact ⟨_, tup16 E1.out.symm, nat_nil' E2.out, Below.refl _ _⟩
end Go.Proofs.YtafhogfbjklboaaDoor
