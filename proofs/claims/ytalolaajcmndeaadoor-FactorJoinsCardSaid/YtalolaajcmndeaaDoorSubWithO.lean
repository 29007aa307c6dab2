/- Of, New. -/
import Derived.Test.YtalolaajcmndeaaDoorSubMake
namespace Go.Proofs.YtalolaajcmndeaaDoor
open Go.RowKit Go.Sort
set_option linter.unusedSimpArgs false
set_option linter.unusedVariables false

theorem sub_new {w : World} {B : Nat} {v : Value} {L : List Int} (h : SgAt w v (rle L)) : Sub (w.alloc (.cells #[v] 81)) (.pointer (some ⟨w.heap.size, 0, none⟩)) L :=
  ⟨w.heap.size, v, rfl, by rw [World.cell?_alloc_new]; rfl, h.later ((Below.refl _ _).alloc (Nat.le_refl _) _)⟩

set_option maxHeartbeats 800000 in
theorem of_form {w : World} {v : Value} {rs : List Sg} (h : SgAt w v rs) (hl : rs.length ≤ 17592186044416) (hf : ¬ Fm rs) :
    Calls Tryd.prog 19 #[v] w fun e w' => e = .returned (.tuple #[.pointer none, .int .i64 12]) ∧ Below w.heap.size w w' := by
  have HF := Hid.mk7 (formed_any h hl false (iff_of_false (by simp) hf))
  clear h
  go_enter Tryd.func19, Tryd.ntmps19
  go_wp2_with fail
  refine HF.out.mono ?_
  rintro e w1 ⟨rfl, b1⟩
  go_wp2
  go_ret2
  exact ⟨rfl, b1⟩
set_option maxHeartbeats 800000 in
theorem of_many {w : World} {v : Value} {rs : List Sg} (h : SgAt w v rs) (hl : rs.length ≤ 17592186044416) (hf : Fm rs) (hm : 200 < rs.length ∨ 20000 < (xp rs).length) :
    Calls Tryd.prog 19 #[v] w fun e w' => e = .returned (.tuple #[.pointer none, .int .i64 70]) ∧ Below w.heap.size w w' := by
  have HF := Hid.mk7 (formed_any h hl true (iff_of_true rfl hf))
  have HT : Hid (∀ W, Below w.heap.size w W → Calls Tryd.prog 45 #[v] W fun e w' => e = .returned (.bool (decide (20000 < (xp rs).length))) ∧ Below W.heap.size W w') := fun W b => tooLong_any (h.later b) hl (cn_mem hf.1)
  obtain ⟨a, cap, rfl, _⟩ := h
  by_cases h2 : 200 < rs.length
  · have d : decide ((200 : Int) < (rs.length : Int)) = true := decide_eq_true (by omega)
    clear hm
    go_enter Tryd.func19, Tryd.ntmps19
    go_wp2_with fail
    refine HF.out.mono ?_
    rintro e w1 ⟨rfl, b1⟩
    go_wp2
    go_ret2
    exact ⟨rfl, b1⟩
  · have d : decide ((200 : Int) < (rs.length : Int)) = false := decide_eq_false (by omega)
    have d2 : decide (200 < rs.length) = false := decide_eq_false (by omega)
    have hx : decide (20000 < (xp rs).length) = true := decide_eq_true (by omega)
    rw [hx] at HT
    clear hm hx
    go_enter Tryd.func19, Tryd.ntmps19
    go_wp2_with fail
    refine HF.out.mono ?_
    rintro e w1 ⟨rfl, b1⟩
    go_wp2_with fail
    refine (HT.out _ b1).mono ?_
    rintro e w2 ⟨rfl, b2⟩
    go_wp2
    go_ret2
    exact ⟨rfl, b1.trans (b2.mono b1.size)⟩
set_option maxHeartbeats 800000 in
theorem of_ok {w : World} {v : Value} {rs : List Sg} (h : SgAt w v rs) (hf : Fm rs) (h1 : rs.length ≤ 200) (h2 : (xp rs).length ≤ 20000) :
    Calls Tryd.prog 19 #[v] w fun e w' => ∃ p, e = .returned (.tuple #[p, .int .i64 0]) ∧ Sub w' p (xp rs) ∧ Below w.heap.size w w' := by
  have HF := Hid.mk7 (formed_any h (by omega) true (iff_of_true rfl hf))
  have HT : Hid (∀ W, Below w.heap.size w W → Calls Tryd.prog 45 #[v] W fun e w' => e = .returned (.bool (decide (20000 < (xp rs).length))) ∧ Below W.heap.size W w') := fun W b => tooLong_any (h.later b) (by omega) (cn_mem hf.1)
  have HC : Hid (∀ W, Below w.heap.size w W → Calls Tryd.prog 46 #[v] W fun e w' => ∃ v', e = .returned v' ∧ Own w' W.heap.size v' rs ∧ Below W.heap.size W w') := fun W b => clone_any7 (h.later b) (by omega)
  have HX : Hid (rle (xp rs) = rs) := rle_xp hf.1
  obtain ⟨a, cap, rfl, _⟩ := h
  have d : decide ((200 : Int) < (rs.length : Int)) = false := decide_eq_false (by omega)
  have d2 : decide (200 < rs.length) = false := decide_eq_false (by omega)
  have hx : decide (20000 < (xp rs).length) = false := decide_eq_false (by omega)
  rw [hx] at HT
  clear hx
  go_enter Tryd.func19, Tryd.ntmps19
  go_wp2_with fail
  refine HF.out.mono ?_
  rintro e w1 ⟨rfl, b1⟩
  go_wp2_with fail
  refine (HT.out _ b1).mono ?_
  rintro e w2 ⟨rfl, b2⟩
  have b12 := b1.trans (b2.mono b1.size)
  clear HT b1 b2
  go_wp2_with fail
  refine (HC.out _ b12).mono ?_
  rintro e w3 ⟨v3, rfl, o3, b3⟩
  have HR := Hid.mk7 o3.row
  obtain ⟨a3, cap3, rfl, _⟩ := id HR.out
  have b13 := b12.trans (b3.mono b12.size)
  clear o3 b3 b12
  go_wp2
  go_ret2
  exact ⟨_, rfl, sub_new (B := 0) (by rw [HX.out]; exact HR.out), below_new7 b13 _⟩

theorem rle_zeros (n : Nat) : rle ([] ++ List.replicate n (0 : Int)) = rle (List.replicate n 0) := by rw [List.nil_append]
theorem grown_below7 {a b : World} {row : Option Nat} (h : a.grownBy b row) (hn : row = none) : Below a.heap.size a b := ⟨h.os, h.tape, h.output, h.size, fun k hk => h.block k hk (by rw [hn]; simp)⟩
set_option maxHeartbeats 800000 in
theorem new_any (n : Int) (w : World) (N : Nat) (hN : n = N) (h : N ≤ 20000) :
    Calls Tryd.prog 33 #[.int .i64 n] w fun e w' => ∃ p, e = .returned p ∧ Sub w' p (List.replicate N 0) ∧ Below w.heap.size w w' := by
  have HA : Hid (Calls Tryd.prog 59 #[.slice none 0 0, .agg #[.int .i64 (N : Nat), .int .i64 0]] w fun e w' => ∃ v', e = .returned v' ∧ SgAt w' v' (rle (List.replicate N 0)) ∧ Below w.heap.size w w') := by
    refine (add_any w.heap.size (.slice none 0 0) [] N 0 w (Nat.le_refl _) (by simp) (by omega) (by omega) (Own.nil _ _)).mono ?_
    rintro e w' ⟨v', rfl, ho, hg⟩
    rw [Int.toNat_natCast, List.nil_append] at ho
    exact ⟨v', rfl, ho.row, grown_below7 hg rfl⟩
  subst hN
  go_enter Tryd.func33, Tryd.ntmps33
  go_wp2_with fail
  refine HA.out.mono ?_
  rintro e w1 ⟨v1, rfl, r1, b1⟩
  have HR := Hid.mk7 r1
  obtain ⟨a3, cap3, rfl, _⟩ := id r1
  clear r1 HA
  go_wp2
  go_ret
  exact ⟨_, rfl, sub_new (B := 0) HR.out, below_new7 b1 _⟩
end Go.Proofs.YtalolaajcmndeaaDoor
