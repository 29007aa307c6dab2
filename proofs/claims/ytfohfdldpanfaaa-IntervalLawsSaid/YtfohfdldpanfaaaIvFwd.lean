/- onlyForward. -/
import Derived.Test.YtfohfdldpanfaaaIvFn
import Derived.Test.YtfohfdldpanfaaaIvMath
namespace Go.Proofs.Ytfohfdldpanfaaa
open Go.RowKit Go.Sort
set_option linter.unusedSimpArgs false
set_option linter.unusedVariables false

theorem below_newV {B : Nat} {a w : World} (h : Below B a w) (hB : B ≤ w.heap.size) (o : Obj) : Below B a (w.alloc o) := h.alloc hB o
theorem OwnV.alloc {w : World} {B : Nat} {v : Value} {rs : List Sg} (h : OwnV w B v rs) (o : Obj) : OwnV (w.alloc o) B v rs := World.ownsRow.alloc h o
theorem take_snoc {L : List Sg} {k : Nat} {r : Sg} (h : L[k]? = some r) : L.take (k + 1) = L.take k ++ [r] := by rw [List.take_add_one, h]; rfl
set_option maxHeartbeats 2000000 in
set_option maxRecDepth 100000 in
theorem fwd_any {w : World} {v : Value} {L : List Sg} (h : SgAt w v L) (hl : L.length ≤ 1099511627776) :
    Calls Try.prog 16 #[v] w fun e w' => ∃ v', e = .returned v' ∧ OwnV w' w.heap.size v' (fwd L) ∧ Below w.heap.size w w' := by
  obtain ⟨i0, hi, hz0, hz1, hz2⟩ := info_parts Try.info_iv
  obtain ⟨a, cap, rfl, hcap, _, hcells⟩ := h
  have HC := Hid.mk7 hcells
  have HI := Hid.mk7 hi
  clear hcells hi
  go_enter Try.func16, Try.ntmps16
  go_wp2
  go_loopw [3, 8] (fun av iv wr => ∃ k : Nat, k ≤ L.length ∧ iv = .int .i64 (k : Nat) ∧ Hid (OwnV wr w.heap.size av (fwd (L.take k))) ∧ Below w.heap.size w wr) (fun _ iv _ => L.length - (intOf iv).toNat)
  case atStart => exact ⟨0, Nat.zero_le _, rfl, OwnV.nil _ _, Below.refl _ _⟩
  case round =>
    obtain ⟨k, hk, rfl, HO, hb⟩ := hrel
    have hfl : (fwd (L.take k)).length ≤ 1099511627776 := Nat.le_trans (List.length_filter_le _ _) (by simp; omega)
    by_cases hlt : k < L.length
    · obtain ⟨⟨x, y⟩, hr⟩ : ∃ r, L[k]? = some r := ⟨L[k], List.getElem?_eq_getElem hlt⟩
      obtain ⟨g, off, rfl, q0, q1⟩ := HC.out k _ hr
      have c0 := cell_later7 hb (Nat.le_refl _) q0
      have c1 := cell_later7 hb (Nat.le_refl _) q1
      simp only at c0 c1
      have HT := Hid.mk7 (take_snoc hr)
      have hsz := hb.size
      clear q0 q1 hr
      by_cases hxy : x ≤ y
      · have HF : Hid (fwd (L.take (k + 1)) = fwd (L.take k) ++ [(x, y)]) := by show _ = _; rw [HT.out]; simp [fwd, hxy]
        obtain ⟨a', cap', rfl, _, _⟩ := own_shapeV HO.out
        have HO1 : Hid (OwnV (wr.alloc (.cells #[.int .i64 x, .int .i64 y] 23)) w.heap.size (.slice a' (fwd (L.take k)).length cap') (fwd (L.take k))) := HO.out.alloc _
        have HB1 : Hid (Below w.heap.size w (wr.alloc (.cells #[.int .i64 x, .int .i64 y] 23))) := below_newV hb hsz _
        clear HO
        have hi := HI.out
        go_wp2_with (at_builtin; refine wpList_append_own _ rfl _ _ 30 rfl w.heap.size 23 i0 (.agg #[.int .i64 0, .int .i64 0]) 2 16 Try.underlying30 hi hz0 hz1 hz2 rfl (by decide) _ _ _ rfl (World.ownsRow.alloc HO1.out _) ⟨_, 0, none⟩ 1 1 [.int .i64 x, .int .i64 y] rfl rfl (two_newV' (by simp) _ _ _) (fun u hu => by simp at hu; rcases hu with rfl | rfl <;> rfl) (by unfold maxLen; omega) (by omega) (by simp; omega) ?_)
        intro v' w3 hown' hgrow _
        have HO3 : Hid (OwnV w3 w.heap.size v' (fwd (L.take (k + 1)))) := by
          show OwnV _ _ _ _
          rw [HF.out]
          unfold OwnV
          rw [List.length_append, cs_append, cs_one]
          exact hown'
        have HB3 : Hid (Below w.heap.size w w3) := (below_newV HB1.out (by simp; omega) _).grown hgrow (by simp; omega) (fun j hj => by exact (World.ownsRow.lt (HO1.out) j hj).1)
        clear HO1 HB1 hown' hgrow
        go_wp2
        go_roundw
        case rel => exact ⟨k + 1, by omega, by go_num, HO3, HB3.out⟩
        case measure => simp [intOf]; omega
      · have hxd : decide (x ≤ y) = false := decide_eq_false hxy
        have HF : Hid (fwd (L.take (k + 1)) = fwd (L.take k)) := by show _ = _; rw [HT.out]; simp [fwd, hxy]
        have HO1 := Hid.mk7 (HO.out.alloc (.cells #[.int .i64 x, .int .i64 y] 23))
        have HB1 := Hid.mk7 (below_newV hb hsz (.cells #[.int .i64 x, .int .i64 y] 23))
        clear HO
        go_wp2
        go_roundw
        case rel => exact ⟨k + 1, by omega, by go_num, by show OwnV _ _ _ _; rw [HF.out]; exact HO1.out, HB1.out⟩
        case measure => simp [intOf]; omega
    · obtain rfl : k = L.length := by omega
      have HE : Hid (fwd (L.take L.length) = fwd L) := by show _ = _; rw [List.take_length]
      go_wp2
      go_ret
      exact ⟨_, rfl, by rw [← HE.out]; exact HO.out, hb⟩
end Go.Proofs.Ytfohfdldpanfaaa
