/- Slice. -/
import Derived.Test.YtfgefdkkjfjjjaaDoorRpB
namespace Go.Proofs.YtfgefdkkjfjjjaaDoor
open Go.RowKit Go.Sort
set_option linter.unusedSimpArgs false
set_option linter.unusedVariables false

set_option maxHeartbeats 2000000 in
set_option maxRecDepth 100000 in
/-- Slice, refused by check. -/
theorem msli_bad (r : Value) (f t c : Int) (w : World) (hc : c ≠ 0) (h : Calls Tryd.prog 31 #[r, .int .i64 f, .int .i64 t] w fun e w' => e = .returned (.int .i64 c) ∧ Below w.heap.size w w') :
    Calls Tryd.prog 14 #[r, .int .i64 f, .int .i64 t] w fun e w' => e = .returned (.tuple #[.pointer none, .int .i64 c]) ∧ Below w.heap.size w w' := by
  have H := Hid.mk4 h
  have t1 : (c != 0) = true := by simpa using hc
  have t2 : (c == 0) = false := by simpa using hc
  clear h
  go_enter Tryd.func14, Tryd.ntmps14
  go_wp2_with fail
  refine H.out.mono ?_
  rintro e w1 ⟨rfl, b1⟩
  clear H
  go_wp2
  go_ret2
  exact ⟨rfl, b1⟩

set_option maxHeartbeats 4000000 in
set_option maxRecDepth 100000 in
/-- Slice. -/
theorem msli_ok (E : Env) (tb : Nat × Nat) (htab : ∀ W, E.Tb W → Tab W tb) (r : Value) (T : List UInt8) (f t : Nat) (w : World) (h : RpA E w r T) (hz : T.length ≤ 100000) (hft : f ≤ t) (ht : t ≤ T.length)
    (hef : vld (T.take f) = true) (het : vld (T.take t) = true) (hD1 : Dt E (T.take t)) (hD2 : Dt E ((T.take t).drop f)) (hT : E.Tb w) :
    Calls Tryd.prog 14 #[r, .int .i64 (f : Nat), .int .i64 (t : Nat)] w fun e w' => ∃ r', e = .returned (.tuple #[r', .int .i64 0]) ∧ RpA E w' r' ((T.take t).drop f) ∧ Below w.heap.size w w' := by
  obtain ⟨g, ls, hr, hR, hT'⟩ := h
  clear hr
  subst hT'
  rw [cat_length] at hz ht
  have HK := Hid.mk4 (check_in E tb htab r ls f t w hR hz hft ht hT)
  rw [hef, het] at HK
  have HL : Hid (∀ W, Below w.heap.size w W → Calls Tryd.prog 20 #[r] W fun e w' => e = .returned (.int .i64 (szs ls : Nat)) ∧ Below W.heap.size W w') := fun W hW => len_any E r ls W (hR.later hW) hz
  obtain ⟨u, h1, h2, h3⟩ := hR
  have H1 := Hid.mk4 h1
  have H2 := Hid.mk4 h2
  have H3 := Hid.mk4 h3
  have HD1 := Hid.mk4 hD1
  have HD2 := Hid.mk4 hD2
  have HEF := Hid.mk4 hef
  have HET := Hid.mk4 het
  clear h1 h2 h3 hD1 hD2 hef het
  go_enter Tryd.func14, Tryd.ntmps14
  go_wp2_with fail
  refine HK.out.mono ?_
  rintro e w1 ⟨rfl, b1⟩
  have HO := Hid.mk4 (rowof_any r u w1 (H1.out.later b1))
  clear HK
  go_wp2_with fail
  refine HO.out.mono ?_
  rintro e w2 ⟨rfl, b2⟩
  have g2 := b1.trans (b2.mono b1.size)
  clear HO b1 b2
  go_wp2_with fail
  refine (HL.out _ g2).mono ?_
  rintro e w3 ⟨rfl, b3⟩
  have g3 := g2.trans (b3.mono g2.size)
  have hvall : vld ((cat ls).take (szs ls)) = true := by rw [List.take_of_length_le (by rw [cat_length]; omega)]; exact cat_valid H3.out.1
  have hd0 : (cat ls).take t ++ ((⟨#[]⟩ : ByteArray).data.toList ++ (cat ls).drop (szs ls)) = (cat ls).take t := by rw [List.drop_of_length_le (by rw [cat_length]; omega)]; simp
  have HRE := Hid.mk4 (replace_any E tb htab (.pointer u) ls t (szs ls) ⟨#[]⟩ w3 (H2.out.later g3) H3.out hz ht (Nat.le_refl _) HET.out hvall rfl (Nat.zero_le _) (by rw [hd0]; exact HD1.out) (E.later hT g3))
  rw [hd0] at HRE
  clear HL b3 g2 hvall hd0
  go_wp2_with fail
  refine HRE.out.mono ?_
  rintro e w5 ⟨v5, l5, rfl, ht5, hi5, hc5, b5⟩
  obtain ⟨u5, rfl⟩ := ht5.ptr
  have g5 := g3.trans (b5.mono g3.size)
  have b6 : Below w5.heap.size w5 (w5.alloc (Obj.cells #[.pointer u5] 61)) := (Below.refl _ _).alloc (Nat.le_refl _) _
  have g6 := g5.trans (b6.mono g5.size)
  have hz5 : szs l5 = t := by rw [← cat_length, hc5, List.length_take, cat_length]; omega
  have hd1 : (cat l5).take 0 ++ ((⟨#[]⟩ : ByteArray).data.toList ++ (cat l5).drop f) = ((cat ls).take t).drop f := by rw [hc5]; simp
  have hvf : vld ((cat l5).take f) = true := by rw [hc5, List.take_take, Nat.min_eq_left hft]; exact HEF.out
  have HRF := Hid.mk4 (replace_any E tb htab (.pointer u5) l5 0 f ⟨#[]⟩ (w5.alloc (Obj.cells #[.pointer u5] 61)) (ht5.later b6) hi5 (by omega) (Nat.zero_le _) (by omega) rfl hvf rfl (Nat.zero_le _) (by rw [hd1]; exact HD2.out) (E.later hT g6))
  rw [hd1] at HRF
  clear HRE hz5 hd1 hvf ht5 hi5 hc5 b5 b6
  go_wp2_with fail
  refine HRF.out.mono ?_
  rintro e w7 ⟨v7, l7, rfl, ht7, hi7, hc7, b7⟩
  obtain ⟨u7, rfl⟩ := ht7.ptr
  have HT7 := Hid.mk4 ht7
  have HI7 := Hid.mk4 hi7
  have HC7 := Hid.mk4 hc7
  have g7 := g6.trans (b7.mono g6.size)
  clear HRF ht7 hi7 hc7 b7 g6 g5 g3
  go_wp2
  go_ret2
  exact ⟨_, rfl, by rw [← HC7.out]; exact rp_box HT7.out HI7.out, g7.alloc g7.size _⟩
end Go.Proofs.YtfgefdkkjfjjjaaDoor
