/- Replace. -/
import Derived.Test.YtfgefdkkjfjjjaaDoorRpB
namespace Go.Proofs.YtfgefdkkjfjjjaaDoor
open Go.RowKit Go.Sort
set_option linter.unusedSimpArgs false
set_option linter.unusedVariables false

set_option maxHeartbeats 2000000 in
set_option maxRecDepth 100000 in
/-- Replace, refused by check. -/
theorem mrep_bad (r : Value) (f t c : Int) (s : ByteArray) (w : World) (hc : c ≠ 0) (h : Calls Tryd.prog 31 #[r, .int .i64 f, .int .i64 t] w fun e w' => e = .returned (.int .i64 c) ∧ Below w.heap.size w w') :
    Calls Tryd.prog 15 #[r, .int .i64 f, .int .i64 t, .string s] w fun e w' => e = .returned (.tuple #[.pointer none, .int .i64 c]) ∧ Below w.heap.size w w' := by
  have H := Hid.mk4 h
  have t1 : (c != 0) = true := by simpa using hc
  have t2 : (c == 0) = false := by simpa using hc
  clear h
  go_enter Tryd.func15, Tryd.ntmps15
  go_wp2_with fail
  refine H.out.mono ?_
  rintro e w1 ⟨rfl, b1⟩
  clear H
  go_wp2
  go_ret2
  exact ⟨rfl, b1⟩

set_option maxHeartbeats 4000000 in
set_option maxRecDepth 100000 in
/-- Replace. -/
theorem mrep_ok (E : Env) (tb : Nat × Nat) (htab : ∀ W, E.Tb W → Tab W tb) (r : Value) (T : List UInt8) (f t : Nat) (s : ByteArray) (w : World) (h : RpA E w r T) (hz : T.length ≤ 100000) (hft : f ≤ t) (ht : t ≤ T.length)
    (hef : vld (T.take f) = true) (het : vld (T.take t) = true) (hs : s.size ≤ 20000) (hl : T.length - (t - f) + (cln s.data.toList).length ≤ 20000) (hD : Dt E (T.take f ++ (cln s.data.toList ++ T.drop t))) (hT : E.Tb w) :
    Calls Tryd.prog 15 #[r, .int .i64 (f : Nat), .int .i64 (t : Nat), .string s] w fun e w' => ∃ r', e = .returned (.tuple #[r', .int .i64 0]) ∧ RpA E w' r' (T.take f ++ (cln s.data.toList ++ T.drop t)) ∧ Below w.heap.size w w' := by
  obtain ⟨g, ls, hr, hR, hT'⟩ := h
  clear hr
  subst hT'
  rw [cat_length] at hz ht hl
  have HK := Hid.mk4 (check_in E tb htab r ls f t w hR hz hft ht hT)
  rw [hef, het] at HK
  have HC : Hid (∀ W, Below w.heap.size w W → Calls Tryd.prog 26 #[.string s] W fun e w' => e = .returned (.string ⟨(cln s.data.toList).toArray⟩) ∧ Below W.heap.size W w') := fun W hW => clean_any s W tb (by omega) (htab _ (E.later hT hW))
  obtain ⟨q, hq⟩ : ∃ q : ByteArray, q = ⟨(cln s.data.toList).toArray⟩ := ⟨_, rfl⟩
  have hqd : q.data.toList = cln s.data.toList := by rw [hq]
  rw [← hq] at HC
  have hqv : vld q.data.toList = true := by rw [hqd]; exact cln_valid _
  rw [← hqd] at hl hD ⊢
  rw [bytes_length] at hl
  have HL : Hid (∀ W, Below w.heap.size w W → Calls Tryd.prog 20 #[r] W fun e w' => e = .returned (.int .i64 (szs ls : Nat)) ∧ Below W.heap.size W w') := fun W hW => len_any E r ls W (hR.later hW) hz
  obtain ⟨u, h1, h2, h3⟩ := hR
  have H1 := Hid.mk4 h1
  have H2 := Hid.mk4 h2
  have H3 := Hid.mk4 h3
  have HD := Hid.mk4 hD
  have HV := Hid.mk4 hqv
  have HEF := Hid.mk4 hef
  have HET := Hid.mk4 het
  have hqz : q.size ≤ 20000 := by omega
  have hcmp : ¬ ((20000 : Int) < (szs ls : Int) - ((t : Int) - (f : Int)) + (q.size : Int)) := by omega
  have hcmp2 : decide ((20000 : Int) < (szs ls : Int) - ((t : Int) - (f : Int)) + (q.size : Int)) = false := by simpa using hcmp
  clear h1 h2 h3 hD hqv hqd hq hef het hcmp
  go_enter Tryd.func15, Tryd.ntmps15
  go_wp2_with fail
  refine HK.out.mono ?_
  rintro e w1 ⟨rfl, b1⟩
  clear HK
  go_wp2_with fail
  refine (HC.out _ b1).mono ?_
  rintro e w2 ⟨rfl, b2⟩
  have g2 := b1.trans (b2.mono b1.size)
  clear HC b1 b2
  go_wp2_with fail
  refine (HL.out _ g2).mono ?_
  rintro e w3 ⟨rfl, b3⟩
  have g3 := g2.trans (b3.mono g2.size)
  have HO := Hid.mk4 (rowof_any r u w3 (H1.out.later g3))
  clear HL b3 g2
  go_wp2_with fail
  refine HO.out.mono ?_
  rintro e w4 ⟨rfl, b4⟩
  have g4 := g3.trans (b4.mono g3.size)
  have HRE := Hid.mk4 (replace_any E tb htab (.pointer u) ls f t q w4 (H2.out.later g4) H3.out hz hft ht HEF.out HET.out HV.out (by omega) HD.out (E.later hT g4))
  clear HO b4 g3
  go_wp2_with fail
  refine HRE.out.mono ?_
  rintro e w5 ⟨v5, l5, rfl, ht5, hi5, hc5, b5⟩
  obtain ⟨u5, rfl⟩ := ht5.ptr
  have HT5 := Hid.mk4 ht5
  have HI5 := Hid.mk4 hi5
  have HC5 := Hid.mk4 hc5
  have g5 := g4.trans (b5.mono g4.size)
  clear HRE ht5 hi5 hc5 b5 g4
  go_wp2
  go_ret2
  exact ⟨_, rfl, by rw [← HC5.out]; exact rp_box HT5.out HI5.out, g5.alloc g5.size _⟩

set_option maxHeartbeats 4000000 in
set_option maxRecDepth 100000 in
/-- Replace, of what would be too long. -/
theorem mrep_long (E : Env) (tb : Nat × Nat) (htab : ∀ W, E.Tb W → Tab W tb) (r : Value) (T : List UInt8) (f t : Nat) (s : ByteArray) (w : World) (h : RpA E w r T) (hz : T.length ≤ 100000) (hft : f ≤ t) (ht : t ≤ T.length)
    (hef : vld (T.take f) = true) (het : vld (T.take t) = true) (hs : s.size ≤ 20000) (hl : 20000 < T.length - (t - f) + (cln s.data.toList).length) (hT : E.Tb w) :
    Calls Tryd.prog 15 #[r, .int .i64 (f : Nat), .int .i64 (t : Nat), .string s] w fun e w' => e = .returned (.tuple #[.pointer none, .int .i64 13]) ∧ Below w.heap.size w w' := by
  obtain ⟨g, ls, hr, hR, hT'⟩ := h
  clear hr
  subst hT'
  rw [cat_length] at hz ht hl
  have HK := Hid.mk4 (check_in E tb htab r ls f t w hR hz hft ht hT)
  rw [hef, het] at HK
  have HC : Hid (∀ W, Below w.heap.size w W → Calls Tryd.prog 26 #[.string s] W fun e w' => e = .returned (.string ⟨(cln s.data.toList).toArray⟩) ∧ Below W.heap.size W w') := fun W hW => clean_any s W tb (by omega) (htab _ (E.later hT hW))
  have hcl := cln_length s.data.toList
  rw [bytes_length] at hcl
  obtain ⟨q, hq⟩ : ∃ q : ByteArray, q = ⟨(cln s.data.toList).toArray⟩ := ⟨_, rfl⟩
  have hqd : q.data.toList = cln s.data.toList := by rw [hq]
  rw [← hq] at HC
  rw [← hqd] at hl hcl
  rw [bytes_length] at hl hcl
  have HL : Hid (∀ W, Below w.heap.size w W → Calls Tryd.prog 20 #[r] W fun e w' => e = .returned (.int .i64 (szs ls : Nat)) ∧ Below W.heap.size W w') := fun W hW => len_any E r ls W (hR.later hW) hz
  have hcmp : (20000 : Int) < (szs ls : Int) - ((t : Int) - (f : Int)) + (q.size : Int) := by omega
  clear hqd hq hef het hR
  go_enter Tryd.func15, Tryd.ntmps15
  go_wp2_with fail
  refine HK.out.mono ?_
  rintro e w1 ⟨rfl, b1⟩
  clear HK
  go_wp2_with fail
  refine (HC.out _ b1).mono ?_
  rintro e w2 ⟨rfl, b2⟩
  have g2 := b1.trans (b2.mono b1.size)
  clear HC b1 b2
  go_wp2_with fail
  refine (HL.out _ g2).mono ?_
  rintro e w3 ⟨rfl, b3⟩
  have g3 := g2.trans (b3.mono g2.size)
  clear HL b3 g2
  go_wp2
  go_ret2
  exact ⟨rfl, g3⟩

end Go.Proofs.YtfgefdkkjfjjjaaDoor
