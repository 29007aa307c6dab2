/- New, check, Replace, Slice. -/
import Derived.Test.YtfgefdkkjfjjjaaDoorRp
namespace Go.Proofs.YtfgefdkkjfjjjaaDoor
open Go.RowKit Go.Sort
set_option linter.unusedSimpArgs false
set_option linter.unusedVariables false

/-- A rope that lies somewhere. -/
def RpA (E : Env) (w : World) (r : Value) (t : List UInt8) : Prop := ∃ g ls, r = .pointer (some ⟨g, 0, none⟩) ∧ Rp E w r ls ∧ cat ls = t
theorem RpA.later {E : Env} {w w' : World} {r : Value} {t : List UInt8} (h : RpA E w r t) (hb : Below w.heap.size w w') : RpA E w' r t := by
  obtain ⟨g, ls, e, h1, h2⟩ := h
  exact ⟨g, ls, e, h1.later hb, h2⟩
theorem rp_box {E : Env} {w : World} {u : Option Addr} {ls : List ByteArray} (h : Tr E w (.pointer u) ls) (hI : Inv ls) : RpA E (w.alloc (Obj.cells #[.pointer u] 64)) (.pointer (some ⟨w.heap.size, 0, none⟩)) (cat ls) :=
  ⟨w.heap.size, ls, rfl, ⟨u, Or.inr ⟨w.heap.size, rfl, Rt.new _ w _⟩, h.later ((Below.refl _ _).alloc (Nat.le_refl _) _), hI⟩, rfl⟩
theorem inv_nil : Inv [] := ⟨fun s hs => by simp at hs, fun h => by simp at h⟩
theorem size_of {s : ByteArray} {t : List UInt8} (h : s.data.toList = t) : s.size = t.length := by rw [← h]; rfl

set_option maxHeartbeats 2000000 in
set_option maxRecDepth 100000 in
/-- New. -/
theorem new_ok (E : Env) (tb : Nat × Nat) (htab : ∀ W, E.Tb W → Tab W tb) (s : ByteArray) (w : World) (hs : s.size ≤ 1000000) (hl : (cln s.data.toList).length ≤ 20000) (hD : Dt E (cln s.data.toList)) (hT : E.Tb w) :
    Calls Tryd.prog 10 #[.string s] w fun e w' => ∃ r, e = .returned (.tuple #[r, .int .i64 0]) ∧ RpA E w' r (cln s.data.toList) ∧ Below w.heap.size w w' := by
  have HC := Hid.mk4 (clean_any s w tb (by omega) (htab _ hT))
  obtain ⟨t, ht⟩ : ∃ t : ByteArray, t = ⟨(cln s.data.toList).toArray⟩ := ⟨_, rfl⟩
  have htd : t.data.toList = cln s.data.toList := by rw [ht]
  rw [← ht] at HC
  have htz : t.size ≤ 20000 := by rw [size_of htd]; exact hl
  have htv : vld t.data.toList = true := by rw [htd]; exact cln_valid _
  rw [← htd] at hD ⊢
  have HD := Hid.mk4 hD
  have HV := Hid.mk4 htv
  have t1 : decide ((20000 : Int) < (t.size : Int)) = false := by simp; omega
  have t2 : decide (20000 < t.size) = false := by simp; omega
  clear hD htv htd ht hl
  go_enter Tryd.func10, Tryd.ntmps10
  go_wp2_with fail
  refine HC.out.mono ?_
  rintro e w1 ⟨rfl, b1⟩
  have HR := Hid.mk4 (replace_any E tb htab (.pointer none) [] 0 0 t w1 (Or.inl ⟨rfl, rfl⟩) inv_nil (by simp [szs_nil]) (Nat.le_refl _) (by simp) (by simp [cat_nil]; rfl) (by simp [cat_nil]; rfl) HV.out (by omega) (by simpa [cat_nil] using HD.out) (E.later hT b1))
  clear HC
  go_wp2_with fail
  refine HR.out.mono ?_
  rintro e w2 ⟨v2, l2, rfl, ht2, hi2, hc2, b2⟩
  obtain ⟨u2, rfl⟩ := ht2.ptr
  have HT2 := Hid.mk4 ht2
  have HI2 := Hid.mk4 hi2
  have HC2 : Hid (cat l2 = t.data.toList) := by show _ = _; simpa [cat_nil] using hc2
  have g2 := b1.trans (b2.mono b1.size)
  clear HR ht2 hi2 hc2 b1 b2
  go_wp2
  go_ret2
  exact ⟨_, rfl, by rw [← HC2.out]; exact rp_box HT2.out HI2.out, g2.alloc g2.size _⟩

set_option maxHeartbeats 2000000 in
set_option maxRecDepth 100000 in
/-- New, of what is too long. -/
theorem new_long (s : ByteArray) (w : World) (tb : Nat × Nat) (hs : s.size ≤ 1000000) (hl : 20000 < (cln s.data.toList).length) (hT : Tab w tb) :
    Calls Tryd.prog 10 #[.string s] w fun e w' => e = .returned (.tuple #[.pointer none, .int .i64 13]) ∧ Below w.heap.size w w' := by
  have HC := Hid.mk4 (clean_any s w tb (by omega) hT)
  obtain ⟨t, ht⟩ : ∃ t : ByteArray, t = ⟨(cln s.data.toList).toArray⟩ := ⟨_, rfl⟩
  have htd : t.data.toList = cln s.data.toList := by rw [ht]
  rw [← ht] at HC
  have htz : 20000 < t.size := by rw [size_of htd]; exact hl
  have t1 : (20000 : Int) < (t.size : Int) := by omega
  clear htd ht hl
  go_enter Tryd.func10, Tryd.ntmps10
  go_wp2_with fail
  refine HC.out.mono ?_
  rintro e w1 ⟨rfl, b1⟩
  clear HC
  go_wp2
  go_ret2
  exact ⟨rfl, b1⟩

set_option maxHeartbeats 2000000 in
set_option maxRecDepth 100000 in
/-- check, of a place that isn't there. -/
theorem check_range (E : Env) (r : Value) (ls : List ByteArray) (f t : Int) (w : World) (h : Rp E w r ls) (hz : szs ls ≤ 100000) (ho : f < 0 ∨ t < f ∨ (szs ls : Int) < t) :
    Calls Tryd.prog 31 #[r, .int .i64 f, .int .i64 t] w fun e w' => e = .returned (.int .i64 10) ∧ Below w.heap.size w w' := by
  by_cases h0 : f < 0
  · go_enter Tryd.func31, Tryd.ntmps31
    go_wp2
    go_ret
    exact ⟨rfl, Below.refl _ _⟩
  · have h0' : decide (f < 0) = false := by simpa using h0
    by_cases h1 : t < f
    · clear h0
      go_enter Tryd.func31, Tryd.ntmps31
      go_wp2
      go_ret
      exact ⟨rfl, Below.refl _ _⟩
    · have h1' : decide (t < f) = false := by simpa using h1
      have h2 : (szs ls : Int) < t := by omega
      have HL := Hid.mk4 (len_any E r ls w h hz)
      clear h ho h0 h1
      go_enter Tryd.func31, Tryd.ntmps31
      go_wp2_with fail
      refine HL.out.mono ?_
      rintro e w1 ⟨rfl, b1⟩
      clear HL
      go_wp2
      go_ret
      exact ⟨rfl, b1⟩

set_option maxHeartbeats 2000000 in
set_option maxRecDepth 100000 in
/-- check, of places that are there. -/
theorem check_in (E : Env) (tb : Nat × Nat) (htab : ∀ W, E.Tb W → Tab W tb) (r : Value) (ls : List ByteArray) (f t : Nat) (w : World) (h : Rp E w r ls) (hz : szs ls ≤ 100000) (hft : f ≤ t) (ht : t ≤ szs ls) (hT : E.Tb w) :
    Calls Tryd.prog 31 #[r, .int .i64 (f : Nat), .int .i64 (t : Nat)] w fun e w' => e = .returned (.int .i64 (if vld ((cat ls).take f) && vld ((cat ls).take t) then 0 else 11)) ∧ Below w.heap.size w w' := by
  have HL := Hid.mk4 (len_any E r ls w h hz)
  have H := Hid.mk4 h
  have HE1 : Hid (∀ W, Below w.heap.size w W → Calls Tryd.prog 18 #[r, .int .i64 (f : Nat)] W fun e w' => e = .returned (.bool (vld ((cat ls).take f))) ∧ Below W.heap.size W w') := fun W hW => isedge_in E tb htab r ls f W (h.later hW) hz (by omega) (E.later hT hW)
  have HE2 : Hid (∀ W, Below w.heap.size w W → Calls Tryd.prog 18 #[r, .int .i64 (t : Nat)] W fun e w' => e = .returned (.bool (vld ((cat ls).take t))) ∧ Below W.heap.size W w') := fun W hW => isedge_in E tb htab r ls t W (h.later hW) hz ht (E.later hT hW)
  have t1 : ¬ ((f : Int) < 0) := by omega
  have t2 : decide ((t : Int) < (f : Int)) = false := by simp; omega
  have t3 : decide (t < f) = false := by simp; omega
  have t4 : decide ((szs ls : Int) < (t : Int)) = false := by simp; omega
  have t5 : decide (szs ls < t) = false := by simp; omega
  clear h
  cases h1 : vld ((cat ls).take f) with
  | false =>
    rw [h1] at HE1
    simp only [Bool.false_and]
    go_enter Tryd.func31, Tryd.ntmps31
    go_wp2_with fail
    refine HL.out.mono ?_
    rintro e w1 ⟨rfl, b1⟩
    clear HL h1 HE2
    go_wp2_with fail
    refine (HE1.out _ b1).mono ?_
    rintro e w2 ⟨rfl, b2⟩
    clear HE1
    go_wp2
    go_ret
    exact ⟨rfl, b1.trans (b2.mono b1.size)⟩
  | true =>
    rw [h1] at HE1
    simp only [Bool.true_and]
    cases h2 : vld ((cat ls).take t) with
    | false =>
      rw [h2] at HE2
      go_enter Tryd.func31, Tryd.ntmps31
      go_wp2_with fail
      refine HL.out.mono ?_
      rintro e w1 ⟨rfl, b1⟩
      clear HL h1 h2
      go_wp2_with fail
      refine (HE1.out _ b1).mono ?_
      rintro e w2 ⟨rfl, b2⟩
      have g2 := b1.trans (b2.mono b1.size)
      clear HE1 b1 b2
      go_wp2_with fail
      refine (HE2.out _ g2).mono ?_
      rintro e w3 ⟨rfl, b3⟩
      clear HE2
      go_wp2
      go_ret
      exact ⟨rfl, g2.trans (b3.mono g2.size)⟩
    | true =>
      rw [h2] at HE2
      go_enter Tryd.func31, Tryd.ntmps31
      go_wp2_with fail
      refine HL.out.mono ?_
      rintro e w1 ⟨rfl, b1⟩
      clear HL h1 h2
      go_wp2_with fail
      refine (HE1.out _ b1).mono ?_
      rintro e w2 ⟨rfl, b2⟩
      have g2 := b1.trans (b2.mono b1.size)
      clear HE1 b1 b2
      go_wp2_with fail
      refine (HE2.out _ g2).mono ?_
      rintro e w3 ⟨rfl, b3⟩
      clear HE2
      go_wp2
      go_ret
      exact ⟨rfl, g2.trans (b3.mono g2.size)⟩
end Go.Proofs.YtfgefdkkjfjjjaaDoor
