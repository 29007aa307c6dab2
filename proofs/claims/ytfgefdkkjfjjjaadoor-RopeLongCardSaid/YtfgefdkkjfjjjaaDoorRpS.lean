/- Same, Byte. -/
import Derived.Test.YtfgefdkkjfjjjaaDoorRpE
namespace Go.Proofs.YtfgefdkkjfjjjaaDoor
open Go.RowKit Go.Sort
set_option linter.unusedSimpArgs false
set_option linter.unusedVariables false

set_option maxHeartbeats 2000000 in
set_option maxRecDepth 100000 in
/-- Same, of texts that differ in length. -/
theorem same_ne (E : Env) (r o : Value) (lr lo : List ByteArray) (w : World) (h : Rp E w r lr) (h' : Rp E w o lo) (hz : szs lr ≤ 100000) (hz' : szs lo ≤ 100000) (hne : szs lr ≠ szs lo) :
    Calls Tryd.prog 23 #[r, o] w fun e w' => e = .returned (.bool false) ∧ Below w.heap.size w w' := by
  obtain ⟨u, h1, h2, h3⟩ := h
  obtain ⟨u', k1, k2, k3⟩ := h'
  obtain ⟨x0, x1, x2, x3, hk, hs⟩ := h2.sum
  obtain ⟨y0, y1, y2, y3, hk', hs'⟩ := k2.sum
  obtain rfl := KR_bytes hk hz
  obtain rfl := KR_bytes hk' hz'
  have HA : Hid (∀ W, Below w.heap.size w W → Calls Tryd.prog 24 #[r] W fun e w' => e = .returned (.agg #[.int .i64 (szs lr : Nat), .int .i64 x1, .int .i64 x2, .int .i64 x3]) ∧ Below W.heap.size W w') := fun W hW => counts_any E r u lr _ x1 x2 x3 W (h1.later hW) (h2.later hW) (hs.later hW)
  have HB : Hid (∀ W, Below w.heap.size w W → Calls Tryd.prog 24 #[o] W fun e w' => e = .returned (.agg #[.int .i64 (szs lo : Nat), .int .i64 y1, .int .i64 y2, .int .i64 y3]) ∧ Below W.heap.size W w') := fun W hW => counts_any E o u' lo _ y1 y2 y3 W (k1.later hW) (k2.later hW) (hs'.later hW)
  have t1 : (((szs lr : Nat) : Int) == ((szs lo : Nat) : Int)) = false := by simp; omega
  have t2 : (szs lr == szs lo) = false := by simp; omega
  have t3 : decide (szs lr = szs lo) = false := by simp; omega
  clear h1 h2 h3 k1 k2 k3 hk hk' hs hs' hz hz'
  go_enter Tryd.func23, Tryd.ntmps23
  go_wp2_with fail
  refine (HA.out _ (Below.refl _ _)).mono ?_
  rintro e w1 ⟨rfl, b1⟩
  clear HA
  go_wp2_with fail
  refine (HB.out _ b1).mono ?_
  rintro e w2 ⟨rfl, b2⟩
  clear HB
  go_wp2
  go_ret
  exact ⟨rfl, b1.trans (b2.mono b1.size)⟩

set_option maxHeartbeats 2000000 in
set_option maxRecDepth 100000 in
/-- Same, of two empty texts. -/
theorem same_nil (E : Env) (r o : Value) (w : World) (h : Rp E w r []) (h' : Rp E w o []) :
    Calls Tryd.prog 23 #[r, o] w fun e w' => e = .returned (.bool true) ∧ Below w.heap.size w w' := by
  have HSA : Hid (∀ W, Below w.heap.size w W → Calls Tryd.prog 22 #[r] W fun e w' => e = .returned (.string ⟨#[]⟩) ∧ Below W.heap.size W w') := fun W hW => by
    have := string_any E r [] W (h.later hW) (by simp [szs_nil])
    simpa [cat_nil] using this
  have HSB : Hid (∀ W, Below w.heap.size w W → Calls Tryd.prog 22 #[o] W fun e w' => e = .returned (.string ⟨#[]⟩) ∧ Below W.heap.size W w') := fun W hW => by
    have := string_any E o [] W (h'.later hW) (by simp [szs_nil])
    simpa [cat_nil] using this
  obtain ⟨u, h1, h2, h3⟩ := h
  obtain ⟨u', k1, k2, k3⟩ := h'
  have hz0 : ∀ {v : Option Addr}, Tr E w (.pointer v) [] → SumIs w (.pointer v) 0 0 0 0 := by
    intro v hv
    rcases hv with ⟨e, _⟩ | ⟨d, g, _, hN⟩
    · exact Or.inl ⟨e, rfl, rfl, rfl, rfl⟩
    · have := hN.ge; simp at this
  have HA : Hid (∀ W, Below w.heap.size w W → Calls Tryd.prog 24 #[r] W fun e w' => e = .returned (.agg #[.int .i64 0, .int .i64 0, .int .i64 0, .int .i64 0]) ∧ Below W.heap.size W w') := fun W hW => counts_any E r u [] _ _ _ _ W (h1.later hW) (h2.later hW) ((hz0 h2).later hW)
  have HB : Hid (∀ W, Below w.heap.size w W → Calls Tryd.prog 24 #[o] W fun e w' => e = .returned (.agg #[.int .i64 0, .int .i64 0, .int .i64 0, .int .i64 0]) ∧ Below W.heap.size W w') := fun W hW => counts_any E o u' [] _ _ _ _ W (k1.later hW) (k2.later hW) ((hz0 k2).later hW)
  clear h1 h2 h3 k1 k2 k3 hz0
  go_enter Tryd.func23, Tryd.ntmps23
  go_wp2_with fail
  refine (HA.out _ (Below.refl _ _)).mono ?_
  rintro e w1 ⟨rfl, b1⟩
  clear HA
  go_wp2_with fail
  refine (HB.out _ b1).mono ?_
  rintro e w2 ⟨rfl, b2⟩
  have g2 := b1.trans (b2.mono b1.size)
  clear HB b1 b2
  go_wp2_with fail
  refine (HSA.out _ g2).mono ?_
  rintro e w3 ⟨rfl, b3⟩
  have g3 := g2.trans (b3.mono g2.size)
  clear HSA b3 g2
  go_wp2_with fail
  refine (HSB.out _ g3).mono ?_
  rintro e w4 ⟨rfl, b4⟩
  clear HSB
  go_wp2
  go_ret
  exact ⟨rfl, g3.trans (b4.mono g3.size)⟩

set_option maxHeartbeats 2000000 in
set_option maxRecDepth 100000 in
/-- Byte, of a place that isn't there. -/
theorem byte_out (E : Env) (r : Value) (ls : List ByteArray) (a : Int) (w : World) (h : Rp E w r ls) (hz : szs ls ≤ 100000) (ha : a < 0 ∨ (szs ls : Int) ≤ a) :
    Calls Tryd.prog 17 #[r, .int .i64 a] w fun e w' => e = .returned (.tuple #[.int .u8 0, .bool false]) ∧ Below w.heap.size w w' := by
  by_cases h0 : a < 0
  · go_enter Tryd.func17, Tryd.ntmps17
    go_wp2
    go_ret2
    exact ⟨rfl, Below.refl _ _⟩
  · have h1 : (szs ls : Int) ≤ a := by omega
    have HL := Hid.mk4 (len_any E r ls w h hz)
    have h0' : decide (a < 0) = false := by simpa using h0
    clear h ha h0
    go_enter Tryd.func17, Tryd.ntmps17
    go_wp2_with fail
    refine HL.out.mono ?_
    rintro e w1 ⟨rfl, b1⟩
    clear HL
    go_wp2
    go_ret2
    exact ⟨rfl, b1⟩

set_option maxHeartbeats 2000000 in
set_option maxRecDepth 100000 in
/-- Byte. -/
theorem byte_in (E : Env) (r : Value) (ls : List ByteArray) (a : Nat) (x : UInt8) (w : World) (h : Rp E w r ls) (hz : szs ls ≤ 100000) (ha : (cat ls)[a]? = some x) :
    Calls Tryd.prog 17 #[r, .int .i64 (a : Nat)] w fun e w' => e = .returned (.tuple #[.int .u8 (x.toNat : Nat), .bool true]) ∧ Below w.heap.size w w' := by
  have hal : a < szs ls := by have := (List.getElem?_eq_some_iff.1 ha).1; rwa [cat_length] at this
  have HL := Hid.mk4 (len_any E r ls w h hz)
  obtain ⟨u, h1, h2, h3⟩ := h
  have H1 := Hid.mk4 h1
  have H2 := Hid.mk4 h2
  have HAX := Hid.mk4 ha
  have hlen : ls.length ≤ 100000 := by have := szs_ge h3.1; omega
  have t1 : ¬ ((a : Int) < 0) := by omega
  have t2 : decide ((szs ls : Int) ≤ (a : Int)) = false := by simp; omega
  have t3 : decide (szs ls ≤ a) = false := by simp; omega
  clear h1 h2 h3 ha
  go_enter Tryd.func17, Tryd.ntmps17
  go_wp2_with fail
  refine HL.out.mono ?_
  rintro e w1 ⟨rfl, b1⟩
  have HR := Hid.mk4 (rowof_any r u w1 (H1.out.later b1))
  have H2b := Hid.mk4 (H2.out.later b1)
  clear HL H1 H2
  go_wp2_with fail
  refine HR.out.mono ?_
  rintro e w2 ⟨rfl, b2⟩
  have g2 := b1.trans (b2.mono b1.size)
  have HLO : Hid (Calls Tryd.prog 33 #[.agg #[.pointer u], .int .i64 ((a : Int) + 1)] w2 fun e w' => ∃ p s q, e = .returned (.tuple #[.int .i64 (p : Nat), .string s, .int .i64 (q : Nat)]) ∧ Loc ls (a + 1) p s q ∧ Below w2.heap.size w2 w') := by
    have := locate_any E _ ls (a + 1) w2 (H2b.out.later b2) (by omega) (by omega) (by omega)
    show Calls _ _ _ _ _
    simpa using this
  clear HR H2b b1 b2
  go_wp2_with fail
  refine HLO.out.mono ?_
  rintro e w3 ⟨p, s, q, rfl, hloc, b3⟩
  have g3 := g2.trans (b3.mono g2.size)
  have hsb : s.size ≤ 100000 := by have := loc_head hloc (by omega); omega
  have hfin : ∃ j : Nat, q = j + 1 ∧ j < s.size ∧ s.data.toList[j]? = some x := by
    rcases hloc with ⟨e1, _⟩ | ⟨hs, hq, hqs, hp⟩
    · rw [e1] at hal; simp [szs_nil] at hal
    · have hq0 : 0 < q := by
        rcases hp with hp | hp
        · rw [hp] at hq; simp [szs_nil] at hq; omega
        · exact hp
      refine ⟨q - 1, by omega, by omega, ?_⟩
      have h1 := HAX.out
      rw [cat_split hs, List.getElem?_append_right (by rw [cat_length]; omega), cat_length, List.getElem?_append_left (by rw [bytes_length]; omega)] at h1
      rw [show q - 1 = a - szs (ls.take p) from by omega]
      exact h1
  obtain ⟨j, rfl, hj, hx⟩ := hfin
  have hget : (s[j]'hj) = x := by
    obtain ⟨h1, h2⟩ := List.getElem?_eq_some_iff.1 hx
    rw [← h2]
    simp [ByteArray.getElem_eq_getElem_data]
  have HGET := Hid.mk4 hget
  clear HLO hloc hx hget b3
  go_wp2
  go_ret2
  exact ⟨by rw [← HGET.out]; rfl, g3⟩
theorem rpa_byte (E : Env) {r : Value} {T : List UInt8} {w : World} (a : Nat) (x : UInt8) (h : RpA E w r T) (hz : T.length ≤ 100000) (ha : T[a]? = some x) : Calls Tryd.prog 17 #[r, .int .i64 (a : Nat)] w fun e w' => e = .returned (.tuple #[.int .u8 (x.toNat : Nat), .bool true]) ∧ Below w.heap.size w w' := by
  obtain ⟨g, ls, _, hR, rfl⟩ := h
  rw [cat_length] at hz
  exact byte_in E r ls a x w hR hz ha
theorem rpa_nobyte (E : Env) {r : Value} {T : List UInt8} {w : World} (a : Int) (h : RpA E w r T) (hz : T.length ≤ 100000) (ha : a < 0 ∨ (T.length : Int) ≤ a) : Calls Tryd.prog 17 #[r, .int .i64 a] w fun e w' => e = .returned (.tuple #[.int .u8 0, .bool false]) ∧ Below w.heap.size w w' := by
  obtain ⟨g, ls, _, hR, rfl⟩ := h
  rw [cat_length] at hz ha
  exact byte_out E r ls a w hR hz ha
theorem rpa_differ (E : Env) {r o : Value} {T U : List UInt8} {w : World} (h : RpA E w r T) (h' : RpA E w o U) (hz : T.length ≤ 100000) (hz' : U.length ≤ 100000) (hne : T.length ≠ U.length) : Calls Tryd.prog 23 #[r, o] w fun e w' => e = .returned (.bool false) ∧ Below w.heap.size w w' := by
  obtain ⟨g, ls, _, hR, rfl⟩ := h
  obtain ⟨g', ls', _, hR', rfl⟩ := h'
  rw [cat_length] at hz hz'
  rw [cat_length, cat_length] at hne
  exact same_ne E r o ls ls' w hR hR' hz hz' hne
end Go.Proofs.YtfgefdkkjfjjjaaDoor
