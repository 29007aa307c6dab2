/- RopeEmpty, walked. -/
import Derived.Test.YtbpklbhaoemkkabDoorKnown4
namespace Go.Proofs.YtbpklbhaoemkkabDoor
open Go.RowKit Go.Sort
set_option linter.unusedSimpArgs false
set_option linter.unusedVariables false

theorem cat_eq_nil {ls : List ByteArray} (hI : Inv ls) (h : cat ls = []) : ls = [] := by
  have h1 := szs_ge hI.1
  rw [← cat_length, h] at h1
  exact List.eq_nil_of_length_eq_zero (by simpa using h1)
theorem rpa_empty {E : Env} {w : World} {r : Value} (h : RpA E w r []) : Rp E w r [] := by
  obtain ⟨g, ls, _, hR, hc⟩ := h
  obtain ⟨u, h1, h2, h3⟩ := id hR
  rw [cat_eq_nil h3 hc] at hR
  exact hR
theorem asc_nil : Asc [] := by intro b hb; simp at hb
theorem asc_a : Asc [97] := by intro b hb; simp at hb; subst hb; decide

set_option maxHeartbeats 8000000 in
set_option maxRecDepth 100000 in
/-- RopeEmpty. -/
theorem empty_any (n : Int) (hn : -9223372036854775808 ≤ n ∧ n ≤ 9223372036854775807) (w : World) (tb : Nat × Nat) (hB : Byt8 w) (hT : Tab w tb) :
    Calls Tryd.prog 3 #[.int .i64 n] w fun e w' => e = .returned (.bool true) ∧ Below w.heap.size w w' := by
  have hTb : (weakE tb).Tb w := ⟨hB, hT⟩
  have htab : ∀ W, (weakE tb).Tb W → Tab W tb := fun W h => h.2
  have lat : ∀ {W W' : World}, (weakE tb).Tb W → Below W.heap.size W W' → (weakE tb).Tb W' := fun h b => (weakE tb).later h b
  have HK := Hid.mk4 (known_any w tb hB hT)
  have HTB := Hid.mk4 hTb
  have HTAB := Hid.mk4 htab
  clear hTb htab hB hT
  go_enter Tryd.func3, Tryd.ntmps3
  go_wp2_with fail
  refine HK.out.mono ?_
  rintro e w1 ⟨rfl, b1⟩
  have HT1 := Hid.mk4 (lat HTB.out b1)
  have HN : Hid (Calls Tryd.prog 5 #[.string ⟨#[]⟩] w1 fun e w' => ∃ r, e = .returned (.tuple #[r, .int .i64 0]) ∧ RpA (weakE tb) w' r [] ∧ Below w1.heap.size w1 w') :=
    new_ok (weakE tb) tb HTAB.out ⟨#[]⟩ w1 (by decide) (by decide) (asc_Dt tb asc_nil (by decide)) HT1.out
  clear HK
  go_wp2_with fail
  refine HN.out.mono ?_
  rintro e w2 ⟨r, rfl, hr, b2⟩
  obtain ⟨g, _, hrg, _⟩ := id hr
  subst hrg
  have g2 := b1.trans (b2.mono b1.size)
  have R2 := Hid.mk4 hr
  have HT2 := Hid.mk4 (lat HT1.out b2)
  clear HN hr b1 b2 HT1
  have HBY : Hid (Calls Tryd.prog 6 #[.pointer (some ⟨g, 0, none⟩), .int .i64 n] w2 fun e w' => e = .returned (.tuple #[.int .u8 0, .bool false]) ∧ Below w2.heap.size w2 w') := rpa_nobyte (weakE tb) n R2.out (by decide) (by simp; omega)
  go_wp2_with fail
  refine HBY.out.mono ?_
  rintro e w3 ⟨rfl, b3⟩
  have g3 := g2.trans (b3.mono g2.size)
  have R3 := Hid.mk4 (R2.out.later b3)
  have HT3 := Hid.mk4 (lat HT2.out b3)
  clear HBY b3 g2 R2 HT2
  have HSL : Hid (∃ c : Int, ((n = 0 ∧ c = 0) ∨ (n ≠ 0 ∧ c = 10)) ∧ Calls Tryd.prog 7 #[.pointer (some ⟨g, 0, none⟩), .int .i64 n, .int .i64 n] w3 fun e w' => ∃ r' : Option Addr, e = .returned (.tuple #[.pointer r', .int .i64 c]) ∧ Below w3.heap.size w3 w') := by
    by_cases h0 : n = 0
    · refine ⟨0, Or.inl ⟨h0, rfl⟩, ?_⟩
      subst h0
      refine (msli_ok (weakE tb) tb HTAB.out _ [] 0 0 w3 R3.out (by decide) (by decide) (by decide) rfl rfl (asc_Dt tb asc_nil (by decide)) (asc_Dt tb asc_nil (by decide)) HT3.out).mono ?_
      rintro e w4 ⟨r', he, ⟨g', _, hg', _⟩, b4⟩
      subst hg'
      exact ⟨_, he, b4⟩
    · refine ⟨10, Or.inr ⟨h0, rfl⟩, ?_⟩
      refine (msli_bad _ n n 10 w3 (by decide) (rpa_range (weakE tb) n n R3.out (by decide) (by simp; omega))).mono ?_
      rintro e w4 ⟨he, b4⟩
      exact ⟨_, he, b4⟩
  obtain ⟨c, hc, hsl⟩ := HSL.out
  have HSL2 := Hid.mk4 hsl
  clear HSL hsl
  go_wp2_with fail
  refine HSL2.out.mono ?_
  rintro e w4 ⟨r', rfl, b4⟩
  have g4 := g3.trans (b4.mono g3.size)
  have R4 := Hid.mk4 (R3.out.later b4)
  have HT4 := Hid.mk4 (lat HT3.out b4)
  clear HSL2 b4 g3 R3 HT3
  have HRP : Hid (Calls Tryd.prog 8 #[.pointer (some ⟨g, 0, none⟩), .int .i64 0, .int .i64 0, .string ⟨#[97]⟩] w4 fun e w' => ∃ r', e = .returned (.tuple #[r', .int .i64 0]) ∧ RpA (weakE tb) w' r' [97] ∧ Below w4.heap.size w4 w') := by
    have e2 : ([] : List UInt8).take 0 ++ (cln (⟨#[97]⟩ : ByteArray).data.toList ++ ([] : List UInt8).drop 0) = [97] := by decide +kernel
    have := mrep_ok (weakE tb) tb HTAB.out _ [] 0 0 ⟨#[97]⟩ w4 R4.out (by decide) (by decide) (by decide) rfl rfl (by decide) (by decide +kernel) (by rw [e2]; exact asc_Dt tb asc_a (by decide)) HT4.out
    rw [e2] at this
    exact this
  go_wp2_with fail
  refine HRP.out.mono ?_
  rintro e w5 ⟨x, rfl, hx, b5⟩
  obtain ⟨gx, _, hxg, _⟩ := id hx
  subst hxg
  have g5 := g4.trans (b5.mono g4.size)
  have R5 := Hid.mk4 (R4.out.later b5)
  have X5 := Hid.mk4 hx
  have HT5 := Hid.mk4 (lat HT4.out b5)
  clear HRP hx b5 g4 R4 HT4
  have HSY : Hid (Calls Tryd.prog 7 #[.pointer (some ⟨gx, 0, none⟩), .int .i64 1, .int .i64 1] w5 fun e w' => ∃ r', e = .returned (.tuple #[r', .int .i64 0]) ∧ RpA (weakE tb) w' r' [] ∧ Below w5.heap.size w5 w') :=
    msli_ok (weakE tb) tb HTAB.out _ [97] 1 1 w5 X5.out (by decide) (by decide) (by decide) (by decide +kernel) (by decide +kernel) (asc_Dt tb asc_a (by decide)) (asc_Dt tb asc_nil (by decide)) HT5.out
  go_wp2_with fail
  refine HSY.out.mono ?_
  rintro e w6 ⟨y, rfl, hy, b6⟩
  obtain ⟨gy, _, hyg, _⟩ := id hy
  subst hyg
  have g6 := g5.trans (b6.mono g5.size)
  have R6 := Hid.mk4 (R5.out.later b6)
  have X6 := Hid.mk4 (X5.out.later b6)
  have Y6 := Hid.mk4 hy
  have HT6 := Hid.mk4 (lat HT5.out b6)
  clear HSY hy b6 g5 R5 X5 HT5
  have M1 : Hid (∀ W, Below w6.heap.size w6 W → Calls Tryd.prog 9 #[.pointer (some ⟨gy, 0, none⟩), .pointer (some ⟨g, 0, none⟩)] W fun e w' => e = .returned (.bool true) ∧ Below W.heap.size W w') := fun W hW => same_nil (weakE tb) _ _ W (rpa_empty (Y6.out.later hW)) (rpa_empty (R6.out.later hW))
  have M2 : Hid (∀ W, Below w6.heap.size w6 W → Calls Tryd.prog 9 #[.pointer (some ⟨g, 0, none⟩), .pointer none] W fun e w' => e = .returned (.bool true) ∧ Below W.heap.size W w') := fun W hW => same_nil (weakE tb) _ _ W (rpa_empty (R6.out.later hW)) (Rp.nil _ _)
  have M3 : Hid (∀ W, Below w6.heap.size w6 W → Calls Tryd.prog 9 #[.pointer (some ⟨gx, 0, none⟩), .pointer none] W fun e w' => e = .returned (.bool false) ∧ Below W.heap.size W w') := fun W hW => by
    obtain ⟨_, ls, _, hR, hcat⟩ := X6.out.later hW
    have hz : szs ls = 1 := by rw [← cat_length, hcat]; rfl
    exact same_ne (weakE tb) _ _ ls [] W hR (Rp.nil _ _) (by omega) (by simp [szs_nil]) (by rw [hz, szs_nil]; decide)
  have M4 : Hid (∃ bb : Bool, ((n = 0 ∧ bb = true) ∨ (n ≠ 0 ∧ bb = false)) ∧ ∀ W, Below w6.heap.size w6 W → Calls Tryd.prog 10 #[.pointer (some ⟨g, 0, none⟩), .int .i64 n] W fun e w' => e = .returned (.bool bb) ∧ Below W.heap.size W w') := by
    by_cases h0 : n = 0
    · refine ⟨true, Or.inl ⟨h0, rfl⟩, fun W hW => ?_⟩
      subst h0
      exact rpa_edge (weakE tb) tb HTAB.out 0 (R6.out.later hW) (by decide) (by decide) (lat HT6.out hW)
    · exact ⟨false, Or.inr ⟨h0, rfl⟩, fun W hW => rpa_noedge (weakE tb) n (R6.out.later hW) (by decide) (by simp; omega)⟩
  have M5 : Hid (∀ W, Below w6.heap.size w6 W → Calls Tryd.prog 11 #[.pointer (some ⟨g, 0, none⟩)] W fun e w' => e = .returned (.int .i64 0) ∧ Below W.heap.size W w') := fun W hW => rpa_len (weakE tb) (R6.out.later hW) (by decide)
  obtain ⟨bb, hbb, hm4⟩ := M4.out
  have M6 := Hid.mk4 hm4
  clear M4 hm4 R6 X6 Y6 HT6
  have hcase : (n = 0 ∧ c = 0 ∧ bb = true) ∨ ((n == 0) = false ∧ c = 10 ∧ bb = false) := by
    rcases hc with ⟨h1, h2⟩ | ⟨h1, h2⟩ <;> rcases hbb with ⟨k1, k2⟩ | ⟨k1, k2⟩
    · exact Or.inl ⟨h1, h2, k2⟩
    · exact absurd h1 k1
    · exact absurd k1 h1
    · exact Or.inr ⟨by simpa using h1, h2, k2⟩
  clear hc hbb
  rcases hcase with ⟨rfl, rfl, rfl⟩ | ⟨hn0, rfl, rfl⟩
  all_goals
    go_wp2_with fail
    refine (M1.out _ (Below.refl _ _)).mono ?_
    rintro e w7 ⟨rfl, b7⟩
    clear M1
    go_wp2_with fail
    refine (M2.out _ b7).mono ?_
    rintro e w8 ⟨rfl, b8⟩
    have q8 := b7.trans (b8.mono b7.size)
    clear M2 b7 b8
    go_wp2_with fail
    refine (M3.out _ q8).mono ?_
    rintro e w9 ⟨rfl, b9⟩
    have q9 := q8.trans (b9.mono q8.size)
    clear M3 b9 q8
    go_wp2_with fail
    refine (M6.out _ q9).mono ?_
    rintro e w10 ⟨rfl, b10⟩
    have q10 := q9.trans (b10.mono q9.size)
    clear M6 b10 q9
    go_wp2_with fail
    refine (M5.out _ q10).mono ?_
    rintro e w11 ⟨rfl, b11⟩
    have q11 := q10.trans (b11.mono q10.size)
    clear M5 b11 q10
    go_wp2
    go_ret
    exact ⟨rfl, g6.trans (q11.mono g6.size)⟩
end Go.Proofs.YtbpklbhaoemkkabDoor
