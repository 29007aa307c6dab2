/- known: the document's example. -/
import Derived.Test.YtfgefdkkjfjjjaaDoorWeakE
import Derived.Test.YtfgefdkkjfjjjaaDoorRpS
import Derived.Test.YtfgefdkkjfjjjaaDoorRpR
namespace Go.Proofs.YtfgefdkkjfjjjaaDoor
open Go.RowKit Go.Sort
set_option linter.unusedSimpArgs false
set_option linter.unusedVariables false

def hello1 : List UInt8 := [104, 195, 169, 108, 108, 111]
def hello2 : List UInt8 := [104, 101, 108, 108, 111]
theorem vld_h1 : vld hello1 = true := by decide +kernel
theorem cln_h1 : cln hello1 = hello1 := cln_of_valid vld_h1
theorem D_h1 (tb : Nat × Nat) (s : ByteArray) (hs : s.data.toList = hello1) : (weakE tb).D s := by
  have hsz : s.size = 6 := by rw [← bytes_length, hs]; rfl
  have hb : ∀ i (hi : i < s.size), (s[i]'hi).toNat = (hello1.getD i 0).toNat := by
    intro i hi
    have h1 : s.data.toList[i]? = hello1[i]? := by rw [hs]
    rw [List.getElem?_eq_getElem (by rw [bytes_length]; exact hi)] at h1
    rw [List.getD_eq_getElem?_getD, ← h1]
    simp [ByteArray.getElem_eq_getElem_data]
  show s.size ≤ 1000000 ∧ vld s.data.toList = true ∧ ∀ i, i < s.size → Weak1 (s.extract i s.size)
  refine ⟨by omega, by rw [hs]; exact vld_h1, fun i hi => ?_⟩
  have hx : ∀ j (q : j < (s.extract i s.size).size), ((s.extract i s.size)[j]'q).toNat = (hello1.getD (i + j) 0).toNat := by
    intro j q
    have hq : i + j < s.size := by simp at q; omega
    rw [← hb (i + j) hq]
    simp [ByteArray.getElem_extract]
  have hes : (s.extract i s.size).size = s.size - i := by simp
  have : i = 0 ∨ i = 1 ∨ i = 2 ∨ i = 3 ∨ i = 4 ∨ i = 5 := by omega
  rcases this with rfl | rfl | rfl | rfl | rfl | rfl
  · exact Or.inl ⟨104, by omega, by omega, fun q => (hx 0 q).trans rfl⟩
  · exact Or.inr ⟨195, 169, by omega, by omega, by omega, by omega, by omega, fun q => (hx 0 q).trans rfl, fun q => (hx 1 q).trans rfl, fun q => (hx 2 q).trans rfl⟩
  · exact Or.inr ⟨169, 108, by omega, by omega, by omega, by omega, by omega, fun q => (hx 0 q).trans rfl, fun q => (hx 1 q).trans rfl, fun q => (hx 2 q).trans rfl⟩
  · exact Or.inl ⟨108, by omega, by omega, fun q => (hx 0 q).trans rfl⟩
  · exact Or.inl ⟨108, by omega, by omega, fun q => (hx 0 q).trans rfl⟩
  · exact Or.inl ⟨111, by omega, by omega, fun q => (hx 0 q).trans rfl⟩
theorem Dt_h1 (tb : Nat × Nat) : Dt (weakE tb) hello1 := by
  intro a b c e _ _ hb s hs
  rcases hb with rfl | hb
  · exact D_h1 tb s hs
  · have := congrArg List.length e
    simp [hello1] at this
    omega
theorem asc_h2 : Asc hello2 := by intro b hb; simp [hello2] at hb; rcases hb with rfl | rfl | rfl | rfl <;> decide

set_option maxHeartbeats 8000000 in
set_option maxRecDepth 100000 in
/-- known. -/
theorem known_any (w : World) (tb : Nat × Nat) (hB : Byt8 w) (hT : Tab w tb) :
    Calls Tryd.prog 9 #[] w fun e w' => e = .returned (.bool true) ∧ Below w.heap.size w w' := by
  have hTb : (weakE tb).Tb w := ⟨hB, hT⟩
  have htab : ∀ W, (weakE tb).Tb W → Tab W tb := fun W h => h.2
  have lat : ∀ {W W' : World}, (weakE tb).Tb W → Below W.heap.size W W' → (weakE tb).Tb W' := fun h b => (weakE tb).later h b
  have HTB := Hid.mk4 hTb
  have HTAB := Hid.mk4 htab
  have HN : Hid (Calls Tryd.prog 10 #[.string ⟨#[104, 195, 169, 108, 108, 111]⟩] w fun e w' => ∃ r, e = .returned (.tuple #[r, .int .i64 0]) ∧ RpA (weakE tb) w' r hello1 ∧ Below w.heap.size w w') := by
    have := new_ok (weakE tb) tb htab ⟨#[104, 195, 169, 108, 108, 111]⟩ w (by decide) (by decide +kernel) (by rw [show cln (⟨#[104, 195, 169, 108, 108, 111]⟩ : ByteArray).data.toList = hello1 from cln_h1]; exact Dt_h1 tb) hTb
    rw [show cln (⟨#[104, 195, 169, 108, 108, 111]⟩ : ByteArray).data.toList = hello1 from cln_h1] at this
    exact this
  clear hTb htab hB hT
  go_enter Tryd.func9, Tryd.ntmps9
  go_wp2_with fail
  refine HN.out.mono ?_
  rintro e w1 ⟨r, rfl, hr, b1⟩
  obtain ⟨g, _, hrg, _⟩ := id hr
  subst hrg
  have R1 := Hid.mk4 hr
  have HT1 := Hid.mk4 (lat HTB.out b1)
  have HS : Hid (Calls Tryd.prog 14 #[.pointer (some ⟨g, 0, none⟩), .int .i64 0, .int .i64 2] w1 fun e w' => e = .returned (.tuple #[.pointer none, .int .i64 11]) ∧ Below w1.heap.size w1 w') := by
    have := rpa_check (weakE tb) tb HTAB.out 0 2 hr (by decide) (by decide) (by decide) HT1.out
    rw [show (if vld (hello1.take 0) && vld (hello1.take 2) then (0 : Int) else 11) = 11 from by decide +kernel] at this
    exact msli_bad _ 0 2 11 w1 (by decide) this
  clear hr HN
  go_wp2_with fail
  refine HS.out.mono ?_
  rintro e w2 ⟨rfl, b2⟩
  have g2 := b1.trans (b2.mono b1.size)
  have R2 := Hid.mk4 (R1.out.later b2)
  have HT2 := Hid.mk4 (lat HT1.out b2)
  clear HS b1 b2 R1 HT1
  have HRP : Hid (Calls Tryd.prog 15 #[.pointer (some ⟨g, 0, none⟩), .int .i64 1, .int .i64 3, .string ⟨#[101]⟩] w2 fun e w' => ∃ r', e = .returned (.tuple #[r', .int .i64 0]) ∧ RpA (weakE tb) w' r' hello2 ∧ Below w2.heap.size w2 w') := by
    have e2 : hello1.take 1 ++ (cln (⟨#[101]⟩ : ByteArray).data.toList ++ hello1.drop 3) = hello2 := by decide +kernel
    have := mrep_ok (weakE tb) tb HTAB.out _ hello1 1 3 ⟨#[101]⟩ w2 R2.out (by decide) (by decide) (by decide) (by decide +kernel) (by decide +kernel) (by decide) (by decide +kernel) (by rw [e2]; exact asc_Dt tb asc_h2 (by decide)) HT2.out
    rw [e2] at this
    exact this
  go_wp2_with fail
  refine HRP.out.mono ?_
  rintro e w3 ⟨r', rfl, hr', b3⟩
  obtain ⟨g', _, hrg, _⟩ := id hr'
  subst hrg
  have g3 := g2.trans (b3.mono g2.size)
  have R3 := Hid.mk4 (R2.out.later b3)
  have S3 := Hid.mk4 hr'
  have HT3 := Hid.mk4 (lat HT2.out b3)
  clear HRP b3 g2 R2 HT2 hr'
  have HB0 : Hid (Calls Tryd.prog 17 #[.pointer (some ⟨g, 0, none⟩), .int .i64 0] w3 fun e w' => e = .returned (.tuple #[.int .u8 104, .bool true]) ∧ Below w3.heap.size w3 w') := rpa_byte (weakE tb) 0 104 R3.out (by decide) rfl
  go_wp2_with fail
  refine HB0.out.mono ?_
  rintro e w4 ⟨rfl, b4⟩
  have g4 := g3.trans (b4.mono g3.size)
  have R4 := Hid.mk4 (R3.out.later b4)
  have S4 := Hid.mk4 (S3.out.later b4)
  have HT4 := Hid.mk4 (lat HT3.out b4)
  clear HB0 b4 g3 R3 S3 HT3
  have HB6 : Hid (Calls Tryd.prog 17 #[.pointer (some ⟨g, 0, none⟩), .int .i64 6] w4 fun e w' => e = .returned (.tuple #[.int .u8 0, .bool false]) ∧ Below w4.heap.size w4 w') := rpa_nobyte (weakE tb) 6 R4.out (by decide) (Or.inr (by decide))
  go_wp2_with fail
  refine HB6.out.mono ?_
  rintro e w5 ⟨rfl, b5⟩
  have g5 := g4.trans (b5.mono g4.size)
  have R5 := Hid.mk4 (R4.out.later b5)
  have S5 := Hid.mk4 (S4.out.later b5)
  have HT5 := Hid.mk4 (lat HT4.out b5)
  clear HB6 b5 g4 R4 S4 HT4
  have HLN : Hid (∀ W, Below w5.heap.size w5 W → Calls Tryd.prog 20 #[.pointer (some ⟨g, 0, none⟩)] W fun e w' => e = .returned (.int .i64 6) ∧ Below W.heap.size W w') := fun W hW => rpa_len (weakE tb) (R5.out.later hW) (by decide)
  have HS1 : Hid (∀ W, Below w5.heap.size w5 W → Calls Tryd.prog 22 #[.pointer (some ⟨g, 0, none⟩)] W fun e w' => e = .returned (.string ⟨#[104, 195, 169, 108, 108, 111]⟩) ∧ Below W.heap.size W w') := fun W hW => rpa_string (weakE tb) (R5.out.later hW) (by decide)
  have HS2 : Hid (∀ W, Below w5.heap.size w5 W → Calls Tryd.prog 22 #[.pointer (some ⟨g', 0, none⟩)] W fun e w' => e = .returned (.string ⟨#[104, 101, 108, 108, 111]⟩) ∧ Below W.heap.size W w') := fun W hW => rpa_string (weakE tb) (S5.out.later hW) (by decide)
  have HE3 : Hid (∀ W, Below w5.heap.size w5 W → Calls Tryd.prog 18 #[.pointer (some ⟨g, 0, none⟩), .int .i64 3] W fun e w' => e = .returned (.bool true) ∧ Below W.heap.size W w') := fun W hW => by
    have := rpa_edge (weakE tb) tb HTAB.out 3 (R5.out.later hW) (by decide) (by decide) (lat HT5.out hW)
    rw [show vld (hello1.take 3) = true from by decide +kernel] at this
    exact this
  have HE2 : Hid (∀ W, Below w5.heap.size w5 W → Calls Tryd.prog 18 #[.pointer (some ⟨g, 0, none⟩), .int .i64 2] W fun e w' => e = .returned (.bool false) ∧ Below W.heap.size W w') := fun W hW => by
    have := rpa_edge (weakE tb) tb HTAB.out 2 (R5.out.later hW) (by decide) (by decide) (lat HT5.out hW)
    rw [show vld (hello1.take 2) = false from by decide +kernel] at this
    exact this
  have HSM : Hid (∀ W, Below w5.heap.size w5 W → Calls Tryd.prog 23 #[.pointer (some ⟨g, 0, none⟩), .pointer (some ⟨g', 0, none⟩)] W fun e w' => e = .returned (.bool false) ∧ Below W.heap.size W w') := fun W hW => rpa_differ (weakE tb) (R5.out.later hW) (S5.out.later hW) (by decide) (by decide) (by decide)
  clear R5 S5 HT5
  go_wp2_with fail
  refine (HLN.out _ (Below.refl _ _)).mono ?_
  rintro e w6 ⟨rfl, b6⟩
  go_wp2_with fail
  refine (HS1.out _ b6).mono ?_
  rintro e w7 ⟨rfl, b7⟩
  have q7 := b6.trans (b7.mono b6.size)
  clear HS1 b6 b7
  go_wp2_with fail
  refine (HS2.out _ q7).mono ?_
  rintro e w8 ⟨rfl, b8⟩
  have q8 := q7.trans (b8.mono q7.size)
  clear HS2 b8 q7
  go_wp2_with fail
  refine (HLN.out _ q8).mono ?_
  rintro e w9 ⟨rfl, b9⟩
  have q9 := q8.trans (b9.mono q8.size)
  clear HLN b9 q8
  go_wp2_with fail
  refine (HE3.out _ q9).mono ?_
  rintro e w10 ⟨rfl, b10⟩
  have q10 := q9.trans (b10.mono q9.size)
  clear HE3 b10 q9
  go_wp2_with fail
  refine (HE2.out _ q10).mono ?_
  rintro e w11 ⟨rfl, b11⟩
  have q11 := q10.trans (b11.mono q10.size)
  clear HE2 b11 q10
  go_wp2_with fail
  refine (HSM.out _ q11).mono ?_
  rintro e w12 ⟨rfl, b12⟩
  have q12 := q11.trans (b12.mono q11.size)
  clear HSM b12 q11
  go_wp2
  go_ret
  exact ⟨rfl, g5.trans (q12.mono g5.size)⟩
end Go.Proofs.YtfgefdkkjfjjjaaDoor
