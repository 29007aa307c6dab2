/- The library's utf8.ValidString and RuneLen, laid here; what is valid is what the reference calls so. -/
import Derived.Test.YtafhogfbjklboaaDoorTxt
import Derived.Shelf.Lay
import Derived.Ground.NamesProg
import Derived.Shelf.Unicode.ValidAny
import Derived.Shelf.Small.Utf8
import Derived.Lib.LaidU8T
namespace Go.Proofs.YtafhogfbjklboaaDoor
open Go.Shelf Go.RowKit Go.Lib Go.Sort
set_option linter.unusedSimpArgs false
set_option linter.unusedVariables false
shelf_lay Lays.n196 Nm 196 at Tryd as Tryd.laysVs
shelf_lay Lays.n118 Nm 118 at Tryd as Tryd.laysRl

theorem decodeL_enc {c : Int} (h : scalar c) (t : List UInt8) : Lib.decodeL (enc c ++ t) = (c.toNat, (enc c).length) := by
  unfold Lib.decodeL
  exact decode_enc ⟨(enc c ++ t).toArray⟩ 0 c h t rfl
theorem enc_len16 {c : Int} (h : scalar c) : ((enc c).length : Int) = Lib.runeLen c := by
  unfold scalar at h
  unfold enc Lib.encodeRune Lib.runeLen
  rw [List.length_map]
  by_cases h1 : c ≤ 127
  · rw [Lib.encodeRuneZ_one (by omega) h1, if_neg (by omega), if_pos h1]; rfl
  by_cases h2 : c ≤ 2047
  · rw [Lib.encodeRuneZ_two (by omega) h2, if_neg (by omega), if_neg h1, if_pos h2]; rfl
  by_cases h3 : c ≤ 65535
  · rw [Lib.encodeRuneZ_three (by omega), if_neg (by omega), if_neg h1, if_neg h2, if_neg (by omega), if_pos h3]; rfl
  · rw [Lib.encodeRuneZ_four (by omega) (by omega), if_neg (by omega), if_neg h1, if_neg h2, if_neg (by omega), if_neg h3, if_pos (by omega)]; rfl
theorem enc_bad16 : (enc 65533).length = 3 := by decide
theorem enc_surr {c : Int} (h0 : 0 ≤ c) (h1 : c ≤ 1114111) (h : ¬ scalar c) : enc c = enc 65533 := by
  unfold scalar at h
  unfold enc Lib.encodeRune
  rw [Lib.encodeRuneZ_bad (by omega)]
  decide
theorem validD_vld : ∀ (n : Nat) (l : List UInt8), l.length ≤ n → Lib.validD l = vld l
  | 0, l, hl => by
    obtain rfl : l = [] := List.eq_nil_of_length_eq_zero (by omega)
    rfl
  | n + 1, l, hl => by
    by_cases hne : l = []
    · subst hne; rfl
    rw [Lib.validD_step l hne]
    split
    · rename_i hb
      by_cases hz : sz1 l = 0
      · rw [vld_bad hne hz]
      · exfalso
        obtain ⟨h1, h2, h3⟩ := sz1_split hz
        have e : Lib.decodeL l = ((dec1 l).toNat, (enc (dec1 l)).length) := by
          conv => lhs; rw [h2]
          exact decodeL_enc h1 _
        rw [e] at hb
        obtain ⟨b1, b2⟩ := hb
        simp only at b1 b2
        have e2 : dec1 l = 65533 := by unfold scalar at h1; omega
        rw [e2, enc_bad16] at b2
        omega
    · rename_i hb
      have he := Lib.encode_decode l hne hb
      have hle := Lib.decodeL_le l hne
      have hw := Lib.decodeL_width l
      have hr := Lib.decodeL_rune l
      obtain ⟨k, hk⟩ : ∃ k, (Lib.decodeL l).2 = k := ⟨_, rfl⟩
      obtain ⟨c, hc⟩ : ∃ c, (Lib.decodeL l).1 = c := ⟨_, rfl⟩
      rw [hk] at he hle hw
      rw [hc] at he hr
      have hsp : l = enc (c : Int) ++ l.drop k := by
        have : enc (c : Int) = l.take k := he
        rw [this, List.take_append_drop]
      have ih := validD_vld n (l.drop k) (by rw [List.length_drop]; omega)
      rw [hk, ih]
      by_cases hs : scalar (c : Int)
      · conv => rhs; rw [hsp]
        rw [vld_enc hs]
      · exfalso
        have e1 := enc_surr (by omega) (by omega) hs
        rw [e1] at hsp
        have e2 := decodeL_enc scalar_bad (l.drop k)
        rw [← hsp] at e2
        have : c = 65533 := by rw [← hc, e2]; rfl
        exact hs (by rw [this]; exact scalar_bad)
/-- The library's tables, as its text lays them. -/
def UT (w : World) : Prop := Lib.Utf8Tabs 0 1 w
theorem UT.later {w w' : World} (h : UT w) (hb : Below w.heap.size w w') : UT w' := Utf8Tabs_below h hb
theorem valid16 (s : ByteArray) (w : World) (hs : s.size ≤ maxLen) (hU : UT w) :
    Calls Tryd.prog 38 #[.string s] w fun e w' => e = .returned (.bool (vld s.data.toList)) ∧ Below w.heap.size w w' := by
  have h := Any.utf8_ValidString Tryd.laysVs s w (by unfold maxLen at hs; omega) hU
  rw [validD_vld _ _ (Nat.le_refl _)] at h
  exact h
theorem rlen16 {c : Int} (h : scalar c) (w : World) :
    Calls Tryd.prog 39 #[.int .i32 c] w fun e w' => e = .returned (.int .i64 ((enc c).length : Nat)) ∧ w' = w := by
  rw [enc_len16 h]
  exact Any.utf8_RuneLen Tryd.laysRl c w
end Go.Proofs.YtafhogfbjklboaaDoor
