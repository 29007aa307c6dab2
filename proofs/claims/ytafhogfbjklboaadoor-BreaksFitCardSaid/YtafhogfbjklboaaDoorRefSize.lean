/- Masks and joins on ints, as arithmetic. The reference's Size, walked: it answers what utf.Size answers. -/
import Derived.Laws.BitsLemmas
import Derived.Test.YtafhogfbjklboaaDoorTxt
namespace Go.Proofs.YtafhogfbjklboaaDoor

theorem wraps_i64 (n : Int) (h₀ : 0 ≤ n) (h₁ : n < 2 ^ 62) : IntKind.i64.wrap n = n := by rw [IntKind.wrap_i64]; omega
theorem i64_and63 (x : Int) (h₀ : 0 ≤ x) (h₁ : x < 4611686018427387904) : bits .and .i64 x 63 = x % 64 := bits_mask .i64 62 (by decide) wraps_i64 6 (by decide) x h₀ h₁
theorem i64_and31 (x : Int) (h₀ : 0 ≤ x) (h₁ : x < 4611686018427387904) : bits .and .i64 x 31 = x % 32 := bits_mask .i64 62 (by decide) wraps_i64 5 (by decide) x h₀ h₁
theorem i64_and15 (x : Int) (h₀ : 0 ≤ x) (h₁ : x < 4611686018427387904) : bits .and .i64 x 15 = x % 16 := bits_mask .i64 62 (by decide) wraps_i64 4 (by decide) x h₀ h₁
theorem i64_and7 (x : Int) (h₀ : 0 ≤ x) (h₁ : x < 4611686018427387904) : bits .and .i64 x 7 = x % 8 := bits_mask .i64 62 (by decide) wraps_i64 3 (by decide) x h₀ h₁
theorem i64_or6 (x y : Int) (hx₀ : 0 ≤ x) (hx : x % 64 = 0) (hx₁ : x < 4611686018427387904) (h₀ : 0 ≤ y) (h₁ : y < 64) : bits .or .i64 x y = x + y :=
  bits_join .i64 62 (by decide) wraps_i64 6 x y hx₀ hx hx₁ h₀ h₁ (by omega)
theorem i64_or192 (y : Int) (h₀ : 0 ≤ y) (h₁ : y < 32) : bits .or .i64 192 y = 192 + y :=
  bits_join .i64 62 (by decide) wraps_i64 5 192 y (by decide) (by decide) (by decide) h₀ h₁ (by omega)
theorem i64_or224 (y : Int) (h₀ : 0 ≤ y) (h₁ : y < 16) : bits .or .i64 224 y = 224 + y :=
  bits_join .i64 62 (by decide) wraps_i64 4 224 y (by decide) (by decide) (by decide) h₀ h₁ (by omega)
theorem i64_or240 (y : Int) (h₀ : 0 ≤ y) (h₁ : y < 8) : bits .or .i64 240 y = 240 + y :=
  bits_join .i64 62 (by decide) wraps_i64 3 240 y (by decide) (by decide) (by decide) h₀ h₁ (by omega)
end Go.Proofs.YtafhogfbjklboaaDoor
namespace Go.Proofs.YtafhogfbjklboaaDoor
open Go.RowKit Go.Sort

theorem sz_zero_of {m b0 b1 b2 b3 : Int} (h : ¬ 0 < szI m b0 b1 b2 b3) : szI m b0 b1 b2 b3 = 0 := by
  have := szI_nonneg m b0 b1 b2 b3
  omega
theorem two_good {m b0 b1 b2 b3 : Int} (h : 192 ≤ b0 ∧ b0 < 224) (hm : 2 ≤ m) (h1 : b1 / 64 = 2) (hv : 128 ≤ b0 % 32 * 64 + b1 % 64) : szI m b0 b1 b2 b3 = 2 :=
  szI_two hm (by omega) (by omega) (by omega) (by omega)
theorem two_bad {m b0 b1 b2 b3 : Int} (h : 192 ≤ b0 ∧ b0 < 224) (hb : ¬ (2 ≤ m ∧ b1 / 64 = 2 ∧ 128 ≤ b0 % 32 * 64 + b1 % 64)) : szI m b0 b1 b2 b3 = 0 := by
  apply sz_zero_of
  intro hp
  rcases szI_cases (by omega) hp with ⟨_, hm, g⟩ | ⟨_, hm, g⟩ | ⟨_, hm, g2, g⟩ | ⟨_, hm, g2, g3, g⟩ <;> omega
theorem three_good {m b0 b1 b2 b3 : Int} (h : 224 ≤ b0 ∧ b0 < 240) (hm : 3 ≤ m) (h1 : b1 / 64 = 2) (h2 : b2 / 64 = 2) (hv : 2048 ≤ (b0 % 16 * 64 + b1 % 64) * 64 + b2 % 64) (hs : (b0 % 16 * 64 + b1 % 64) * 64 + b2 % 64 < 55296 ∨ 57344 ≤ (b0 % 16 * 64 + b1 % 64) * 64 + b2 % 64) : szI m b0 b1 b2 b3 = 3 :=
  szI_three hm (by omega) (by omega)
theorem three_bad {m b0 b1 b2 b3 : Int} (h : 224 ≤ b0 ∧ b0 < 240) (hb : ¬ (3 ≤ m ∧ b1 / 64 = 2 ∧ b2 / 64 = 2 ∧ 2048 ≤ (b0 % 16 * 64 + b1 % 64) * 64 + b2 % 64 ∧ ((b0 % 16 * 64 + b1 % 64) * 64 + b2 % 64 < 55296 ∨ 57344 ≤ (b0 % 16 * 64 + b1 % 64) * 64 + b2 % 64))) : szI m b0 b1 b2 b3 = 0 := by
  apply sz_zero_of
  intro hp
  rcases szI_cases (by omega) hp with ⟨_, hm, g⟩ | ⟨_, hm, g⟩ | ⟨_, hm, g2, g⟩ | ⟨_, hm, g2, g3, g⟩ <;> omega
theorem four_good {m b0 b1 b2 b3 : Int} (h : 240 ≤ b0 ∧ b0 < 248) (hm : 4 ≤ m) (h1 : b1 / 64 = 2) (h2 : b2 / 64 = 2) (h3 : b3 / 64 = 2) (hv : 65536 ≤ ((b0 % 8 * 64 + b1 % 64) * 64 + b2 % 64) * 64 + b3 % 64) (hs : ((b0 % 8 * 64 + b1 % 64) * 64 + b2 % 64) * 64 + b3 % 64 ≤ 1114111) : szI m b0 b1 b2 b3 = 4 :=
  szI_four hm (by omega) (by omega) (by omega)
theorem four_bad {m b0 b1 b2 b3 : Int} (h : 240 ≤ b0 ∧ b0 < 248) (hb : ¬ (4 ≤ m ∧ b1 / 64 = 2 ∧ b2 / 64 = 2 ∧ b3 / 64 = 2 ∧ 65536 ≤ ((b0 % 8 * 64 + b1 % 64) * 64 + b2 % 64) * 64 + b3 % 64 ∧ ((b0 % 8 * 64 + b1 % 64) * 64 + b2 % 64) * 64 + b3 % 64 ≤ 1114111)) : szI m b0 b1 b2 b3 = 0 := by
  apply sz_zero_of
  intro hp
  rcases szI_cases (by omega) hp with ⟨_, hm, g⟩ | ⟨_, hm, g⟩ | ⟨_, hm, g2, g⟩ | ⟨_, hm, g2, g3, g⟩ <;> omega
theorem none_bad {m b0 b1 b2 b3 : Int} (h : (128 ≤ b0 ∧ b0 < 192) ∨ 248 ≤ b0) : szI m b0 b1 b2 b3 = 0 := by
  apply sz_zero_of
  intro hp
  rcases szI_cases (by omega) hp with ⟨_, hm, g⟩ | ⟨_, hm, g⟩ | ⟨_, hm, g2, g⟩ | ⟨_, hm, g2, g3, g⟩ <;> omega

theorem szN_in (s : ByteArray) (i : Nat) (h : i < s.size) : szN s i = szI ((s.size : Int) - i) (byt s i) (byt s (i + 1)) (byt s (i + 2)) (byt s (i + 3)) := by unfold szN; rw [if_pos h]
theorem byte_range (s : ByteArray) (i : Nat) (h : i < s.size) : 0 ≤ ((s[i]'h).toNat : Int) ∧ ((s[i]'h).toNat : Int) < 256 := by
  rw [← byt_of s i h]; exact byt_range s i

set_option maxHeartbeats 1000000 in
set_option maxRecDepth 100000 in
theorem refsize_one (s : ByteArray) (i : Nat) (w : World) (hi : i < s.size) (hb : byt s i < 128) :
    Calls Tryd.prog 25 #[.string s, .int .i64 i] w fun e w' => e = .returned (.int .i64 (szN s i)) ∧ w' = w := by
  rw [szN_in s i hi, szI_one (by omega) (by omega)]
  rw [byt_of s i hi] at hb
  have hr := byte_range s i hi
  have hiI : (i : Int) < s.size := by omega
  go_enter Tryd.func25, Tryd.ntmps25
  go_wp2
  go_ret
  exact ⟨rfl, rfl⟩

set_option maxHeartbeats 1000000 in
set_option maxRecDepth 100000 in
theorem refsize_none (s : ByteArray) (i : Nat) (w : World) (hi : i < s.size) (hb : (128 ≤ byt s i ∧ byt s i < 192) ∨ 248 ≤ byt s i) :
    Calls Tryd.prog 25 #[.string s, .int .i64 i] w fun e w' => e = .returned (.int .i64 (szN s i)) ∧ w' = w := by
  rw [szN_in s i hi, none_bad hb]
  rw [byt_of s i hi] at hb
  have hr := byte_range s i hi
  have hiI : (i : Int) < s.size := by omega
  rcases hb with ⟨hb, hb'⟩ | hb
  all_goals
    go_enter Tryd.func25, Tryd.ntmps25
    go_wp2
    go_ret
    exact ⟨rfl, rfl⟩

set_option maxHeartbeats 2000000 in
set_option maxRecDepth 100000 in
theorem refsize_short (s : ByteArray) (i n : Nat) (w : World) (hs : s.size ≤ maxLen) (hi : i < s.size) (h0 : (n = 2 ∧ 192 ≤ byt s i ∧ byt s i < 224) ∨ (n = 3 ∧ 224 ≤ byt s i ∧ byt s i < 240) ∨ (n = 4 ∧ 240 ≤ byt s i ∧ byt s i < 248)) (hm : (s.size : Int) - i < n) :
    Calls Tryd.prog 25 #[.string s, .int .i64 i] w fun e w' => e = .returned (.int .i64 (szN s i)) ∧ w' = w := by
  have hz : szN s i = 0 := by
    rw [szN_in s i hi]
    rcases h0 with ⟨rfl, h0⟩ | ⟨rfl, h0⟩ | ⟨rfl, h0⟩
    · exact two_bad h0 (by omega)
    · exact three_bad h0 (by omega)
    · exact four_bad h0 (by omega)
  rw [hz]
  clear hz
  have r0 := byte_range s i hi
  rw [byt_of s i hi] at h0
  unfold maxLen at hs
  have hiI : (i : Int) < s.size := by omega
  have a1 := i64_and31 (s[i].toNat : Int) (by omega) (by omega)
  have a2 := i64_and15 (s[i].toNat : Int) (by omega) (by omega)
  have a3 := i64_and7 (s[i].toNat : Int) (by omega) (by omega)
  rcases h0 with ⟨rfl, h0, h0'⟩ | ⟨rfl, h0, h0'⟩ | ⟨rfl, h0, h0'⟩
  all_goals
    go_enter Tryd.func25, Tryd.ntmps25
    go_wp2
    go_ret
    exact ⟨rfl, rfl⟩

set_option maxHeartbeats 2000000 in
set_option maxRecDepth 100000 in
theorem refsize_two (s : ByteArray) (i : Nat) (w : World) (hs : s.size ≤ maxLen) (hi : i < s.size) (h0 : 192 ≤ byt s i ∧ byt s i < 224) (hm : 2 ≤ (s.size : Int) - i) :
    Calls Tryd.prog 25 #[.string s, .int .i64 i] w fun e w' => e = .returned (.int .i64 (szN s i)) ∧ w' = w := by
  have hz := szN_in s i hi
  have hi1 : i + 1 < s.size := by omega
  have HG : Hid (byt s (i + 1) / 64 = 2 → 128 ≤ byt s i % 32 * 64 + byt s (i + 1) % 64 → szN s i = 2) := fun a b => hz.trans (two_good h0 hm a b)
  have HB : Hid (¬ (byt s (i + 1) / 64 = 2 ∧ 128 ≤ byt s i % 32 * 64 + byt s (i + 1) % 64) → szN s i = 0) := fun a => hz.trans (two_bad h0 (by omega))
  have r1 := byte_range s (i + 1) hi1
  have r0 := byte_range s i hi
  rw [byt_of s i hi] at h0 HG HB
  rw [byt_of s (i + 1) hi1] at HG HB
  clear hz
  unfold maxLen at hs
  have hiI : (i : Int) < s.size := by omega
  have hiI1 : (i : Int) + 1 < s.size := by omega
  have a0 := i64_and31 (s[i].toNat : Int) (by omega) (by omega)
  have a1 := i64_and63 (s[i + 1].toNat : Int) (by omega) (by omega)
  have o1 := i64_or6 ((s[i].toNat : Int) % 32 * 64) ((s[i + 1].toNat : Int) % 64) (by omega) (by omega) (by omega) (by omega) (by omega)
  have d0 : decide ((i : Int) < 0) = false := by simp
  have d1 : decide (s.size ≤ i) = false := by simp; omega
  have d2 : decide ((s[i].toNat : Int) < 128) = false := by simp; omega
  have d3 : decide ((s.size : Int) - i < 2) = false := by simp; omega
  go_enter Tryd.func25, Tryd.ntmps25
  go_wp2
  go_loop [9, 7] (fun j v => (j = .int .i64 1 ∧ v = .int .i64 ((s[i].toNat : Int) % 32)) ∨ (j = .int .i64 2 ∧ ∃ V : Int, v = .int .i64 V ∧ 0 ≤ V ∧ V ≤ 2047 ∧ Hid (V = (s[i].toNat : Int) % 32 * 64 + (s[i + 1].toNat : Int) % 64) ∧ Hid ((s[i + 1].toNat : Int) / 64 = 2))) (fun j _ => 4 - (intOf j).toNat)
  case atStart => exact Or.inl ⟨rfl, rfl⟩
  case round =>
    rcases hrel with ⟨rfl, rfl⟩ | ⟨rfl, V, rfl, v0, v1, HV, H1⟩
    · by_cases hq : (s[i + 1].toNat : Int) / 64 = 2
      · have hq' : ((s[i + 1].toNat : Int) / 64 != 2) = false := by simp [hq]
        have HQ : Hid ((s[i + 1].toNat : Int) / 64 = 2) := hq
        clear hq
        go_wp2
        go_round
        case rel => exact Or.inr ⟨rfl, _, rfl, by omega, by omega, rfl, HQ⟩
        case measure => simp [intOf]
      · have hq' : ((s[i + 1].toNat : Int) / 64 != 2) = true := by simp [hq]
        go_wp2
        go_ret
        exact ⟨ret_int (HB.out (by omega)).symm, rfl⟩
    · clear a0 a1 o1
      by_cases hv : V < 128
      · go_wp2
        go_ret
        have e := HV.out
        exact ⟨ret_int (HB.out (by omega)).symm, rfl⟩
      · have hv' : decide (V < 128) = false := by simpa using hv
        go_wp2
        go_ret
        have e := HV.out
        exact ⟨ret_int (HG.out H1.out (by omega)).symm, rfl⟩

set_option maxHeartbeats 2000000 in
set_option maxRecDepth 100000 in
theorem refsize_three (s : ByteArray) (i : Nat) (w : World) (hs : s.size ≤ maxLen) (hi : i < s.size) (h0 : 224 ≤ byt s i ∧ byt s i < 240) (hm : 3 ≤ (s.size : Int) - i) :
    Calls Tryd.prog 25 #[.string s, .int .i64 i] w fun e w' => e = .returned (.int .i64 (szN s i)) ∧ w' = w := by
  have hz := szN_in s i hi
  have hi1 : i + 1 < s.size := by omega
  have hi2 : i + 2 < s.size := by omega
  have HG : Hid (byt s (i + 1) / 64 = 2 → byt s (i + 2) / 64 = 2 → 2048 ≤ (byt s i % 16 * 64 + byt s (i + 1) % 64) * 64 + byt s (i + 2) % 64 → ((byt s i % 16 * 64 + byt s (i + 1) % 64) * 64 + byt s (i + 2) % 64 < 55296 ∨ 57344 ≤ (byt s i % 16 * 64 + byt s (i + 1) % 64) * 64 + byt s (i + 2) % 64) → szN s i = 3) := fun a b c d => hz.trans (three_good h0 hm a b c d)
  have HB : Hid (¬ (byt s (i + 1) / 64 = 2 ∧ byt s (i + 2) / 64 = 2 ∧ 2048 ≤ (byt s i % 16 * 64 + byt s (i + 1) % 64) * 64 + byt s (i + 2) % 64 ∧ ((byt s i % 16 * 64 + byt s (i + 1) % 64) * 64 + byt s (i + 2) % 64 < 55296 ∨ 57344 ≤ (byt s i % 16 * 64 + byt s (i + 1) % 64) * 64 + byt s (i + 2) % 64)) → szN s i = 0) := fun a => hz.trans (three_bad h0 (fun h => a h.2))
  have r2 := byte_range s (i + 2) hi2
  have r1 := byte_range s (i + 1) hi1
  have r0 := byte_range s i hi
  rw [byt_of s i hi] at h0 HG HB
  rw [byt_of s (i + 1) hi1, byt_of s (i + 2) hi2] at HG HB
  clear hz
  unfold maxLen at hs
  have hiI : (i : Int) < s.size := by omega
  have hiI1 : (i : Int) + 1 < s.size := by omega
  have hiI2 : (i : Int) + 2 < s.size := by omega
  have a0 := i64_and15 (s[i].toNat : Int) (by omega) (by omega)
  have a1 := i64_and63 (s[i + 1].toNat : Int) (by omega) (by omega)
  have a2 := i64_and63 (s[i + 2].toNat : Int) (by omega) (by omega)
  have o1 := i64_or6 ((s[i].toNat : Int) % 16 * 64) ((s[i + 1].toNat : Int) % 64) (by omega) (by omega) (by omega) (by omega) (by omega)
  have d0 : decide ((i : Int) < 0) = false := by simp
  have d1 : decide (s.size ≤ i) = false := by simp; omega
  have d2 : decide ((s[i].toNat : Int) < 128) = false := by simp; omega
  have d4 : decide ((s[i].toNat : Int) < 224) = false := by simp; omega
  have d3 : decide ((s.size : Int) - i < 3) = false := by simp; omega
  go_enter Tryd.func25, Tryd.ntmps25
  go_wp2
  go_loop [9, 7] (fun j v => (j = .int .i64 1 ∧ v = .int .i64 ((s[i].toNat : Int) % 16)) ∨ (j = .int .i64 2 ∧ ∃ V : Int, v = .int .i64 V ∧ 0 ≤ V ∧ V ≤ 1023 ∧ Hid (V = (s[i].toNat : Int) % 16 * 64 + (s[i + 1].toNat : Int) % 64) ∧ Hid ((s[i + 1].toNat : Int) / 64 = 2)) ∨
      (j = .int .i64 3 ∧ ∃ V : Int, v = .int .i64 V ∧ 0 ≤ V ∧ V ≤ 65535 ∧ Hid (V = ((s[i].toNat : Int) % 16 * 64 + (s[i + 1].toNat : Int) % 64) * 64 + (s[i + 2].toNat : Int) % 64) ∧ Hid ((s[i + 1].toNat : Int) / 64 = 2) ∧ Hid ((s[i + 2].toNat : Int) / 64 = 2))) (fun j _ => 4 - (intOf j).toNat)
  case atStart => exact Or.inl ⟨rfl, rfl⟩
  case round =>
    rcases hrel with ⟨rfl, rfl⟩ | ⟨rfl, V, rfl, v0, v1, HV, H1⟩ | ⟨rfl, V, rfl, v0, v1, HV, H1, H2⟩
    · by_cases hq : (s[i + 1].toNat : Int) / 64 = 2
      · have hq' : ((s[i + 1].toNat : Int) / 64 != 2) = false := by simp [hq]
        have HQ : Hid ((s[i + 1].toNat : Int) / 64 = 2) := hq
        clear hq
        go_wp2
        go_round
        case rel => exact Or.inr (Or.inl ⟨rfl, _, rfl, by omega, by omega, rfl, HQ⟩)
        case measure => simp [intOf]
      · have hq' : ((s[i + 1].toNat : Int) / 64 != 2) = true := by simp [hq]
        go_wp2
        go_ret
        exact ⟨ret_int (HB.out (fun h => hq h.1)).symm, rfl⟩
    · have o2 := i64_or6 (V * 64) ((s[i + 2].toNat : Int) % 64) (by omega) (by omega) (by omega) (by omega) (by omega)
      clear a0 a1 o1
      by_cases hq : (s[i + 2].toNat : Int) / 64 = 2
      · have hq' : ((s[i + 2].toNat : Int) / 64 != 2) = false := by simp [hq]
        have HQ : Hid ((s[i + 2].toNat : Int) / 64 = 2) := hq
        clear hq
        go_wp2
        go_round
        case rel =>
          have e := HV.out
          exact Or.inr (Or.inr ⟨rfl, _, rfl, by omega, by omega, by show _ = _; omega, H1, HQ⟩)
        case measure => simp [intOf]
      · have hq' : ((s[i + 2].toNat : Int) / 64 != 2) = true := by simp [hq]
        go_wp2
        go_ret
        exact ⟨ret_int (HB.out (fun h => hq h.2.1)).symm, rfl⟩
    · clear a0 a1 a2 o1
      have key : (V < 2048 ∧ Hid (szN s i = 0)) ∨ ((2048 ≤ V ∧ V < 55296) ∧ Hid (szN s i = 3)) ∨ ((55296 ≤ V ∧ V < 57344) ∧ Hid (szN s i = 0)) ∨ (57344 ≤ V ∧ Hid (szN s i = 3)) := by
        have e := HV.out
        rw [e]
        by_cases q1 : V < 2048
        · exact Or.inl ⟨by omega, HB.out (fun h => by have := h.2.2.1; omega)⟩
        · by_cases q2 : V < 55296
          · exact Or.inr (Or.inl ⟨by omega, HG.out H1.out H2.out (by omega) (Or.inl (by omega))⟩)
          · by_cases q3 : V < 57344
            · exact Or.inr (Or.inr (Or.inl ⟨by omega, HB.out (fun h => by rcases h.2.2.2 with g | g <;> omega)⟩))
            · exact Or.inr (Or.inr (Or.inr ⟨by omega, HG.out H1.out H2.out (by omega) (Or.inr (by omega))⟩))
      clear HG HB HV H1 H2
      rcases key with ⟨q, HR⟩ | ⟨q, HR⟩ | ⟨q, HR⟩ | ⟨q, HR⟩
      all_goals
        go_wp2
        go_ret
        exact ⟨ret_int HR.out.symm, rfl⟩

set_option maxHeartbeats 2000000 in
set_option maxRecDepth 100000 in
theorem refsize_four (s : ByteArray) (i : Nat) (w : World) (hs : s.size ≤ maxLen) (hi : i < s.size) (h0 : 240 ≤ byt s i ∧ byt s i < 248) (hm : 4 ≤ (s.size : Int) - i) :
    Calls Tryd.prog 25 #[.string s, .int .i64 i] w fun e w' => e = .returned (.int .i64 (szN s i)) ∧ w' = w := by
  have hz := szN_in s i hi
  have hi1 : i + 1 < s.size := by omega
  have hi2 : i + 2 < s.size := by omega
  have hi3 : i + 3 < s.size := by omega
  have HG : Hid (byt s (i + 1) / 64 = 2 → byt s (i + 2) / 64 = 2 → byt s (i + 3) / 64 = 2 → 65536 ≤ ((byt s i % 8 * 64 + byt s (i + 1) % 64) * 64 + byt s (i + 2) % 64) * 64 + byt s (i + 3) % 64 → ((byt s i % 8 * 64 + byt s (i + 1) % 64) * 64 + byt s (i + 2) % 64) * 64 + byt s (i + 3) % 64 ≤ 1114111 → szN s i = 4) := fun a b c d e => hz.trans (four_good h0 hm a b c d e)
  have HB : Hid (¬ (byt s (i + 1) / 64 = 2 ∧ byt s (i + 2) / 64 = 2 ∧ byt s (i + 3) / 64 = 2 ∧ 65536 ≤ ((byt s i % 8 * 64 + byt s (i + 1) % 64) * 64 + byt s (i + 2) % 64) * 64 + byt s (i + 3) % 64 ∧ ((byt s i % 8 * 64 + byt s (i + 1) % 64) * 64 + byt s (i + 2) % 64) * 64 + byt s (i + 3) % 64 ≤ 1114111) → szN s i = 0) := fun a => hz.trans (four_bad h0 (fun h => a h.2))
  have r3 := byte_range s (i + 3) hi3
  have r2 := byte_range s (i + 2) hi2
  have r1 := byte_range s (i + 1) hi1
  have r0 := byte_range s i hi
  rw [byt_of s i hi] at h0 HG HB
  rw [byt_of s (i + 1) hi1, byt_of s (i + 2) hi2, byt_of s (i + 3) hi3] at HG HB
  clear hz
  unfold maxLen at hs
  have hiI : (i : Int) < s.size := by omega
  have hiI1 : (i : Int) + 1 < s.size := by omega
  have hiI2 : (i : Int) + 2 < s.size := by omega
  have hiI3 : (i : Int) + 3 < s.size := by omega
  have a0 := i64_and7 (s[i].toNat : Int) (by omega) (by omega)
  have a1 := i64_and63 (s[i + 1].toNat : Int) (by omega) (by omega)
  have a2 := i64_and63 (s[i + 2].toNat : Int) (by omega) (by omega)
  have a3 := i64_and63 (s[i + 3].toNat : Int) (by omega) (by omega)
  have o1 := i64_or6 ((s[i].toNat : Int) % 8 * 64) ((s[i + 1].toNat : Int) % 64) (by omega) (by omega) (by omega) (by omega) (by omega)
  have d0 : decide ((i : Int) < 0) = false := by simp
  have d1 : decide (s.size ≤ i) = false := by simp; omega
  have d2 : decide ((s[i].toNat : Int) < 128) = false := by simp; omega
  have d4 : decide ((s[i].toNat : Int) < 224) = false := by simp; omega
  have d5 : decide ((s[i].toNat : Int) < 240) = false := by simp; omega
  have d3 : decide ((s.size : Int) - i < 4) = false := by simp; omega
  go_enter Tryd.func25, Tryd.ntmps25
  go_wp2
  go_loop [9, 7] (fun j v => (j = .int .i64 1 ∧ v = .int .i64 ((s[i].toNat : Int) % 8)) ∨ (j = .int .i64 2 ∧ ∃ V : Int, v = .int .i64 V ∧ 0 ≤ V ∧ V ≤ 511 ∧ Hid (V = (s[i].toNat : Int) % 8 * 64 + (s[i + 1].toNat : Int) % 64) ∧ Hid ((s[i + 1].toNat : Int) / 64 = 2)) ∨
      (j = .int .i64 3 ∧ ∃ V : Int, v = .int .i64 V ∧ 0 ≤ V ∧ V ≤ 32767 ∧ Hid (V = ((s[i].toNat : Int) % 8 * 64 + (s[i + 1].toNat : Int) % 64) * 64 + (s[i + 2].toNat : Int) % 64) ∧ Hid ((s[i + 1].toNat : Int) / 64 = 2) ∧ Hid ((s[i + 2].toNat : Int) / 64 = 2)) ∨
      (j = .int .i64 4 ∧ ∃ V : Int, v = .int .i64 V ∧ 0 ≤ V ∧ V ≤ 2097151 ∧ Hid (V = (((s[i].toNat : Int) % 8 * 64 + (s[i + 1].toNat : Int) % 64) * 64 + (s[i + 2].toNat : Int) % 64) * 64 + (s[i + 3].toNat : Int) % 64) ∧ Hid ((s[i + 1].toNat : Int) / 64 = 2) ∧ Hid ((s[i + 2].toNat : Int) / 64 = 2) ∧ Hid ((s[i + 3].toNat : Int) / 64 = 2))) (fun j _ => 4 - (intOf j).toNat)
  case atStart => exact Or.inl ⟨rfl, rfl⟩
  case round =>
    rcases hrel with ⟨rfl, rfl⟩ | ⟨rfl, V, rfl, v0, v1, HV, H1⟩ | ⟨rfl, V, rfl, v0, v1, HV, H1, H2⟩ | ⟨rfl, V, rfl, v0, v1, HV, H1, H2, H3⟩
    · by_cases hq : (s[i + 1].toNat : Int) / 64 = 2
      · have hq' : ((s[i + 1].toNat : Int) / 64 != 2) = false := by simp [hq]
        have HQ : Hid ((s[i + 1].toNat : Int) / 64 = 2) := hq
        clear hq
        go_wp2
        go_round
        case rel => exact Or.inr (Or.inl ⟨rfl, _, rfl, by omega, by omega, rfl, HQ⟩)
        case measure => simp [intOf]
      · have hq' : ((s[i + 1].toNat : Int) / 64 != 2) = true := by simp [hq]
        go_wp2
        go_ret
        exact ⟨ret_int (HB.out (fun h => hq h.1)).symm, rfl⟩
    · have o2 := i64_or6 (V * 64) ((s[i + 2].toNat : Int) % 64) (by omega) (by omega) (by omega) (by omega) (by omega)
      clear a0 a1 a3 o1
      by_cases hq : (s[i + 2].toNat : Int) / 64 = 2
      · have hq' : ((s[i + 2].toNat : Int) / 64 != 2) = false := by simp [hq]
        have HQ : Hid ((s[i + 2].toNat : Int) / 64 = 2) := hq
        clear hq
        go_wp2
        go_round
        case rel =>
          have e := HV.out
          exact Or.inr (Or.inr (Or.inl ⟨rfl, _, rfl, by omega, by omega, by show _ = _; omega, H1, HQ⟩))
        case measure => simp [intOf]
      · have hq' : ((s[i + 2].toNat : Int) / 64 != 2) = true := by simp [hq]
        go_wp2
        go_ret
        exact ⟨ret_int (HB.out (fun h => hq h.2.1)).symm, rfl⟩
    · have o2 := i64_or6 (V * 64) ((s[i + 3].toNat : Int) % 64) (by omega) (by omega) (by omega) (by omega) (by omega)
      clear a0 a1 a2 o1
      by_cases hq : (s[i + 3].toNat : Int) / 64 = 2
      · have hq' : ((s[i + 3].toNat : Int) / 64 != 2) = false := by simp [hq]
        have HQ : Hid ((s[i + 3].toNat : Int) / 64 = 2) := hq
        clear hq
        go_wp2
        go_round
        case rel =>
          have e := HV.out
          exact Or.inr (Or.inr (Or.inr ⟨rfl, _, rfl, by omega, by omega, by show _ = _; omega, H1, H2, HQ⟩))
        case measure => simp [intOf]
      · have hq' : ((s[i + 3].toNat : Int) / 64 != 2) = true := by simp [hq]
        go_wp2
        go_ret
        exact ⟨ret_int (HB.out (fun h => hq h.2.2.1)).symm, rfl⟩
    · clear a0 a1 a2 a3 o1
      have key : (V < 65536 ∧ Hid (szN s i = 0)) ∨ ((65536 ≤ V ∧ V ≤ 1114111) ∧ Hid (szN s i = 4)) ∨ (1114111 < V ∧ Hid (szN s i = 0)) := by
        have e := HV.out
        rw [e]
        by_cases q1 : V < 65536
        · exact Or.inl ⟨by omega, HB.out (fun h => by have := h.2.2.2.1; omega)⟩
        · by_cases q2 : V ≤ 1114111
          · exact Or.inr (Or.inl ⟨by omega, HG.out H1.out H2.out H3.out (by omega) (by omega)⟩)
          · exact Or.inr (Or.inr ⟨by omega, HB.out (fun h => by have := h.2.2.2.2; omega)⟩)
      clear HG HB HV H1 H2 H3
      rcases key with ⟨q, HR⟩ | ⟨q, HR⟩ | ⟨q, HR⟩
      all_goals
        go_wp2
        go_ret
        exact ⟨ret_int HR.out.symm, rfl⟩

set_option maxHeartbeats 1000000 in
set_option maxRecDepth 100000 in
theorem refsize_out (s : ByteArray) (a : Int) (w : World) (ho : a < 0 ∨ (s.size : Int) ≤ a) :
    Calls Tryd.prog 25 #[.string s, .int .i64 a] w fun e w' => e = .returned (.int .i64 0) ∧ w' = w := by
  by_cases h : a < 0
  · clear ho
    go_enter Tryd.func25, Tryd.ntmps25
    go_wp2
    go_ret
    exact ⟨rfl, rfl⟩
  · have h' : (s.size : Int) ≤ a := by omega
    clear ho
    go_enter Tryd.func25, Tryd.ntmps25
    go_wp2
    go_ret
    exact ⟨rfl, rfl⟩

theorem refsize_in (s : ByteArray) (i : Nat) (w : World) (hs : s.size ≤ maxLen) (hi : i < s.size) :
    Calls Tryd.prog 25 #[.string s, .int .i64 i] w fun e w' => e = .returned (.int .i64 (szN s i)) ∧ w' = w := by
  have hr := byt_range s i
  by_cases h1 : byt s i < 128
  · exact refsize_one s i w hi h1
  · by_cases h2 : (128 ≤ byt s i ∧ byt s i < 192) ∨ 248 ≤ byt s i
    · exact refsize_none s i w hi h2
    · by_cases h3 : byt s i < 224
      · by_cases hm : 2 ≤ (s.size : Int) - i
        · exact refsize_two s i w hs hi ⟨by omega, h3⟩ hm
        · exact refsize_short s i 2 w hs hi (Or.inl ⟨rfl, by omega, h3⟩) (by omega)
      · by_cases h4 : byt s i < 240
        · by_cases hm : 3 ≤ (s.size : Int) - i
          · exact refsize_three s i w hs hi ⟨by omega, h4⟩ hm
          · exact refsize_short s i 3 w hs hi (Or.inr (Or.inl ⟨rfl, by omega, h4⟩)) (by omega)
        · by_cases hm : 4 ≤ (s.size : Int) - i
          · exact refsize_four s i w hs hi ⟨by omega, by omega⟩ hm
          · exact refsize_short s i 4 w hs hi (Or.inr (Or.inr ⟨rfl, by omega, by omega⟩)) (by omega)

/-- The reference's Size, at every text and number. -/
theorem refsize_any (s : ByteArray) (a : Int) (w : World) (hs : s.size ≤ maxLen) :
    Calls Tryd.prog 25 #[.string s, .int .i64 a] w fun e w' => e = .returned (.int .i64 (szAt s a)) ∧ w' = w := by
  by_cases ho : a < 0 ∨ (s.size : Int) ≤ a
  · have e : szAt s a = 0 := by
      unfold szAt
      split
      · unfold szN; rw [if_neg (by omega)]
      · rfl
    rw [e]
    exact refsize_out s a w ho
  · obtain ⟨i, rfl⟩ : ∃ i : Nat, a = i := ⟨a.toNat, by omega⟩
    rw [szAt_nat]
    exact refsize_in s i w hs (by omega)
end Go.Proofs.YtafhogfbjklboaaDoor
