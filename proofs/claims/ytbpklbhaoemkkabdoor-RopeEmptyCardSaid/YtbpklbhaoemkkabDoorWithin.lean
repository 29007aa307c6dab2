/- sizeWithin, walked: what it answers at every text and row of bounds. -/
import Derived.Test.YtbpklbhaoemkkabDoorRows
import Derived.Test.YtbpklbhaoemkkabDoorMath
import Derived.WalkKit
import Derived.WalkSpells
import Derived.WalkLawsBesides
import Derived.Deep.QuietTactic
import Derived.BigQuiet
namespace Go.Proofs.YtbpklbhaoemkkabDoor
open Go.RowKit

theorem ret_int {k : IntKind} {a b : Int} (h : a = b) : Ending.returned (.int k a) = .returned (.int k b) := by rw [h]

theorem below_ad (w : World) (o : Obj) (m : Nat) : Below w.heap.size w ((w.alloc o).drewN m) :=
  below_drewN ((Below.refl _ _).alloc (Nat.le_refl _) _) m

set_option maxHeartbeats 400000 in
theorem within_loop (s : ByteArray) (r0 r1 r2 r3 lo hi n : Int) (w : World) (hs : s.size ≤ maxLen) (hn : 1 < n) (hn4 : n ≤ 4) (hlen : ¬ (s.size : Int) < n)
    (hb1 : lo ≤ byt s 1 ∧ byt s 1 ≤ hi) :
    Calls Tryd.prog 36 #[.string s, .agg #[.int .i32 r0, .int .i32 r1, .int .u8 r2, .int .u8 r3, .int .u8 lo, .int .u8 hi, .int .i64 n]] w fun e w' => e = .returned (.int .i64 (wi s.size (byt s 1) (byt s 2) (byt s 3) lo hi n)) ∧ Below w.heap.size w w' := by
  unfold maxLen at hs
  have hfin : Hid ((¬ (2 < n ∧ (byt s 2 < 128 ∨ 191 < byt s 2))) → (¬ (3 < n ∧ (byt s 3 < 128 ∨ 191 < byt s 3))) → wi s.size (byt s 1) (byt s 2) (byt s 3) lo hi n = n) :=
    fun h2 h3 => wi_all hlen (fun h => by omega) h2 h3
  have hbad2 : Hid (2 < n → (byt s 2 < 128 ∨ 191 < byt s 2) → wi s.size (byt s 1) (byt s 2) (byt s 3) lo hi n = 0) := fun a b => wi_third hlen a b
  have hbad3 : Hid (3 < n → (byt s 3 < 128 ∨ 191 < byt s 3) → wi s.size (byt s 1) (byt s 2) (byt s 3) lo hi n = 0) := fun a b => wi_fourth hlen a b
  generalize wi s.size (byt s 1) (byt s 2) (byt s 3) lo hi n = R at *
  have hs1 : (1 : Int) < s.size := by omega
  have hs1' : 1 < s.size := by omega
  have e1 := byt_of s 1 hs1'
  rw [e1] at hb1
  clear e1
  obtain ⟨hl, hh⟩ := hb1
  have hl' : ¬ ((s[1].toNat : Int) < lo) := by omega
  have hh' : ¬ (hi < (s[1].toNat : Int)) := by omega
  go_enter Tryd.func36, Tryd.ntmps36
  go_wp2
  go_quiet (fail)
  go_wp2
  go_loopw [5] (fun i wr => ∃ k : Nat, 2 ≤ k ∧ k ≤ 4 ∧ i = .int .i64 k ∧ ((k : Int) ≤ n ∨ k = 2) ∧ (2 < k → 128 ≤ byt s 2 ∧ byt s 2 ≤ 191) ∧ (3 < k → 128 ≤ byt s 3 ∧ byt s 3 ≤ 191) ∧ (∃ m, wr = (w.alloc (Obj.cells #[Value.int IntKind.i32 r0, Value.int IntKind.i32 r1, Value.int IntKind.u8 r2, Value.int IntKind.u8 r3, Value.int IntKind.u8 lo, Value.int IntKind.u8 hi, Value.int IntKind.i64 n] 79)).drewN m)) (fun i _ => 4 - (intOf i).toNat)
  case atStart => exact ⟨2, by omega, by omega, rfl, Or.inr rfl, by omega, by omega, _, rfl⟩
  case round =>
    obtain ⟨k, hk2, hk4, rfl, hkn, h2, h3, m, rfl⟩ := hrel
    by_cases hlt : (k : Int) < n
    · have hks : (k : Int) < s.size := by omega
      have hks' : k < s.size := by omega
      have hB : Hid (((s[k].toNat : Int) < 128 ∨ 191 < (s[k].toNat : Int)) → R = 0) := by
        intro hb
        rw [← byt_of s k hks'] at hb
        have hk : k = 2 ∨ k = 3 := by omega
        rcases hk with rfl | rfl
        · exact hbad2.out (by omega) hb
        · exact hbad3.out (by omega) hb
      have hG : Hid (¬ ((s[k].toNat : Int) < 128 ∨ 191 < (s[k].toNat : Int)) → (2 < k + 1 → 128 ≤ byt s 2 ∧ byt s 2 ≤ 191) ∧ (3 < k + 1 → 128 ≤ byt s 3 ∧ byt s 3 ≤ 191)) := by
        intro hb
        rw [← byt_of s k hks'] at hb
        have hk : k = 2 ∨ k = 3 := by omega
        rcases hk with rfl | rfl
        · exact ⟨fun _ => by omega, fun h => by omega⟩
        · exact ⟨fun _ => h2 (by omega), fun _ => by omega⟩
      clear h2 h3
      go_wp2
      · go_ret
        exact ⟨ret_int (hB.out ‹_›).symm, below_ad _ _ _⟩
      · obtain ⟨g2, g3⟩ := hG.out (by omega)
        exact ⟨⟨k + 1, by omega, by omega, by go_num, Or.inl (by omega), g2, g3, _, rfl⟩, by simp [intOf]; omega⟩
      · go_ret
        exact ⟨ret_int (hB.out (Or.inl ‹_›)).symm, below_ad _ _ _⟩
    · go_wp2
      go_ret
      exact ⟨ret_int (hfin.out (fun h => by have := h2 (by omega); omega) (fun h => by have := h3 (by omega); omega)).symm, below_ad _ _ _⟩

set_option maxHeartbeats 400000 in
theorem within_one (s : ByteArray) (r0 r1 r2 r3 lo hi : Int) (w : World) (hlen : ¬ (s.size : Int) < 1) :
    Calls Tryd.prog 36 #[.string s, .agg #[.int .i32 r0, .int .i32 r1, .int .u8 r2, .int .u8 r3, .int .u8 lo, .int .u8 hi, .int .i64 1]] w fun e w' => e = .returned (.int .i64 1) ∧ Below w.heap.size w w' := by
  go_enter Tryd.func36, Tryd.ntmps36
  go_wp2
  go_quiet (fail)
  go_wp2
  go_loopw [5] (fun i wr => i = .int .i64 2 ∧ ∃ m, wr = (w.alloc (Obj.cells #[Value.int IntKind.i32 r0, Value.int IntKind.i32 r1, Value.int IntKind.u8 r2, Value.int IntKind.u8 r3, Value.int IntKind.u8 lo, Value.int IntKind.u8 hi, Value.int IntKind.i64 1] 79)).drewN m) (fun _ _ => 0)
  case atStart => exact ⟨rfl, _, rfl⟩
  case round =>
    obtain ⟨rfl, m, rfl⟩ := hrel
    go_wp2
    go_ret
    exact ⟨rfl, below_ad _ _ _⟩

set_option maxHeartbeats 400000 in
theorem within_second (s : ByteArray) (r0 r1 r2 r3 lo hi n : Int) (w : World) (hs : s.size ≤ maxLen) (hn : 1 < n) (hn4 : n ≤ 4) (hlen : ¬ (s.size : Int) < n)
    (hb1 : byt s 1 < lo ∨ hi < byt s 1) :
    Calls Tryd.prog 36 #[.string s, .agg #[.int .i32 r0, .int .i32 r1, .int .u8 r2, .int .u8 r3, .int .u8 lo, .int .u8 hi, .int .i64 n]] w fun e w' => e = .returned (.int .i64 0) ∧ Below w.heap.size w w' := by
  unfold maxLen at hs
  have hs1 : (1 : Int) < s.size := by omega
  have hs1' : 1 < s.size := by omega
  rw [byt_of s 1 hs1'] at hb1
  by_cases hl : (s[1].toNat : Int) < lo
  · clear hb1
    go_enter Tryd.func36, Tryd.ntmps36
    go_wp2
    go_quiet (fail)
    go_wp2
    go_ret
    exact ⟨rfl, below_ad _ _ _⟩
  · have hh : hi < (s[1].toNat : Int) := by omega
    clear hb1
    go_enter Tryd.func36, Tryd.ntmps36
    go_wp2
    go_quiet (fail)
    go_wp2
    go_ret
    exact ⟨rfl, below_ad _ _ _⟩

set_option maxHeartbeats 400000 in
theorem within_short (s : ByteArray) (r0 r1 r2 r3 lo hi n : Int) (w : World) (hlen : (s.size : Int) < n) :
    Calls Tryd.prog 36 #[.string s, .agg #[.int .i32 r0, .int .i32 r1, .int .u8 r2, .int .u8 r3, .int .u8 lo, .int .u8 hi, .int .i64 n]] w fun e w' => e = .returned (.int .i64 0) ∧ Below w.heap.size w w' := by
  go_enter Tryd.func36, Tryd.ntmps36
  go_wp2
  go_ret
  exact ⟨rfl, (Below.refl _ _).alloc (Nat.le_refl _) _⟩

/-- sizeWithin, at every text and row. -/
theorem within_any (s : ByteArray) (r0 r1 r2 r3 lo hi n : Int) (w : World) (hs : s.size ≤ maxLen) (hn : 1 ≤ n) (hn4 : n ≤ 4) :
    Calls Tryd.prog 36 #[.string s, .agg #[.int .i32 r0, .int .i32 r1, .int .u8 r2, .int .u8 r3, .int .u8 lo, .int .u8 hi, .int .i64 n]] w fun e w' => e = .returned (.int .i64 (wi s.size (byt s 1) (byt s 2) (byt s 3) lo hi n)) ∧ Below w.heap.size w w' := by
  by_cases hlen : (s.size : Int) < n
  · rw [wi_short hlen]; exact within_short s r0 r1 r2 r3 lo hi n w hlen
  · by_cases h1 : 1 < n
    · by_cases hb : lo ≤ byt s 1 ∧ byt s 1 ≤ hi
      · exact within_loop s r0 r1 r2 r3 lo hi n w hs h1 hn4 hlen hb
      · rw [wi_second hlen h1 (by omega)]; exact within_second s r0 r1 r2 r3 lo hi n w hs h1 hn4 hlen (by omega)
    · obtain rfl : n = 1 := by omega
      rw [wi_all hlen (by omega) (by omega) (by omega)]; exact within_one s r0 r1 r2 r3 lo hi w hlen
end Go.Proofs.YtbpklbhaoemkkabDoor
