/- sizeWithin, walked: what it answers at every text and row of bounds. utf.Size, walked: at every text and number; the table of bounds as a fact on memory. utf.Valid, walked. utf.IsEdge, walked; what Back answers. Plain mathematics of edges: where code points begin, and the way back. Plain mathematics of texts: cut, joined, their places; the model's decoder. -/
import Derived.Test.YtafhogfbjklboaaDoorRows
import Derived.Test.YtafhogfbjklboaaDoorRuns
import Derived.WalkKit
import Derived.WalkSpells
import Derived.WalkLawsBesides
import Derived.Deep.QuietTactic
import Derived.BigQuiet
import Derived.Lib.QuietBelow
namespace Go.Proofs.YtafhogfbjklboaaDoor
open Go.RowKit

theorem ret_int {k : IntKind} {a b : Int} (h : a = b) : Ending.returned (.int k a) = .returned (.int k b) := by rw [h]

theorem below_ad (w : World) (o : Obj) (m : Nat) : Below w.heap.size w ((w.alloc o).drewN m) :=
  below_drewN ((Below.refl _ _).alloc (Nat.le_refl _) _) m

set_option maxHeartbeats 400000 in
theorem within_loop (s : ByteArray) (r0 r1 r2 r3 lo hi n : Int) (w : World) (hs : s.size ≤ maxLen) (hn : 1 < n) (hn4 : n ≤ 4) (hlen : ¬ (s.size : Int) < n)
    (hb1 : lo ≤ byt s 1 ∧ byt s 1 ≤ hi) :
    Calls Tryd.prog 66 #[.string s, .agg #[.int .i32 r0, .int .i32 r1, .int .u8 r2, .int .u8 r3, .int .u8 lo, .int .u8 hi, .int .i64 n]] w fun e w' => e = .returned (.int .i64 (wi s.size (byt s 1) (byt s 2) (byt s 3) lo hi n)) ∧ Below w.heap.size w w' := by
  unfold maxLen at hs
  have hfin : Hid ((¬ (2 < n ∧ (byt s 2 < 128 ∨ 191 < byt s 2))) → (¬ (3 < n ∧ (byt s 3 < 128 ∨ 191 < byt s 3))) → wi s.size (byt s 1) (byt s 2) (byt s 3) lo hi n = n) :=
    fun h2 h3 => wi_all hlen (fun h => by omega) h2 h3
  have hbad2 : Hid (2 < n → (byt s 2 < 128 ∨ 191 < byt s 2) → wi s.size (byt s 1) (byt s 2) (byt s 3) lo hi n = 0) := fun a b => wi_third hlen a b
  have hbad3 : Hid (3 < n → (byt s 3 < 128 ∨ 191 < byt s 3) → wi s.size (byt s 1) (byt s 2) (byt s 3) lo hi n = 0) := fun a b => wi_fourth hlen a b
  generalize wi s.size (byt s 1) (byt s 2) (byt s 3) lo hi n = R at *
  have hs1 : (1 : Int) < s.size := by omega
  have hs1' : 1 < s.size := by omega
  have e1 := byt_of s 1 hs1'
  rw [e1] at hb1
  clear e1
  obtain ⟨hl, hh⟩ := hb1
  have hl' : ¬ ((s[1].toNat : Int) < lo) := by omega
  have hh' : ¬ (hi < (s[1].toNat : Int)) := by omega
  go_enter Tryd.func66, Tryd.ntmps66
  go_wp2
  go_quiet (fail)
  go_wp2
  go_loopw [5] (fun i wr => ∃ k : Nat, 2 ≤ k ∧ k ≤ 4 ∧ i = .int .i64 k ∧ ((k : Int) ≤ n ∨ k = 2) ∧ (2 < k → 128 ≤ byt s 2 ∧ byt s 2 ≤ 191) ∧ (3 < k → 128 ≤ byt s 3 ∧ byt s 3 ≤ 191) ∧ (∃ m, wr = (w.alloc (Obj.cells #[Value.int IntKind.i32 r0, Value.int IntKind.i32 r1, Value.int IntKind.u8 r2, Value.int IntKind.u8 r3, Value.int IntKind.u8 lo, Value.int IntKind.u8 hi, Value.int IntKind.i64 n] 93)).drewN m)) (fun i _ => 4 - (intOf i).toNat)
  case atStart => exact ⟨2, by omega, by omega, rfl, Or.inr rfl, by omega, by omega, _, rfl⟩
  case round =>
    obtain ⟨k, hk2, hk4, rfl, hkn, h2, h3, m, rfl⟩ := hrel
    by_cases hlt : (k : Int) < n
    · have hks : (k : Int) < s.size := by omega
      have hks' : k < s.size := by omega
      have hB : Hid (((s[k].toNat : Int) < 128 ∨ 191 < (s[k].toNat : Int)) → R = 0) := by
        intro hb
        rw [← byt_of s k hks'] at hb
        have hk : k = 2 ∨ k = 3 := by omega
        rcases hk with rfl | rfl
        · exact hbad2.out (by omega) hb
        · exact hbad3.out (by omega) hb
      have hG : Hid (¬ ((s[k].toNat : Int) < 128 ∨ 191 < (s[k].toNat : Int)) → (2 < k + 1 → 128 ≤ byt s 2 ∧ byt s 2 ≤ 191) ∧ (3 < k + 1 → 128 ≤ byt s 3 ∧ byt s 3 ≤ 191)) := by
        intro hb
        rw [← byt_of s k hks'] at hb
        have hk : k = 2 ∨ k = 3 := by omega
        rcases hk with rfl | rfl
        · exact ⟨fun _ => by omega, fun h => by omega⟩
        · exact ⟨fun _ => h2 (by omega), fun _ => by omega⟩
      clear h2 h3
      go_wp2
      · go_ret
        exact ⟨ret_int (hB.out ‹_›).symm, below_ad _ _ _⟩
      · obtain ⟨g2, g3⟩ := hG.out (by omega)
        exact ⟨⟨k + 1, by omega, by omega, by go_num, Or.inl (by omega), g2, g3, _, rfl⟩, by simp [intOf]; omega⟩
      · go_ret
        exact ⟨ret_int (hB.out (Or.inl ‹_›)).symm, below_ad _ _ _⟩
    · go_wp2
      go_ret
      exact ⟨ret_int (hfin.out (fun h => by have := h2 (by omega); omega) (fun h => by have := h3 (by omega); omega)).symm, below_ad _ _ _⟩

set_option maxHeartbeats 400000 in
theorem within_one (s : ByteArray) (r0 r1 r2 r3 lo hi : Int) (w : World) (hlen : ¬ (s.size : Int) < 1) :
    Calls Tryd.prog 66 #[.string s, .agg #[.int .i32 r0, .int .i32 r1, .int .u8 r2, .int .u8 r3, .int .u8 lo, .int .u8 hi, .int .i64 1]] w fun e w' => e = .returned (.int .i64 1) ∧ Below w.heap.size w w' := by
  go_enter Tryd.func66, Tryd.ntmps66
  go_wp2
  go_quiet (fail)
  go_wp2
  go_loopw [5] (fun i wr => i = .int .i64 2 ∧ ∃ m, wr = (w.alloc (Obj.cells #[Value.int IntKind.i32 r0, Value.int IntKind.i32 r1, Value.int IntKind.u8 r2, Value.int IntKind.u8 r3, Value.int IntKind.u8 lo, Value.int IntKind.u8 hi, Value.int IntKind.i64 1] 93)).drewN m) (fun _ _ => 0)
  case atStart => exact ⟨rfl, _, rfl⟩
  case round =>
    obtain ⟨rfl, m, rfl⟩ := hrel
    go_wp2
    go_ret
    exact ⟨rfl, below_ad _ _ _⟩

set_option maxHeartbeats 400000 in
theorem within_second (s : ByteArray) (r0 r1 r2 r3 lo hi n : Int) (w : World) (hs : s.size ≤ maxLen) (hn : 1 < n) (hn4 : n ≤ 4) (hlen : ¬ (s.size : Int) < n)
    (hb1 : byt s 1 < lo ∨ hi < byt s 1) :
    Calls Tryd.prog 66 #[.string s, .agg #[.int .i32 r0, .int .i32 r1, .int .u8 r2, .int .u8 r3, .int .u8 lo, .int .u8 hi, .int .i64 n]] w fun e w' => e = .returned (.int .i64 0) ∧ Below w.heap.size w w' := by
  unfold maxLen at hs
  have hs1 : (1 : Int) < s.size := by omega
  have hs1' : 1 < s.size := by omega
  rw [byt_of s 1 hs1'] at hb1
  by_cases hl : (s[1].toNat : Int) < lo
  · clear hb1
    go_enter Tryd.func66, Tryd.ntmps66
    go_wp2
    go_quiet (fail)
    go_wp2
    go_ret
    exact ⟨rfl, below_ad _ _ _⟩
  · have hh : hi < (s[1].toNat : Int) := by omega
    clear hb1
    go_enter Tryd.func66, Tryd.ntmps66
    go_wp2
    go_quiet (fail)
    go_wp2
    go_ret
    exact ⟨rfl, below_ad _ _ _⟩

set_option maxHeartbeats 400000 in
theorem within_short (s : ByteArray) (r0 r1 r2 r3 lo hi n : Int) (w : World) (hlen : (s.size : Int) < n) :
    Calls Tryd.prog 66 #[.string s, .agg #[.int .i32 r0, .int .i32 r1, .int .u8 r2, .int .u8 r3, .int .u8 lo, .int .u8 hi, .int .i64 n]] w fun e w' => e = .returned (.int .i64 0) ∧ Below w.heap.size w w' := by
  go_enter Tryd.func66, Tryd.ntmps66
  go_wp2
  go_ret
  exact ⟨rfl, (Below.refl _ _).alloc (Nat.le_refl _) _⟩

/-- sizeWithin, at every text and row. -/
theorem within_any (s : ByteArray) (r0 r1 r2 r3 lo hi n : Int) (w : World) (hs : s.size ≤ maxLen) (hn : 1 ≤ n) (hn4 : n ≤ 4) :
    Calls Tryd.prog 66 #[.string s, .agg #[.int .i32 r0, .int .i32 r1, .int .u8 r2, .int .u8 r3, .int .u8 lo, .int .u8 hi, .int .i64 n]] w fun e w' => e = .returned (.int .i64 (wi s.size (byt s 1) (byt s 2) (byt s 3) lo hi n)) ∧ Below w.heap.size w w' := by
  by_cases hlen : (s.size : Int) < n
  · rw [wi_short hlen]; exact within_short s r0 r1 r2 r3 lo hi n w hlen
  · by_cases h1 : 1 < n
    · by_cases hb : lo ≤ byt s 1 ∧ byt s 1 ≤ hi
      · exact within_loop s r0 r1 r2 r3 lo hi n w hs h1 hn4 hlen hb
      · rw [wi_second hlen h1 (by omega)]; exact within_second s r0 r1 r2 r3 lo hi n w hs h1 hn4 hlen (by omega)
    · obtain rfl : n = 1 := by omega
      rw [wi_all hlen (by omega) (by omega) (by omega)]; exact within_one s r0 r1 r2 r3 lo hi w hlen
end Go.Proofs.YtafhogfbjklboaaDoor
namespace Go.Proofs.YtafhogfbjklboaaDoor
open Go.RowKit Go.Sort

/-- The table lies in the world. -/
structure Tab (w : World) (tb : Nat × Nat) : Prop where
  head : w.cell? ⟨2, 0, none⟩ = some (.slice (some ⟨tb.1, tb.2, none⟩) 9 9)
  c0 : ∀ k, k < 9 → w.cell? ⟨tb.1, tb.2 + k * 7, none⟩ = some (.int .i32 (tF k))
  c1 : ∀ k, k < 9 → w.cell? ⟨tb.1, tb.2 + k * 7 + 1, none⟩ = some (.int .i32 (tL k))
  c2 : ∀ k, k < 9 → w.cell? ⟨tb.1, tb.2 + k * 7 + 2, none⟩ = some (.int .u8 (tLo k))
  c3 : ∀ k, k < 9 → w.cell? ⟨tb.1, tb.2 + k * 7 + 3, none⟩ = some (.int .u8 (tHi k))
  c4 : ∀ k, k < 9 → w.cell? ⟨tb.1, tb.2 + k * 7 + 4, none⟩ = some (.int .u8 (tA k))
  c5 : ∀ k, k < 9 → w.cell? ⟨tb.1, tb.2 + k * 7 + 5, none⟩ = some (.int .u8 (tZ k))
  c6 : ∀ k, k < 9 → w.cell? ⟨tb.1, tb.2 + k * 7 + 6, none⟩ = some (.int .i64 (tN k))

theorem Tab.later {w w' : World} {tb : Nat × Nat} (h : Tab w tb) (hb : Below w.heap.size w w') : Tab w' tb where
  head := cell_later hb h.head
  c0 := fun k hk => cell_later hb (h.c0 k hk)
  c1 := fun k hk => cell_later hb (h.c1 k hk)
  c2 := fun k hk => cell_later hb (h.c2 k hk)
  c3 := fun k hk => cell_later hb (h.c3 k hk)
  c4 := fun k hk => cell_later hb (h.c4 k hk)
  c5 := fun k hk => cell_later hb (h.c5 k hk)
  c6 := fun k hk => cell_later hb (h.c6 k hk)

theorem step1 {p : Nat → Prop} {k : Nat} (h : ∀ m, m < k → ¬ p m) (hk : ¬ p k) : ∀ m, m < k + 1 → ¬ p m := by
  intro m hm
  by_cases e : m = k
  · subst e; exact hk
  · exact h m (by omega)

set_option maxHeartbeats 800000 in
theorem size_in (s : ByteArray) (i : Nat) (w : World) (tb : Nat × Nat) (hs : s.size ≤ maxLen) (hi : i < s.size) (hT : Tab w tb) :
    Calls Tryd.prog 65 #[.string s, .int .i64 i] w fun e w' => e = .returned (.int .i64 (szN s i)) ∧ Below w.heap.size w w' := by
  have hmax := hs
  unfold maxLen at hs
  obtain ⟨tb, tOff⟩ := tb
  have hhead : w.cell? ⟨2, 0, none⟩ = some (.slice (some ⟨tb, tOff, none⟩) 9 9) := hT.head
  have hiI : (i : Int) < s.size := by omega
  have hb0 := byt_range s i
  rw [byt_of s i hi] at hb0
  have hit : Hid (∀ k, k < 9 → tLo k ≤ (s[i].toNat : Int) → (s[i].toNat : Int) ≤ tHi k → szN s i = wi ((s.size : Int) - i) (byt s (i + 1)) (byt s (i + 2)) (byt s (i + 3)) (tA k) (tZ k) (tN k)) := by
    intro k hk h1 h2
    rw [← byt_of s i hi] at h1 h2
    unfold szN
    rw [if_pos hi]
    exact row_hit hk h1 h2
  have miss : Hid ((∀ k, k < 9 → ¬ (tLo k ≤ (s[i].toNat : Int) ∧ (s[i].toNat : Int) ≤ tHi k)) → szN s i = 0) := by
    intro h
    rw [← byt_of s i hi] at h
    unfold szN
    rw [if_pos hi]
    exact row_miss (byt_range s i).1 h
  have d0 : decide ((i : Int) < 0) = false := by simp
  have d1 : decide (s.size ≤ i) = false := by simp; omega
  go_enter Tryd.func65, Tryd.ntmps65
  go_wp2
  go_loopw [17] (fun j wr => ∃ k : Nat, k ≤ 9 ∧ j = .int .i64 k ∧ Below w.heap.size w wr ∧ ∀ m, m < k → ¬ (tLo m ≤ (s[i].toNat : Int) ∧ (s[i].toNat : Int) ≤ tHi m)) (fun j _ => 9 - (intOf j).toNat)
  case atStart => exact ⟨0, by omega, rfl, Below.refl _ _, fun m hm => by omega⟩
  case round =>
    obtain ⟨k, hk, rfl, hb, hno⟩ := hrel
    have HN : Hid (∀ m, m < k → ¬ (tLo m ≤ (s[i].toNat : Int) ∧ (s[i].toNat : Int) ≤ tHi m)) := hno
    clear hno
    have hT2 := hT.later hb
    clear hhead
    by_cases hlt : k < 9
    · have hc := hit.out k hlt
      have HC : Hid (tLo k ≤ (s[i].toNat : Int) → (s[i].toNat : Int) ≤ tHi k → szN s i = wi ((s.size : Int) - i) (byt s (i + 1)) (byt s (i + 2)) (byt s (i + 3)) (tA k) (tZ k) (tN k)) := hc
      clear hc hit miss
      have c0 : wr.cell? ⟨tb, tOff + k * 7, none⟩ = some (.int .i32 (tF k)) := hT2.c0 k hlt
      have c1 : wr.cell? ⟨tb, tOff + k * 7 + 1, none⟩ = some (.int .i32 (tL k)) := hT2.c1 k hlt
      have c2 : wr.cell? ⟨tb, tOff + k * 7 + 2, none⟩ = some (.int .u8 (tLo k)) := hT2.c2 k hlt
      have c3 : wr.cell? ⟨tb, tOff + k * 7 + 3, none⟩ = some (.int .u8 (tHi k)) := hT2.c3 k hlt
      have c4 : wr.cell? ⟨tb, tOff + k * 7 + 4, none⟩ = some (.int .u8 (tA k)) := hT2.c4 k hlt
      have c5 : wr.cell? ⟨tb, tOff + k * 7 + 5, none⟩ = some (.int .u8 (tZ k)) := hT2.c5 k hlt
      have c6 : wr.cell? ⟨tb, tOff + k * 7 + 6, none⟩ = some (.int .i64 (tN k)) := hT2.c6 k hlt
      have hn := tN_le k hlt
      by_cases g1 : tLo k ≤ (s[i].toNat : Int)
      · by_cases g2 : (s[i].toNat : Int) ≤ tHi k
        · go_wp2
          go_quiet (fail)
          go_wp2
          have z : ∀ (v0 v1 v2 v3 v4 v5 v6 : Value) (j : Nat) (u : Value), [v0, v1, v2, v3, v4, v5, v6][j]? = some u → ∀ d os, (grow (redrawn ((wr.alloc (Obj.cells #[v0, v1, v2, v3, v4, v5, v6] 93)).drewN nq) d) os).cell? ⟨wr.heap.size, j, none⟩ = some u := by
            intro v0 v1 v2 v3 v4 v5 v6 j u hj d os
            refine cell_regrown ?_ d os
            show (wr.alloc _).cell? _ = _
            rw [World.cell?_alloc_new]
            simpa using hj
          have z0 := z (.int .i32 (tF k)) (.int .i32 (tL k)) (.int .u8 (tLo k)) (.int .u8 (tHi k)) (.int .u8 (tA k)) (.int .u8 (tZ k)) (.int .i64 (tN k)) 0 _ rfl
          have z1 := z (.int .i32 (tF k)) (.int .i32 (tL k)) (.int .u8 (tLo k)) (.int .u8 (tHi k)) (.int .u8 (tA k)) (.int .u8 (tZ k)) (.int .i64 (tN k)) 1 _ rfl
          have z2 := z (.int .i32 (tF k)) (.int .i32 (tL k)) (.int .u8 (tLo k)) (.int .u8 (tHi k)) (.int .u8 (tA k)) (.int .u8 (tZ k)) (.int .i64 (tN k)) 2 _ rfl
          have z3 := z (.int .i32 (tF k)) (.int .i32 (tL k)) (.int .u8 (tLo k)) (.int .u8 (tHi k)) (.int .u8 (tA k)) (.int .u8 (tZ k)) (.int .i64 (tN k)) 3 _ rfl
          have z4 := z (.int .i32 (tF k)) (.int .i32 (tL k)) (.int .u8 (tLo k)) (.int .u8 (tHi k)) (.int .u8 (tA k)) (.int .u8 (tZ k)) (.int .i64 (tN k)) 4 _ rfl
          have z5 := z (.int .i32 (tF k)) (.int .i32 (tL k)) (.int .u8 (tLo k)) (.int .u8 (tHi k)) (.int .u8 (tA k)) (.int .u8 (tZ k)) (.int .i64 (tN k)) 5 _ rfl
          have z6 := z (.int .i32 (tF k)) (.int .i32 (tL k)) (.int .u8 (tLo k)) (.int .u8 (tHi k)) (.int .u8 (tA k)) (.int .u8 (tZ k)) (.int .i64 (tN k)) 6 _ rfl
          clear z c0 c1 c2 c3 c4 c5 c6
          have hbw := hb.trans ((below_ad wr (Obj.cells #[.int .i32 (tF k), .int .i32 (tL k), .int .u8 (tLo k), .int .u8 (tHi k), .int .u8 (tA k), .int .u8 (tZ k), .int .i64 (tN k)] 93) nq).mono hb.size)
          generalize (wr.alloc (Obj.cells #[.int .i32 (tF k), .int .i32 (tL k), .int .u8 (tLo k), .int .u8 (tHi k), .int .u8 (tA k), .int .u8 (tZ k), .int .i64 (tN k)] 93)).drewN nq = W at *
          have hR : wi (s.extract i s.size).size (byt (s.extract i s.size) 1) (byt (s.extract i s.size) 2) (byt (s.extract i s.size) 3) (tA k) (tZ k) (tN k) = szN s i := by
            rw [HC.out g1 g2, byt_extract s i 1 (by omega), byt_extract s i 2 (by omega), byt_extract s i 3 (by omega), ByteArray.size_extract]
            congr 1
            omega
          have cW : ∀ d os, Calls Tryd.prog 66 #[.string (s.extract i s.size), .agg #[.int .i32 (tF k), .int .i32 (tL k), .int .u8 (tLo k), .int .u8 (tHi k), .int .u8 (tA k), .int .u8 (tZ k), .int .i64 (tN k)]] (grow (redrawn W d) os) fun e w'' => e = .returned (.int .i64 (szN s i)) ∧ ∃ p : Regrown, w'' = grow (redrawn W p.d) p.os := by
            intro d os
            have := within_any (s.extract i s.size) (tF k) (tL k) (tLo k) (tHi k) (tA k) (tZ k) (tN k) (grow (redrawn W d) os) (by rw [ByteArray.size_extract]; unfold maxLen; omega) hn.1 hn.2
            rw [hR] at this
            exact Calls.regrown_of this
          clear hR HC
          refine wp_region_quiet_below (by kernel_rfl) (by kernel_rfl) ?_
          repeat (go_big_quiet_step (exact cW _ _))
          refine wpQuiet_nil ?_
          intro _ hw'
          obtain ⟨⟨dq, osq⟩, hw''⟩ := hw'
          subst hw''
          go_wp2
          go_ret
          exact ⟨rfl, hbw.trans ((below_regrown W dq osq).mono hbw.size)⟩
        · have g2' : decide ((s[i].toNat : Int) ≤ tHi k) = false := by simpa using g2
          go_wp2
          go_quiet (fail)
          go_wp2
          go_roundw
          case rel => exact ⟨k + 1, by omega, by go_num, hb.trans ((below_ad _ _ _).mono hb.size), step1 HN.out (fun h => by omega)⟩
          case measure => simp [intOf]; omega
      · have g1' : decide (tLo k ≤ (s[i].toNat : Int)) = false := by simpa using g1
        go_wp2
        go_quiet (fail)
        go_wp2
        go_roundw
        case rel => exact ⟨k + 1, by omega, by go_num, hb.trans ((below_ad _ _ _).mono hb.size), step1 HN.out (fun h => by omega)⟩
        case measure => simp [intOf]; omega
    · go_wp2
      go_ret
      obtain rfl : k = 9 := by omega
      exact ⟨ret_int (miss.out HN.out).symm, hb⟩

set_option maxHeartbeats 800000 in
theorem size_out (s : ByteArray) (a : Int) (w : World) (ho : a < 0 ∨ (s.size : Int) ≤ a) :
    Calls Tryd.prog 65 #[.string s, .int .i64 a] w fun e w' => e = .returned (.int .i64 0) ∧ Below w.heap.size w w' := by
  by_cases h : a < 0
  · go_enter Tryd.func65, Tryd.ntmps65
    go_wp2
    go_ret
    exact ⟨rfl, Below.refl _ _⟩
  · have h' : (s.size : Int) ≤ a := by omega
    clear ho
    go_enter Tryd.func65, Tryd.ntmps65
    go_wp2
    go_ret
    exact ⟨rfl, Below.refl _ _⟩

/-- utf.Size, at every text and number. -/
theorem size_any (s : ByteArray) (a : Int) (w : World) (tb : Nat × Nat) (hs : s.size ≤ maxLen) (hT : Tab w tb) :
    Calls Tryd.prog 65 #[.string s, .int .i64 a] w fun e w' => e = .returned (.int .i64 (szAt s a)) ∧ Below w.heap.size w w' := by
  by_cases ho : a < 0 ∨ (s.size : Int) ≤ a
  · have e : szAt s a = 0 := by
      unfold szAt
      split
      · unfold szN; rw [if_neg (by omega)]
      · rfl
    rw [e]
    exact size_out s a w ho
  · obtain ⟨i, rfl⟩ : ∃ i : Nat, a = i := ⟨a.toNat, by omega⟩
    have e : szAt s (i : Int) = szN s i := by unfold szAt; rw [if_pos (by omega), Int.toNat_natCast]
    rw [e]
    exact size_in s i w tb hs (by omega) hT
end Go.Proofs.YtafhogfbjklboaaDoor
namespace Go.Proofs.YtafhogfbjklboaaDoor
open Go.RowKit Go.Sort

theorem ret_bool {a b : Bool} (h : a = b) : Ending.returned (.bool a) = .returned (.bool b) := by rw [h]

theorem bytes_length (s : ByteArray) : s.data.toList.length = s.size := rfl
theorem drop_ne (s : ByteArray) (i : Nat) (h : i < s.size) : s.data.toList.drop i ≠ [] := by
  intro e
  have := congrArg List.length e
  rw [List.length_drop, bytes_length] at this
  simp at this
  omega
theorem drop_all (s : ByteArray) (i : Nat) (h : s.size ≤ i) : s.data.toList.drop i = [] :=
  List.drop_eq_nil_of_le (by rw [bytes_length]; exact h)

theorem szN_le (s : ByteArray) (i : Nat) (h : i < s.size) : 0 ≤ szN s i ∧ szN s i ≤ 4 ∧ (i : Int) + szN s i ≤ s.size := by
  rw [szN_eq]
  have h1 := sz1_nonneg (s.data.toList.drop i)
  refine ⟨h1.1, h1.2, ?_⟩
  by_cases hz : sz1 (s.data.toList.drop i) = 0
  · omega
  · obtain ⟨_, h2, h3⟩ := sz1_split hz
    have := congrArg List.length h2
    rw [List.length_append, h3, List.length_drop, bytes_length] at this
    omega

set_option maxHeartbeats 400000 in
/-- utf.Valid. -/
theorem valid_any (s : ByteArray) (w : World) (tb : Nat × Nat) (hs : s.size ≤ maxLen) (hT : Tab w tb) :
    Calls Tryd.prog 63 #[.string s] w fun e w' => e = .returned (.bool (vld s.data.toList)) ∧ Below w.heap.size w w' := by
  have hmax := hs
  unfold maxLen at hs
  go_enter Tryd.func63, Tryd.ntmps63
  go_wp2
  go_loopw [3] (fun j wr => ∃ k : Nat, k ≤ s.size ∧ j = .int .i64 k ∧ Below w.heap.size w wr ∧ Hid (vld s.data.toList = vld (s.data.toList.drop k))) (fun j _ => s.size - (intOf j).toNat)
  case atStart => exact ⟨0, by omega, rfl, Below.refl _ _, rfl⟩
  case round =>
    obtain ⟨k, hk, rfl, hb, HV⟩ := hrel
    have hT2 := hT.later hb
    by_cases hlt : k < s.size
    · have hz := szN_le s k hlt
      have hzl := szN_eq s k
      have HZ : Hid (szN s k = sz1 (s.data.toList.drop k)) := hzl
      clear hzl
      by_cases h0 : szN s k = 0
      · have hv : Hid (false = vld s.data.toList) := by
          rw [HZ.out] at h0
          exact (HV.out.trans (vld_bad (drop_ne s k hlt) h0)).symm
        have hc := size_in s k wr tb hmax hlt hT2
        rw [h0] at hc
        clear h0 hz
        go_wp2_with (go_at_call 65; refine hc.mono ?_; rintro e w1 ⟨rfl, hb1⟩)
        go_ret
        exact ⟨ret_bool hv.out, hb.trans (hb1.mono hb.size)⟩
      · have hv : Hid (vld s.data.toList = vld (s.data.toList.drop (k + (szN s k).toNat))) := by
          have h0' := h0
          rw [HZ.out] at h0'
          have e := vld_step (drop_ne s k hlt) h0'
          rw [List.drop_drop, ← HZ.out] at e
          exact HV.out.trans e
        have hc := size_in s k wr tb hmax hlt hT2
        have hne : (szN s k == 0) = false := by simpa using h0
        have hpos : 1 ≤ szN s k := by omega
        clear h0 HZ HV
        generalize szN s k = z at *
        go_wp2_with (go_at_call 65; refine hc.mono ?_; rintro e w1 ⟨rfl, hb1⟩)
        go_roundw
        case rel => exact ⟨k + z.toNat, by omega, by go_num, hb.trans (hb1.mono hb.size), hv⟩
        case measure => simp [intOf]; omega
    · go_wp2
      go_ret
      exact ⟨ret_bool (by rw [HV.out, drop_all s k (by omega)]; rfl), hb⟩
end Go.Proofs.YtafhogfbjklboaaDoor
namespace Go.Proofs.YtafhogfbjklboaaDoor
open Go.RowKit Go.Sort

/-- IsEdge. -/
def edg (s : ByteArray) (a : Int) : Bool := (decide (a = (s.size : Int)) || decide (0 < szAt s a)) && vld s.data.toList
/-- Back's way down. -/
def bkF (s : ByteArray) : Nat → Int
  | 0 => 0
  | j + 1 => if szN s (j + 1) = 0 then bkF s j else ((j + 1 : Nat) : Int)
/-- Back. -/
def bk (s : ByteArray) (a : Int) : Int := if a ≤ 0 ∨ edg s a = false then a else bkF s (a - 1).toNat

theorem szAt_nat (s : ByteArray) (i : Nat) : szAt s (i : Int) = szN s i := by unfold szAt; rw [if_pos (by omega), Int.toNat_natCast]
theorem valid_first (s : ByteArray) (hv : vld s.data.toList = true) (h : 0 < s.size) : szN s 0 ≠ 0 := by
  intro e
  rw [szN_eq, List.drop_zero] at e
  have hne := drop_ne s 0 h
  rw [List.drop_zero] at hne
  rw [vld_bad hne e] at hv
  cases hv
theorem edg_le (s : ByteArray) (a : Int) (h : edg s a = true) (h0 : 0 ≤ a) : a ≤ s.size ∧ vld s.data.toList = true := by
  unfold edg at h
  simp only [Bool.and_eq_true, Bool.or_eq_true, decide_eq_true_eq] at h
  refine ⟨?_, h.2⟩
  rcases h.1 with h1 | h1
  · omega
  · unfold szAt szN at h1
    rw [if_pos h0] at h1
    split at h1
    · omega
    · omega

end Go.Proofs.YtafhogfbjklboaaDoor
namespace Go.Proofs.YtafhogfbjklboaaDoor

theorem cont_zero (y : UInt8) (t : List UInt8) (h0 : 128 ≤ y.toNat) (h1 : y.toNat < 194) : sz1 (y :: t) = 0 := by
  unfold sz1
  rw [if_neg (by simp)]
  exact szI_cont (by show (128 : Int) ≤ ((y.toNat : Nat) : Int); omega) (by show ((y.toNat : Nat) : Int) < 194; omega)

theorem byte_toNat (x : Int) (h0 : 0 ≤ x) (h1 : x < 256) : (x.toNat.toUInt8).toNat = x.toNat := by
  have := byte_of x h0 h1
  omega

/-- No code point begins within one. -/
theorem enc_tail (c : Int) (h : scalar c) (t : List UInt8) (j : Nat) (h0 : 0 < j) (h1 : j < (enc c).length) : sz1 ((enc c ++ t).drop j) = 0 := by
  unfold scalar at h
  by_cases g1 : c ≤ 127
  · have e : enc c = [c.toNat.toUInt8] := by unfold enc Lib.encodeRune; rw [Lib.encodeRuneZ_one (by omega) g1]; rfl
    rw [e] at h1; simp at h1; omega
  · by_cases g2 : c ≤ 2047
    · have e : enc c = [(192 + c / 64).toNat.toUInt8, (128 + c % 64).toNat.toUInt8] := by unfold enc Lib.encodeRune; rw [Lib.encodeRuneZ_two (by omega) g2]; rfl
      rw [e] at h1 ⊢
      simp at h1
      obtain rfl : j = 1 := by omega
      exact cont_zero _ _ (by rw [byte_toNat _ (by omega) (by omega)]; omega) (by rw [byte_toNat _ (by omega) (by omega)]; omega)
    · by_cases g3 : c ≤ 65535
      · have e : enc c = [(224 + c / 4096).toNat.toUInt8, (128 + c / 64 % 64).toNat.toUInt8, (128 + c % 64).toNat.toUInt8] := by unfold enc Lib.encodeRune; rw [Lib.encodeRuneZ_three (by omega)]; rfl
        rw [e] at h1 ⊢
        simp at h1
        have : j = 1 ∨ j = 2 := by omega
        rcases this with rfl | rfl
        · exact cont_zero _ _ (by rw [byte_toNat _ (by omega) (by omega)]; omega) (by rw [byte_toNat _ (by omega) (by omega)]; omega)
        · exact cont_zero _ _ (by rw [byte_toNat _ (by omega) (by omega)]; omega) (by rw [byte_toNat _ (by omega) (by omega)]; omega)
      · have e : enc c = [(240 + c / 262144).toNat.toUInt8, (128 + c / 4096 % 64).toNat.toUInt8, (128 + c / 64 % 64).toNat.toUInt8, (128 + c % 64).toNat.toUInt8] := by unfold enc Lib.encodeRune; rw [Lib.encodeRuneZ_four (by omega) (by omega)]; rfl
        rw [e] at h1 ⊢
        simp at h1
        have : j = 1 ∨ j = 2 ∨ j = 3 := by omega
        rcases this with rfl | rfl | rfl
        · exact cont_zero _ _ (by rw [byte_toNat _ (by omega) (by omega)]; omega) (by rw [byte_toNat _ (by omega) (by omega)]; omega)
        · exact cont_zero _ _ (by rw [byte_toNat _ (by omega) (by omega)]; omega) (by rw [byte_toNat _ (by omega) (by omega)]; omega)
        · exact cont_zero _ _ (by rw [byte_toNat _ (by omega) (by omega)]; omega) (by rw [byte_toNat _ (by omega) (by omega)]; omega)

theorem bkF_run (s : ByteArray) (i : Nat) (h0 : szN s i ≠ 0 ∨ i = 0) : ∀ d, (∀ j, i < j → j ≤ i + d → szN s j = 0) → bkF s (i + d) = i
  | 0, _ => by
    cases i with
    | zero => rfl
    | succ k =>
      have : szN s (k + 1) ≠ 0 := by rcases h0 with h | h; exact h; cases h
      show bkF s (k + 1) = _
      unfold bkF
      rw [if_neg this]
  | d + 1, h => by
    have e : bkF s (i + (d + 1)) = bkF s (i + d) := by
      show bkF s (i + d + 1) = _
      conv => lhs; unfold bkF
      rw [if_pos (h (i + d + 1) (by omega) (by omega))]
    rw [e]
    exact bkF_run s i h0 d (fun j h1 h2 => h j h1 (by omega))

section
variable {s : ByteArray} {cs1 cs2 : List Int} {c : Int}
theorem flat_drop (h : s.data.toList = flat cs1 ++ flat cs2) : s.data.toList.drop (flat cs1).length = flat cs2 := by
  rw [h]; exact List.drop_left' rfl
theorem split_size (h : s.data.toList = flat cs1 ++ flat cs2) : s.size = (flat cs1).length + (flat cs2).length := by
  rw [← bytes_length, h, List.length_append]

/-- Size where a code point begins. -/
theorem sz_start (h : s.data.toList = flat cs1 ++ flat (c :: cs2)) (hc : scalar c) : szN s (flat cs1).length = ((enc c).length : Int) := by
  rw [szN_eq, flat_drop h, flat_cons]
  exact (sz1_enc c hc _).1
theorem sz_within (h : s.data.toList = flat cs1 ++ flat (c :: cs2)) (hc : scalar c) (j : Nat) (h0 : 0 < j) (h1 : j < (enc c).length) : szN s ((flat cs1).length + j) = 0 := by
  rw [szN_eq, ← List.drop_drop, flat_drop h, flat_cons]
  exact enc_tail c hc _ j h0 h1
theorem edge_start (h : s.data.toList = flat cs1 ++ flat cs2) (h1 : Good cs1) (h2 : Good cs2) : edg s ((flat cs1).length : Int) = true := by
  have hv : vld s.data.toList = true := by rw [h, ← flat_append]; exact vld_flat (h1.append h2)
  unfold edg
  rw [hv, Bool.and_true]
  cases cs2 with
  | nil =>
    have := split_size h
    simp [flat_nil] at this
    simp [this]
  | cons c cs2 =>
    have hs := sz_start h h2.head
    have hl := enc_length c
    rw [szAt_nat, hs]
    simp
    omega
theorem edge_within (h : s.data.toList = flat cs1 ++ flat (c :: cs2)) (hc : scalar c) (j : Nat) (h0 : 0 < j) (h1 : j < (enc c).length) : edg s (((flat cs1).length + j : Nat) : Int) = false := by
  unfold edg
  have hs := sz_within h hc j h0 h1
  have hz := split_size h
  rw [flat_cons, List.length_append] at hz
  rw [szAt_nat, hs]
  have : decide ((((flat cs1).length + j : Nat) : Int) = (s.size : Int)) = false := by rw [decide_eq_false_iff_not]; omega
  rw [this]
  rfl
theorem back_start (h : s.data.toList = flat cs1 ++ flat (c :: cs2)) (h1 : Good cs1) (h2 : Good (c :: cs2)) : bk s (((flat cs1).length + (enc c).length : Nat) : Int) = ((flat cs1).length : Int) := by
  have hl := enc_length c
  have h' : s.data.toList = flat (cs1 ++ [c]) ++ flat cs2 := by rw [h, flat_append, flat_cons, flat_cons, flat_nil, List.append_nil, List.append_assoc]
  have he := edge_start h' (h1.append (Good.cons h2.head good_nil)) h2.tail
  have e : (flat (cs1 ++ [c])).length = (flat cs1).length + (enc c).length := by rw [flat_append, List.length_append]; simp [flat]
  rw [e] at he
  unfold bk
  rw [if_neg (by rw [he]; simp; omega)]
  have e2 : ((((flat cs1).length + (enc c).length : Nat) : Int) - 1).toNat = (flat cs1).length + ((enc c).length - 1) := by omega
  rw [e2]
  refine bkF_run s _ (Or.inl ?_) _ (fun j g1 g2 => ?_)
  · rw [sz_start h h2.head]; omega
  · obtain ⟨m, rfl⟩ : ∃ m, j = (flat cs1).length + m := ⟨j - (flat cs1).length, by omega⟩
    exact sz_within h h2.head m (by omega) (by omega)
end
theorem back_zero (s : ByteArray) (a : Int) (h : a ≤ 0) : bk s a = a := by unfold bk; rw [if_pos (Or.inl h)]
theorem szAt_end (s : ByteArray) : szAt s (s.size : Int) = 0 := by rw [szAt_nat]; unfold szN; rw [if_neg (by omega)]
theorem szAt_neg (s : ByteArray) (a : Int) (h : a < 0) : szAt s a = 0 := by unfold szAt; rw [if_neg (by omega)]
end Go.Proofs.YtafhogfbjklboaaDoor
namespace Go.Proofs.YtafhogfbjklboaaDoor
open Go.RowKit Go.Sort

theorem cln_nil : cln [] = [] := rfl
theorem cln_bad {l : List UInt8} (hl : l ≠ []) (hz : sz1 l = 0) : cln l = enc 65533 ++ cln (l.drop 1) := by
  unfold cln; rw [pts_bad hl hz, flat_cons]
theorem cln_step {l : List UInt8} (hl : l ≠ []) (hz : sz1 l ≠ 0) : cln l = l.take (sz1 l).toNat ++ cln (l.drop (sz1 l).toNat) := by
  obtain ⟨_, h2, h3⟩ := sz1_split hz
  unfold cln
  rw [pts_step hl hz, flat_cons]
  have : l.take (sz1 l).toNat = enc (dec1 l) := by
    rw [← h3]
    conv => lhs; arg 2; rw [h2]
    exact List.take_left' rfl
  rw [this]
theorem extract_bytes (s : ByteArray) (i j : Nat) : (s.extract i j).data.toList = (s.data.toList.drop i).take (j - i) := by
  simp [ByteArray.extract, ByteArray.copySlice]
theorem byt_bl (s : ByteArray) (i j : Nat) : byt s (i + j) = bl (s.data.toList.drop i) j := by
  by_cases h : i + j < s.size
  · rw [byt_of s _ h]
    unfold bl
    have : (s.data.toList.drop i).getD j 0 = s[i + j] := by
      simp [List.getD_eq_getElem?_getD, List.getElem?_drop]
      rw [Array.getElem?_eq_getElem (by simpa using h)]
      rfl
    rw [this]
  · unfold byt bl
    rw [get!_out s _ h, List.getD_eq_getElem?_getD, List.getElem?_eq_none (by simp; have : s.data.size = s.size := rfl; omega)]
    rfl
/-- The model's decoder at a code point. -/
theorem decode_enc (t : ByteArray) (pos : Nat) (c : Int) (h : scalar c) (rest : List UInt8) (hd : t.data.toList.drop pos = enc c ++ rest) :
    Utf8.decode t pos = (c.toNat, (enc c).length) := by
  have hlen := congrArg List.length hd
  rw [List.length_append, List.length_drop, bytes_length] at hlen
  have q0 := byt_bl t pos 0; have q1 := byt_bl t pos 1; have q2 := byt_bl t pos 2; have q3 := byt_bl t pos 3
  rw [hd] at q0 q1 q2 q3
  rw [Lib.decode_at]
  have p0 : byt t (pos + 0) = ((t.get! pos).toNat : Int) := rfl
  have p1 : byt t (pos + 1) = ((t.get! (pos + 1)).toNat : Int) := rfl
  have p2 : byt t (pos + 2) = ((t.get! (pos + 2)).toNat : Int) := rfl
  have p3 : byt t (pos + 3) = ((t.get! (pos + 3)).toNat : Int) := rfl
  rw [p0] at q0; rw [p1] at q1; rw [p2] at q2; rw [p3] at q3
  clear p0 p1 p2 p3
  generalize (t.get! pos).toNat = a0 at *
  generalize (t.get! (pos + 1)).toNat = a1 at *
  generalize (t.get! (pos + 2)).toNat = a2 at *
  generalize (t.get! (pos + 3)).toNat = a3 at *
  unfold scalar at h
  by_cases h1 : c ≤ 127
  · have e : enc c = [c.toNat.toUInt8] := by unfold enc Lib.encodeRune; rw [Lib.encodeRuneZ_one (by omega) h1]; rfl
    have g0 : bl (enc c ++ rest) 0 = c := by rw [e]; exact byte_of _ (by omega) (by omega)
    rw [g0] at q0
    have el : (enc c).length = 1 := by rw [e]; rfl
    rw [el]
    unfold Lib.decodeN
    rw [if_pos (by omega)]
    exact Prod.ext (by simp; omega) rfl
  · by_cases h2 : c ≤ 2047
    · have e : enc c = [(192 + c / 64).toNat.toUInt8, (128 + c % 64).toNat.toUInt8] := by unfold enc Lib.encodeRune; rw [Lib.encodeRuneZ_two (by omega) h2]; rfl
      have g0 : bl (enc c ++ rest) 0 = 192 + c / 64 := by rw [e]; exact byte_of _ (by omega) (by omega)
      have g1 : bl (enc c ++ rest) 1 = 128 + c % 64 := by rw [e]; exact byte_of _ (by omega) (by omega)
      rw [g0] at q0; rw [g1] at q1
      have el : (enc c).length = 2 := by rw [e]; rfl
      rw [el] at hlen ⊢
      unfold Lib.decodeN
      rw [if_neg (by omega), if_pos (by omega), if_pos (by omega)]
      exact Prod.ext (by simp; omega) rfl
    · by_cases h3 : c ≤ 65535
      · have e : enc c = [(224 + c / 4096).toNat.toUInt8, (128 + c / 64 % 64).toNat.toUInt8, (128 + c % 64).toNat.toUInt8] := by unfold enc Lib.encodeRune; rw [Lib.encodeRuneZ_three (by omega)]; rfl
        have g0 : bl (enc c ++ rest) 0 = 224 + c / 4096 := by rw [e]; exact byte_of _ (by omega) (by omega)
        have g1 : bl (enc c ++ rest) 1 = 128 + c / 64 % 64 := by rw [e]; exact byte_of _ (by omega) (by omega)
        have g2 : bl (enc c ++ rest) 2 = 128 + c % 64 := by rw [e]; exact byte_of _ (by omega) (by omega)
        rw [g0] at q0; rw [g1] at q1; rw [g2] at q2
        have el : (enc c).length = 3 := by rw [e]; rfl
        rw [el] at hlen ⊢
        unfold Lib.decodeN
        rw [if_neg (by omega), if_neg (by omega), if_pos (by omega), if_pos (by omega)]
        exact Prod.ext (by simp; omega) rfl
      · have e : enc c = [(240 + c / 262144).toNat.toUInt8, (128 + c / 4096 % 64).toNat.toUInt8, (128 + c / 64 % 64).toNat.toUInt8, (128 + c % 64).toNat.toUInt8] := by unfold enc Lib.encodeRune; rw [Lib.encodeRuneZ_four (by omega) (by omega)]; rfl
        have g0 : bl (enc c ++ rest) 0 = 240 + c / 262144 := by rw [e]; exact byte_of _ (by omega) (by omega)
        have g1 : bl (enc c ++ rest) 1 = 128 + c / 4096 % 64 := by rw [e]; exact byte_of _ (by omega) (by omega)
        have g2 : bl (enc c ++ rest) 2 = 128 + c / 64 % 64 := by rw [e]; exact byte_of _ (by omega) (by omega)
        have g3 : bl (enc c ++ rest) 3 = 128 + c % 64 := by rw [e]; exact byte_of _ (by omega) (by omega)
        rw [g0] at q0; rw [g1] at q1; rw [g2] at q2; rw [g3] at q3
        have el : (enc c).length = 4 := by rw [e]; rfl
        rw [el] at hlen ⊢
        unfold Lib.decodeN
        rw [if_neg (by omega), if_neg (by omega), if_neg (by omega), if_pos (by omega), if_pos (by omega)]
        exact Prod.ext (by simp; omega) rfl
theorem cln_append {a : List UInt8} (h : vld a = true) (b : List UInt8) : cln (a ++ b) = a ++ cln b := by
  have e := flat_pts' h
  unfold cln
  conv => lhs; rw [← e]
  rw [pts_flat (good_pts' a), flat_append, e]
theorem vld_append {a b : List UInt8} (ha : vld a = true) (hb : vld b = true) : vld (a ++ b) = true := by
  have e := flat_pts' ha
  rw [← e, vld_flat_append (good_pts' a), hb]
theorem cln_length_ge : ∀ (n : Nat) (l : List UInt8), l.length ≤ n → l.length ≤ (cln l).length
  | n, [], _ => Nat.le_refl _
  | 0, x :: t, hn => by simp at hn
  | n + 1, x :: t, hn => by
    have hl : x :: t ≠ [] := by simp
    by_cases hz : sz1 (x :: t) = 0
    · rw [cln_bad hl hz]
      have := cln_length_ge n (List.drop 1 (x :: t)) (by simp at hn ⊢; omega)
      have := enc_length 65533
      rw [List.length_append]
      simp at *
      omega
    · have hp := sz1_toNat_pos hz
      rw [cln_step hl hz]
      have := cln_length_ge n (List.drop (sz1 (x :: t)).toNat (x :: t)) (by simp at hn ⊢; omega)
      rw [List.length_append, List.length_take, List.length_drop] at *
      omega
theorem array_eq {s : ByteArray} {l : List UInt8} (h : s.data.toList = l) : (⟨l.toArray⟩ : ByteArray) = s := by
  subst h
  cases s
  simp
theorem bytes_append (a b : ByteArray) : (a ++ b).data.toList = a.data.toList ++ b.data.toList := by
  rw [ByteArray.data_append, Array.toList_append]
/-- A place of a text: where a code point begins (or the end), or within one. -/
theorem place_cases : ∀ (cs : List Int) (k : Nat), k ≤ (flat cs).length →
    (∃ cs1 cs2, cs = cs1 ++ cs2 ∧ k = (flat cs1).length) ∨ (∃ cs1 c cs2 j, cs = cs1 ++ c :: cs2 ∧ k = (flat cs1).length + j ∧ 0 < j ∧ j < (enc c).length)
  | [], k, h => Or.inl ⟨[], [], rfl, by simp [flat] at h ⊢; exact h⟩
  | c :: cs, k, h => by
    rw [flat_cons, List.length_append] at h
    by_cases h0 : k = 0
    · exact Or.inl ⟨[], c :: cs, rfl, by rw [h0]; rfl⟩
    · by_cases h1 : k < (enc c).length
      · exact Or.inr ⟨[], c, cs, k, rfl, by simp [flat], by omega, h1⟩
      · rcases place_cases cs (k - (enc c).length) (by omega) with ⟨cs1, cs2, e, hk⟩ | ⟨cs1, d, cs2, j, e, hk, hj⟩
        · exact Or.inl ⟨c :: cs1, cs2, by rw [e]; rfl, by rw [flat_cons, List.length_append]; omega⟩
        · exact Or.inr ⟨c :: cs1, d, cs2, j, by rw [e]; rfl, by rw [flat_cons, List.length_append]; omega, hj⟩
theorem good_left {a b : List Int} (h : Good (a ++ b)) : Good a := fun x hx => h x (List.mem_append.2 (Or.inl hx))
theorem good_right {a b : List Int} (h : Good (a ++ b)) : Good b := fun x hx => h x (List.mem_append.2 (Or.inr hx))
theorem edge_join (a b : ByteArray) (ha : vld a.data.toList = true) (hb : vld b.data.toList = true) (k : Nat) (hk : k ≤ a.size) : edg (a ++ b) (k : Int) = edg a (k : Int) := by
  have ea := flat_pts' ha
  have eb := flat_pts' hb
  have ga := good_pts' a.data.toList
  have gb := good_pts' b.data.toList
  have hl : (flat (pts a.data.toList)).length = a.size := by rw [ea]; rfl
  rcases place_cases (pts a.data.toList) k (by omega) with ⟨cs1, cs2, e, rfl⟩ | ⟨cs1, c, cs2, j, e, rfl, h0, h1⟩
  · rw [e] at ga ea
    rw [edge_start (s := a) (cs1 := cs1) (cs2 := cs2) (by rw [← ea, flat_append]) (good_left ga) (good_right ga)]
    exact edge_start (s := a ++ b) (cs1 := cs1) (cs2 := cs2 ++ pts b.data.toList) (by rw [bytes_append, ← ea, ← eb, flat_append, flat_append, pts_flat' gb, List.append_assoc]) (good_left ga) ((good_right ga).append gb)
  · rw [e] at ga ea
    have hc : scalar c := (good_right ga).head
    rw [edge_within (s := a) (cs1 := cs1) (c := c) (cs2 := cs2) (by rw [← ea, flat_append]) hc j h0 h1]
    exact edge_within (s := a ++ b) (cs1 := cs1) (c := c) (cs2 := cs2 ++ pts b.data.toList) (by rw [bytes_append, ← ea, ← eb, flat_append, flat_cons, flat_cons, flat_append, pts_flat' gb]; simp) hc j h0 h1
theorem pts_append {a : List UInt8} (h : vld a = true) (b : List UInt8) : pts (a ++ b) = pts a ++ pts b := by
  have e := flat_pts' h
  conv => lhs; rw [← e]
  exact pts_flat (good_pts' a) b
theorem enc_len (c : Int) (h : scalar c) : (c < 128 ∧ (enc c).length = 1) ∨ (128 ≤ c ∧ c < 2048 ∧ (enc c).length = 2) ∨ (2048 ≤ c ∧ c < 65536 ∧ (enc c).length = 3) ∨ (65536 ≤ c ∧ (enc c).length = 4) := by
  unfold scalar at h
  by_cases g1 : c ≤ 127
  · exact Or.inl ⟨by omega, by unfold enc Lib.encodeRune; rw [Lib.encodeRuneZ_one (by omega) g1]; rfl⟩
  · by_cases g2 : c ≤ 2047
    · exact Or.inr (Or.inl ⟨by omega, by omega, by unfold enc Lib.encodeRune; rw [Lib.encodeRuneZ_two (by omega) g2]; rfl⟩)
    · by_cases g3 : c ≤ 65535
      · exact Or.inr (Or.inr (Or.inl ⟨by omega, by omega, by unfold enc Lib.encodeRune; rw [Lib.encodeRuneZ_three (by omega)]; rfl⟩))
      · exact Or.inr (Or.inr (Or.inr ⟨by omega, by unfold enc Lib.encodeRune; rw [Lib.encodeRuneZ_four (by omega) (by omega)]; rfl⟩))
end Go.Proofs.YtafhogfbjklboaaDoor
