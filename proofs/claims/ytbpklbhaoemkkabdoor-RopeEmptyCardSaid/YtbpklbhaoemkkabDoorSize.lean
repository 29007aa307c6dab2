/- utf.Size, walked: at every text and number; the table of bounds as a fact on memory. -/
import Derived.Test.YtbpklbhaoemkkabDoorWithin
import Derived.Lib.QuietBelow
namespace Go.Proofs.YtbpklbhaoemkkabDoor
open Go.RowKit Go.Sort

/-- The table lies in the world. -/
structure Tab (w : World) (tb : Nat × Nat) : Prop where
  head : w.cell? ⟨0, 0, none⟩ = some (.slice (some ⟨tb.1, tb.2, none⟩) 9 9)
  c0 : ∀ k, k < 9 → w.cell? ⟨tb.1, tb.2 + k * 7, none⟩ = some (.int .i32 (tF k))
  c1 : ∀ k, k < 9 → w.cell? ⟨tb.1, tb.2 + k * 7 + 1, none⟩ = some (.int .i32 (tL k))
  c2 : ∀ k, k < 9 → w.cell? ⟨tb.1, tb.2 + k * 7 + 2, none⟩ = some (.int .u8 (tLo k))
  c3 : ∀ k, k < 9 → w.cell? ⟨tb.1, tb.2 + k * 7 + 3, none⟩ = some (.int .u8 (tHi k))
  c4 : ∀ k, k < 9 → w.cell? ⟨tb.1, tb.2 + k * 7 + 4, none⟩ = some (.int .u8 (tA k))
  c5 : ∀ k, k < 9 → w.cell? ⟨tb.1, tb.2 + k * 7 + 5, none⟩ = some (.int .u8 (tZ k))
  c6 : ∀ k, k < 9 → w.cell? ⟨tb.1, tb.2 + k * 7 + 6, none⟩ = some (.int .i64 (tN k))

theorem Tab.later {w w' : World} {tb : Nat × Nat} (h : Tab w tb) (hb : Below w.heap.size w w') : Tab w' tb where
  head := cell_later hb h.head
  c0 := fun k hk => cell_later hb (h.c0 k hk)
  c1 := fun k hk => cell_later hb (h.c1 k hk)
  c2 := fun k hk => cell_later hb (h.c2 k hk)
  c3 := fun k hk => cell_later hb (h.c3 k hk)
  c4 := fun k hk => cell_later hb (h.c4 k hk)
  c5 := fun k hk => cell_later hb (h.c5 k hk)
  c6 := fun k hk => cell_later hb (h.c6 k hk)

theorem step1 {p : Nat → Prop} {k : Nat} (h : ∀ m, m < k → ¬ p m) (hk : ¬ p k) : ∀ m, m < k + 1 → ¬ p m := by
  intro m hm
  by_cases e : m = k
  · subst e; exact hk
  · exact h m (by omega)

set_option maxHeartbeats 800000 in
theorem size_in (s : ByteArray) (i : Nat) (w : World) (tb : Nat × Nat) (hs : s.size ≤ maxLen) (hi : i < s.size) (hT : Tab w tb) :
    Calls Tryd.prog 22 #[.string s, .int .i64 i] w fun e w' => e = .returned (.int .i64 (szN s i)) ∧ Below w.heap.size w w' := by
  have hmax := hs
  unfold maxLen at hs
  obtain ⟨tb, tOff⟩ := tb
  have hhead : w.cell? ⟨0, 0, none⟩ = some (.slice (some ⟨tb, tOff, none⟩) 9 9) := hT.head
  have hiI : (i : Int) < s.size := by omega
  have hb0 := byt_range s i
  rw [byt_of s i hi] at hb0
  have hit : Hid (∀ k, k < 9 → tLo k ≤ (s[i].toNat : Int) → (s[i].toNat : Int) ≤ tHi k → szN s i = wi ((s.size : Int) - i) (byt s (i + 1)) (byt s (i + 2)) (byt s (i + 3)) (tA k) (tZ k) (tN k)) := by
    intro k hk h1 h2
    rw [← byt_of s i hi] at h1 h2
    unfold szN
    rw [if_pos hi]
    exact row_hit hk h1 h2
  have miss : Hid ((∀ k, k < 9 → ¬ (tLo k ≤ (s[i].toNat : Int) ∧ (s[i].toNat : Int) ≤ tHi k)) → szN s i = 0) := by
    intro h
    rw [← byt_of s i hi] at h
    unfold szN
    rw [if_pos hi]
    exact row_miss (byt_range s i).1 h
  have d0 : decide ((i : Int) < 0) = false := by simp
  have d1 : decide (s.size ≤ i) = false := by simp; omega
  go_enter Tryd.func22, Tryd.ntmps22
  go_wp2
  go_loopw [17] (fun j wr => ∃ k : Nat, k ≤ 9 ∧ j = .int .i64 k ∧ Below w.heap.size w wr ∧ ∀ m, m < k → ¬ (tLo m ≤ (s[i].toNat : Int) ∧ (s[i].toNat : Int) ≤ tHi m)) (fun j _ => 9 - (intOf j).toNat)
  case atStart => exact ⟨0, by omega, rfl, Below.refl _ _, fun m hm => by omega⟩
  case round =>
    obtain ⟨k, hk, rfl, hb, hno⟩ := hrel
    have HN : Hid (∀ m, m < k → ¬ (tLo m ≤ (s[i].toNat : Int) ∧ (s[i].toNat : Int) ≤ tHi m)) := hno
    clear hno
    have hT2 := hT.later hb
    clear hhead
    by_cases hlt : k < 9
    · have hc := hit.out k hlt
      have HC : Hid (tLo k ≤ (s[i].toNat : Int) → (s[i].toNat : Int) ≤ tHi k → szN s i = wi ((s.size : Int) - i) (byt s (i + 1)) (byt s (i + 2)) (byt s (i + 3)) (tA k) (tZ k) (tN k)) := hc
      clear hc hit miss
      have c0 : wr.cell? ⟨tb, tOff + k * 7, none⟩ = some (.int .i32 (tF k)) := hT2.c0 k hlt
      have c1 : wr.cell? ⟨tb, tOff + k * 7 + 1, none⟩ = some (.int .i32 (tL k)) := hT2.c1 k hlt
      have c2 : wr.cell? ⟨tb, tOff + k * 7 + 2, none⟩ = some (.int .u8 (tLo k)) := hT2.c2 k hlt
      have c3 : wr.cell? ⟨tb, tOff + k * 7 + 3, none⟩ = some (.int .u8 (tHi k)) := hT2.c3 k hlt
      have c4 : wr.cell? ⟨tb, tOff + k * 7 + 4, none⟩ = some (.int .u8 (tA k)) := hT2.c4 k hlt
      have c5 : wr.cell? ⟨tb, tOff + k * 7 + 5, none⟩ = some (.int .u8 (tZ k)) := hT2.c5 k hlt
      have c6 : wr.cell? ⟨tb, tOff + k * 7 + 6, none⟩ = some (.int .i64 (tN k)) := hT2.c6 k hlt
      have hn := tN_le k hlt
      by_cases g1 : tLo k ≤ (s[i].toNat : Int)
      · by_cases g2 : (s[i].toNat : Int) ≤ tHi k
        · go_wp2
          go_quiet (fail)
          go_wp2
          have z : ∀ (v0 v1 v2 v3 v4 v5 v6 : Value) (j : Nat) (u : Value), [v0, v1, v2, v3, v4, v5, v6][j]? = some u → ∀ d os, (grow (redrawn ((wr.alloc (Obj.cells #[v0, v1, v2, v3, v4, v5, v6] 79)).drewN nq) d) os).cell? ⟨wr.heap.size, j, none⟩ = some u := by
            intro v0 v1 v2 v3 v4 v5 v6 j u hj d os
            refine cell_regrown ?_ d os
            show (wr.alloc _).cell? _ = _
            rw [World.cell?_alloc_new]
            simpa using hj
          have z0 := z (.int .i32 (tF k)) (.int .i32 (tL k)) (.int .u8 (tLo k)) (.int .u8 (tHi k)) (.int .u8 (tA k)) (.int .u8 (tZ k)) (.int .i64 (tN k)) 0 _ rfl
          have z1 := z (.int .i32 (tF k)) (.int .i32 (tL k)) (.int .u8 (tLo k)) (.int .u8 (tHi k)) (.int .u8 (tA k)) (.int .u8 (tZ k)) (.int .i64 (tN k)) 1 _ rfl
          have z2 := z (.int .i32 (tF k)) (.int .i32 (tL k)) (.int .u8 (tLo k)) (.int .u8 (tHi k)) (.int .u8 (tA k)) (.int .u8 (tZ k)) (.int .i64 (tN k)) 2 _ rfl
          have z3 := z (.int .i32 (tF k)) (.int .i32 (tL k)) (.int .u8 (tLo k)) (.int .u8 (tHi k)) (.int .u8 (tA k)) (.int .u8 (tZ k)) (.int .i64 (tN k)) 3 _ rfl
          have z4 := z (.int .i32 (tF k)) (.int .i32 (tL k)) (.int .u8 (tLo k)) (.int .u8 (tHi k)) (.int .u8 (tA k)) (.int .u8 (tZ k)) (.int .i64 (tN k)) 4 _ rfl
          have z5 := z (.int .i32 (tF k)) (.int .i32 (tL k)) (.int .u8 (tLo k)) (.int .u8 (tHi k)) (.int .u8 (tA k)) (.int .u8 (tZ k)) (.int .i64 (tN k)) 5 _ rfl
          have z6 := z (.int .i32 (tF k)) (.int .i32 (tL k)) (.int .u8 (tLo k)) (.int .u8 (tHi k)) (.int .u8 (tA k)) (.int .u8 (tZ k)) (.int .i64 (tN k)) 6 _ rfl
          clear z c0 c1 c2 c3 c4 c5 c6
          have hbw := hb.trans ((below_ad wr (Obj.cells #[.int .i32 (tF k), .int .i32 (tL k), .int .u8 (tLo k), .int .u8 (tHi k), .int .u8 (tA k), .int .u8 (tZ k), .int .i64 (tN k)] 79) nq).mono hb.size)
          generalize (wr.alloc (Obj.cells #[.int .i32 (tF k), .int .i32 (tL k), .int .u8 (tLo k), .int .u8 (tHi k), .int .u8 (tA k), .int .u8 (tZ k), .int .i64 (tN k)] 79)).drewN nq = W at *
          have hR : wi (s.extract i s.size).size (byt (s.extract i s.size) 1) (byt (s.extract i s.size) 2) (byt (s.extract i s.size) 3) (tA k) (tZ k) (tN k) = szN s i := by
            rw [HC.out g1 g2, byt_extract s i 1 (by omega), byt_extract s i 2 (by omega), byt_extract s i 3 (by omega), ByteArray.size_extract]
            congr 1
            omega
          have cW : ∀ d os, Calls Tryd.prog 36 #[.string (s.extract i s.size), .agg #[.int .i32 (tF k), .int .i32 (tL k), .int .u8 (tLo k), .int .u8 (tHi k), .int .u8 (tA k), .int .u8 (tZ k), .int .i64 (tN k)]] (grow (redrawn W d) os) fun e w'' => e = .returned (.int .i64 (szN s i)) ∧ ∃ p : Regrown, w'' = grow (redrawn W p.d) p.os := by
            intro d os
            have := within_any (s.extract i s.size) (tF k) (tL k) (tLo k) (tHi k) (tA k) (tZ k) (tN k) (grow (redrawn W d) os) (by rw [ByteArray.size_extract]; unfold maxLen; omega) hn.1 hn.2
            rw [hR] at this
            exact Calls.regrown_of this
          clear hR HC
          refine wp_region_quiet_below (by kernel_rfl) (by kernel_rfl) ?_
          repeat (go_big_quiet_step (exact cW _ _))
          refine wpQuiet_nil ?_
          intro _ hw'
          obtain ⟨⟨dq, osq⟩, hw''⟩ := hw'
          subst hw''
          go_wp2
          go_ret
          exact ⟨rfl, hbw.trans ((below_regrown W dq osq).mono hbw.size)⟩
        · have g2' : decide ((s[i].toNat : Int) ≤ tHi k) = false := by simpa using g2
          go_wp2
          go_quiet (fail)
          go_wp2
          go_roundw
          case rel => exact ⟨k + 1, by omega, by go_num, hb.trans ((below_ad _ _ _).mono hb.size), step1 HN.out (fun h => by omega)⟩
          case measure => simp [intOf]; omega
      · have g1' : decide (tLo k ≤ (s[i].toNat : Int)) = false := by simpa using g1
        go_wp2
        go_quiet (fail)
        go_wp2
        go_roundw
        case rel => exact ⟨k + 1, by omega, by go_num, hb.trans ((below_ad _ _ _).mono hb.size), step1 HN.out (fun h => by omega)⟩
        case measure => simp [intOf]; omega
    · go_wp2
      go_ret
      obtain rfl : k = 9 := by omega
      exact ⟨ret_int (miss.out HN.out).symm, hb⟩

set_option maxHeartbeats 800000 in
theorem size_out (s : ByteArray) (a : Int) (w : World) (ho : a < 0 ∨ (s.size : Int) ≤ a) :
    Calls Tryd.prog 22 #[.string s, .int .i64 a] w fun e w' => e = .returned (.int .i64 0) ∧ Below w.heap.size w w' := by
  by_cases h : a < 0
  · go_enter Tryd.func22, Tryd.ntmps22
    go_wp2
    go_ret
    exact ⟨rfl, Below.refl _ _⟩
  · have h' : (s.size : Int) ≤ a := by omega
    clear ho
    go_enter Tryd.func22, Tryd.ntmps22
    go_wp2
    go_ret
    exact ⟨rfl, Below.refl _ _⟩

/-- utf.Size, at every text and number. -/
theorem size_any (s : ByteArray) (a : Int) (w : World) (tb : Nat × Nat) (hs : s.size ≤ maxLen) (hT : Tab w tb) :
    Calls Tryd.prog 22 #[.string s, .int .i64 a] w fun e w' => e = .returned (.int .i64 (szAt s a)) ∧ Below w.heap.size w w' := by
  by_cases ho : a < 0 ∨ (s.size : Int) ≤ a
  · have e : szAt s a = 0 := by
      unfold szAt
      split
      · unfold szN; rw [if_neg (by omega)]
      · rfl
    rw [e]
    exact size_out s a w ho
  · obtain ⟨i, rfl⟩ : ∃ i : Nat, a = i := ⟨a.toNat, by omega⟩
    have e : szAt s (i : Int) = szN s i := by unfold szAt; rw [if_pos (by omega), Int.toNat_natCast]
    rw [e]
    exact size_in s i w tb hs (by omega) hT
end Go.Proofs.YtbpklbhaoemkkabDoor
