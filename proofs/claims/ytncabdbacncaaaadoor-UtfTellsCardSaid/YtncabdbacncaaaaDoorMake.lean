/- utf.toRune and utf.Make, walked. -/
import Derived.Test.YtncabdbacncaaaaDoorClean
namespace Go.Proofs.YtncabdbacncaaaaDoor
open Go.RowKit Go.Sort

/-- toRune. -/
def tor (n : Int) : Int := if (0 ≤ n ∧ n < 55296) ∨ (57344 ≤ n ∧ n ≤ 1114111) then n else 65533
theorem tor_scalar (n : Int) : scalar (tor n) := by unfold tor scalar; split <;> omega
theorem tor_hit {n : Int} {k : Nat} (hk : k < 9) (h1 : tF k ≤ n) (h2 : n ≤ tL k) : tor n = n := by
  have : k = 0 ∨ k = 1 ∨ k = 2 ∨ k = 3 ∨ k = 4 ∨ k = 5 ∨ k = 6 ∨ k = 7 ∨ k = 8 := by omega
  rcases this with rfl | rfl | rfl | rfl | rfl | rfl | rfl | rfl | rfl <;> simp only [tF, tL, List.getD_cons_succ, List.getD_cons_zero] at * <;> unfold tor <;> rw [if_pos (by omega)]
theorem tor_miss {n : Int} (h : ∀ k, k < 9 → ¬ (tF k ≤ n ∧ n ≤ tL k)) : tor n = 65533 := by
  have g0 := h 0 (by omega); have g1 := h 1 (by omega); have g2 := h 2 (by omega); have g3 := h 3 (by omega); have g4 := h 4 (by omega)
  have g5 := h 5 (by omega); have g6 := h 6 (by omega); have g7 := h 7 (by omega); have g8 := h 8 (by omega)
  simp only [tF, tL, List.getD_cons_succ, List.getD_cons_zero] at g0 g1 g2 g3 g4 g5 g6 g7 g8
  unfold tor
  rw [if_neg (by omega)]
theorem tFL_range (k : Nat) (h : k < 9) : 0 ≤ tF k ∧ tF k ≤ 1114111 ∧ 0 ≤ tL k ∧ tL k ≤ 1114111 := by
  have : k = 0 ∨ k = 1 ∨ k = 2 ∨ k = 3 ∨ k = 4 ∨ k = 5 ∨ k = 6 ∨ k = 7 ∨ k = 8 := by omega
  rcases this with rfl | rfl | rfl | rfl | rfl | rfl | rfl | rfl | rfl <;> decide

set_option maxHeartbeats 400000 in
theorem torune_any (n : Int) (w : World) (tb : Nat × Nat) (hn : -9223372036854775808 ≤ n ∧ n ≤ 9223372036854775807) (hT : Tab w tb) :
    Calls Tryd.prog 29 #[.int .i64 n] w fun e w' => e = .returned (.int .i32 (tor n)) ∧ Below w.heap.size w w' := by
  obtain ⟨tb, tOff⟩ := tb
  have hhead : w.cell? ⟨0, 0, none⟩ = some (.slice (some ⟨tb, tOff, none⟩) 9 9) := hT.head
  have hit : Hid (∀ k, k < 9 → tF k ≤ n → n ≤ tL k → tor n = n) := fun k hk a b => tor_hit hk a b
  have miss : Hid ((∀ k, k < 9 → ¬ (tF k ≤ n ∧ n ≤ tL k)) → tor n = 65533) := tor_miss
  go_enter Tryd.func29, Tryd.ntmps29
  go_wp2
  go_loopw [7] (fun j wr => ∃ k : Nat, k ≤ 9 ∧ j = .int .i64 k ∧ Below w.heap.size w wr ∧ ∀ m, m < k → ¬ (tF m ≤ n ∧ n ≤ tL m)) (fun j _ => 9 - (intOf j).toNat)
  case atStart => exact ⟨0, by omega, rfl, Below.refl _ _, fun m hm => by omega⟩
  case round =>
    obtain ⟨k, hk, rfl, hb, hno⟩ := hrel
    have HN : Hid (∀ m, m < k → ¬ (tF m ≤ n ∧ n ≤ tL m)) := hno
    clear hno
    have hT2 := hT.later hb
    clear hhead
    by_cases hlt : k < 9
    · have hc := hit.out k hlt
      have HC : Hid (tF k ≤ n → n ≤ tL k → tor n = n) := hc
      clear hc hit miss
      have c0 : wr.cell? ⟨tb, tOff + k * 7, none⟩ = some (.int .i32 (tF k)) := hT2.c0 k hlt
      have c1 : wr.cell? ⟨tb, tOff + k * 7 + 1, none⟩ = some (.int .i32 (tL k)) := hT2.c1 k hlt
      have c2 : wr.cell? ⟨tb, tOff + k * 7 + 2, none⟩ = some (.int .u8 (tLo k)) := hT2.c2 k hlt
      have c3 : wr.cell? ⟨tb, tOff + k * 7 + 3, none⟩ = some (.int .u8 (tHi k)) := hT2.c3 k hlt
      have c4 : wr.cell? ⟨tb, tOff + k * 7 + 4, none⟩ = some (.int .u8 (tA k)) := hT2.c4 k hlt
      have c5 : wr.cell? ⟨tb, tOff + k * 7 + 5, none⟩ = some (.int .u8 (tZ k)) := hT2.c5 k hlt
      have c6 : wr.cell? ⟨tb, tOff + k * 7 + 6, none⟩ = some (.int .i64 (tN k)) := hT2.c6 k hlt
      obtain ⟨r1, r2, r3, r4⟩ := tFL_range k hlt
      by_cases g1 : tF k ≤ n
      · by_cases g2 : n ≤ tL k
        · go_wp2
          go_ret
          exact ⟨ret_int (HC.out g1 g2).symm, hb.trans (((Below.refl _ _).alloc (Nat.le_refl _) _).mono hb.size)⟩
        · have g2' : decide (n ≤ tL k) = false := by simpa using g2
          go_wp2
          go_roundw
          case rel => exact ⟨k + 1, by omega, by go_num, hb.trans (((Below.refl _ _).alloc (Nat.le_refl _) _).mono hb.size), step1 HN.out (fun h => by omega)⟩
          case measure => simp [intOf]; omega
      · have g1' : decide (tF k ≤ n) = false := by simpa using g1
        go_wp2
        go_roundw
        case rel => exact ⟨k + 1, by omega, by go_num, hb.trans (((Below.refl _ _).alloc (Nat.le_refl _) _).mono hb.size), step1 HN.out (fun h => by omega)⟩
        case measure => simp [intOf]; omega
    · go_wp2
      go_ret
      obtain rfl : k = 9 := by omega
      exact ⟨ret_int (miss.out HN.out).symm, hb⟩

/-- A row of ints in memory. -/
def IntsAt (w : World) (v : Value) (zs : List Int) : Prop :=
  (v = .slice none 0 0 ∧ zs = []) ∨ ∃ blk off cap, v = .slice (some ⟨blk, off, none⟩) zs.length cap ∧ (∀ i, i < zs.length → w.cell? ⟨blk, off + i, none⟩ = some (.int .i64 (zs.getD i 0)))

set_option maxHeartbeats 1000000 in
set_option maxRecDepth 100000 in
/-- utf.Make. -/
theorem make_row (zs : List Int) (blk off cap : Nat) (w : World) (tb : Nat × Nat) (hz : ∀ i, i < zs.length → -9223372036854775808 ≤ zs.getD i 0 ∧ zs.getD i 0 ≤ 9223372036854775807) (hl : zs.length ≤ 1099511627776) (hcell : ∀ i, i < zs.length → w.cell? ⟨blk, off + i, none⟩ = some (.int .i64 (zs.getD i 0))) (hT : Tab w tb) :
    Calls Tryd.prog 24 #[.slice (some ⟨blk, off, none⟩) zs.length cap] w fun e w' => e = .returned (.string ⟨(flat (zs.map tor)).toArray⟩) ∧ Below w.heap.size w w' := by
  go_enter Tryd.func24, Tryd.ntmps24
  go_wp2
  go_loopw [8] (fun j wr => ∃ (k : Nat), k ≤ zs.length ∧ j = .int .i64 k ∧ Lib.IsBuilderF 49 5 w.heap.size w.heap.size (Lib.byteCells (flat ((zs.take k).map tor))) wr ∧ Below w.heap.size w wr) (fun j _ => zs.length - (intOf j).toNat)
  case atStart => exact ⟨0, by omega, rfl, Lib.IsBuilderF.of (Lib.fresh_isBuilder 49 5 w), (Below.refl _ _).alloc (Nat.le_refl _) _⟩
  case round =>
    obtain ⟨k, hk, rfl, hI, hb⟩ := hrel
    have hT2 := hT.later hb
    by_cases hlt : k < zs.length
    · have hck := cell_later hb (hcell k hlt)
      have hzk := hz k hlt
      have HE : Hid (flat ((zs.take (k + 1)).map tor) = flat ((zs.take k).map tor) ++ enc (tor (zs.getD k 0))) := by
        show flat _ = _
        rw [List.take_succ_eq_append_getElem hlt, List.map_append, flat_append]
        simp [flat, List.getD_eq_getElem?_getD, hlt]
      have hfl := (flat_length_ge ((zs.take k).map tor)).2
      rw [List.length_map, List.length_take] at hfl
      generalize zs.getD k 0 = n at *
      have hr := torune_any n wr tb hzk hT2
      have hts := tor_scalar n
      unfold scalar at hts
      generalize tor n = r at *
      clear hcell hz
      go_wp2_with (go_at_call 29; refine hr.mono ?_; rintro e w1 ⟨rfl, hb1⟩)
      have hI1 := builder_later hI hb1
      have hsz : w.heap.size ≤ w1.heap.size := Nat.le_trans hb.size hb1.size
      refine (Tryd.Builder_WriteRune_k w.heap.size w.heap.size _ r (by omega) (by omega) _ hI1 (by rw [Lib.byteCells_length]; omega) hsz).mono ?_
      rintro e w2 ⟨rfl, h1, b1, k1⟩
      go_wp2
      go_roundw
      case rel =>
        refine ⟨k + 1, by omega, by go_num, ?_, (hb.trans (hb1.mono hb.size)).trans b1⟩
        rw [HE.out, Lib.byteCells_append, enc, Lib.byteCells_encodeRune]; exact Or.inr h1
      case measure => simp [intOf]; omega
    · obtain rfl : k = zs.length := by omega
      rw [List.take_length] at hI
      go_wp2_with (go_at_call 28; refine (Tryd.Builder_String_any_k w.heap.size w.heap.size _ _ hI hb.size).mono ?_)
      rintro e w1 ⟨rfl, _, b1, _⟩
      go_wp2
      go_ret
      exact ⟨rfl, hb.trans b1⟩

set_option maxHeartbeats 1000000 in
theorem make_nil (w : World) :
    Calls Tryd.prog 24 #[.slice none 0 0] w fun e w' => e = .returned (.string ⟨#[]⟩) ∧ Below w.heap.size w w' := by
  go_enter Tryd.func24, Tryd.ntmps24
  go_wp2
  go_loopw [8] (fun j wr => j = .int .i64 0 ∧ Lib.IsBuilderF 49 5 w.heap.size w.heap.size (Lib.byteCells []) wr ∧ Below w.heap.size w wr) (fun _ _ => 0)
  case atStart => exact ⟨rfl, Lib.IsBuilderF.of (Lib.fresh_isBuilder 49 5 w), (Below.refl _ _).alloc (Nat.le_refl _) _⟩
  case round =>
    obtain ⟨rfl, hI, hb⟩ := hrel
    go_wp2_with (go_at_call 28; refine (Tryd.Builder_String_any_k w.heap.size w.heap.size _ _ hI hb.size).mono ?_)
    rintro e w1 ⟨rfl, _, b1, _⟩
    go_wp2
    go_ret
    exact ⟨rfl, hb.trans b1⟩

/-- utf.Make, at every row. -/
theorem make_any (zs : List Int) (v : Value) (w : World) (tb : Nat × Nat) (hz : ∀ i, i < zs.length → -9223372036854775808 ≤ zs.getD i 0 ∧ zs.getD i 0 ≤ 9223372036854775807) (hl : zs.length ≤ 1099511627776) (hv : IntsAt w v zs) (hT : Tab w tb) :
    Calls Tryd.prog 24 #[v] w fun e w' => e = .returned (.string ⟨(flat (zs.map tor)).toArray⟩) ∧ Below w.heap.size w w' := by
  rcases hv with ⟨rfl, rfl⟩ | ⟨blk, off, cap, rfl, hc⟩
  · exact make_nil w
  · exact make_row zs blk off cap w tb hz hl hc hT
end Go.Proofs.YtncabdbacncaaaaDoor
