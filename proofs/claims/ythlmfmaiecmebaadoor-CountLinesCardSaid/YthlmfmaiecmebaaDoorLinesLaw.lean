/- CountLines, walked: it answers true at every row of texts. -/
import Derived.Test.YthlmfmaiecmebaaDoorKnownC
import Derived.Test.YthlmfmaiecmebaaDoorLinesMath
import Derived.Test.YthlmfmaiecmebaaDoorRefEdge
import Derived.Test.YthlmfmaiecmebaaDoorRowB
import Derived.Test.YthlmfmaiecmebaaDoorFld
namespace Go.Proofs.YthlmfmaiecmebaaDoor
open Go.RowKit Go.Sort

/-- The array of beginnings, k of them written. -/
def Arr13 (w : World) (g : Nat) (S : Nat → ByteArray) (k : Nat) : Prop :=
  (∀ j, j < 13 → w.cell? ⟨g, j, none⟩ = some (.int .i64 (if j < k then ((flat (lnP S j)).length : Int) else 0))) ∧ ∀ j, w.frozen? ⟨g, j, none⟩ = false
theorem arr13_new (w : World) (S : Nat → ByteArray) : Arr13 (w.alloc (.cells #[.int .i64 0, .int .i64 0, .int .i64 0, .int .i64 0, .int .i64 0, .int .i64 0, .int .i64 0, .int .i64 0, .int .i64 0, .int .i64 0, .int .i64 0, .int .i64 0, .int .i64 0] 40)) w.heap.size S 0 := by
  have h := heap_alloc_new w (.cells #[.int .i64 0, .int .i64 0, .int .i64 0, .int .i64 0, .int .i64 0, .int .i64 0, .int .i64 0, .int .i64 0, .int .i64 0, .int .i64 0, .int .i64 0, .int .i64 0, .int .i64 0] 40)
  refine ⟨fun j hj => ?_, fun j => frozen_of_row _ _ _ _ _ h⟩
  rw [cell_of_row _ _ _ _ _ _ h, if_neg (by omega)]
  match j, hj with
  | 0, _ => rfl
  | 1, _ => rfl
  | 2, _ => rfl
  | 3, _ => rfl
  | 4, _ => rfl
  | 5, _ => rfl
  | 6, _ => rfl
  | 7, _ => rfl
  | 8, _ => rfl
  | 9, _ => rfl
  | 10, _ => rfl
  | 11, _ => rfl
  | 12, _ => rfl
theorem Arr13.set {w : World} {g : Nat} {S : Nat → ByteArray} {k : Nat} (h : Arr13 w g S k) (hk : k < 13) {z : Int} (hz : z = ((flat (lnP S k)).length : Int)) : Arr13 (w.setCell ⟨g, k, none⟩ (.int .i64 z)) g S (k + 1) := by
  subst hz
  refine ⟨fun j hj => ?_, fun j => by rw [World.frozen?_setCell]; exact h.2 j⟩
  by_cases e : j = k
  · subst e
    rw [World.cell?_setCell_same _ _ _ (h.1 j hj), if_pos (by omega)]
  · rw [World.cell?_setCell_other _ _ _ _ (by intro hh; injection hh; omega), h.1 j hj]
    by_cases hjk : j < k
    · rw [if_pos hjk, if_pos (by omega)]
    · rw [if_neg hjk, if_neg (by omega)]
theorem Arr13.lt {w : World} {g : Nat} {S : Nat → ByteArray} {k : Nat} (h : Arr13 w g S k) : g < w.heap.size := block_lt_of_cell (h.1 0 (by omega))
theorem Arr13.later {w w' : World} {g : Nat} {S : Nat → ByteArray} {k : Nat} (h : Arr13 w g S k) (hb : Below w.heap.size w w') : Arr13 w' g S k :=
  ⟨fun j hj => cell_later hb (h.1 j hj), fun j => by rw [hb.frozen (p := ⟨g, j, none⟩) h.lt]; exact h.2 j⟩

set_option maxHeartbeats 1000000 in
set_option maxRecDepth 100000 in
theorem lines_out (n : Nat) (ad : Option Addr) (cap : Nat) (hl : n < 1 ∨ 12 < n) (hm : n ≤ maxLen) (w : World) (tb : Nat × Nat) (hT : Tabs w tb) :
    Calls Tryd.prog 7 #[.slice ad n cap] w fun e w' => e = .returned (.bool true) ∧ Below w.heap.size w w' := by
  unfold maxLen at hm
  by_cases h0 : (n : Int) < 1
  · clear hl
    go_enter Tryd.func7, Tryd.ntmps7
    go_wp2_with fail
    refine (known2_any _ tb hT).mono ?_
    rintro e w1 ⟨rfl, b1⟩
    go_wp2
    go_ret
    exact ⟨rfl, b1⟩
  · have h1 : (12 : Int) < n := by omega
    have q0 : decide ((n : Int) < 1) = false := by simpa using h0
    clear hl
    go_enter Tryd.func7, Tryd.ntmps7
    go_wp2_with fail
    refine (known2_any _ tb hT).mono ?_
    rintro e w1 ⟨rfl, b1⟩
    go_wp2
    go_ret
    exact ⟨rfl, b1⟩

set_option maxHeartbeats 2000000 in
set_option maxRecDepth 100000 in
theorem lines_row (n : Nat) (S : Nat → ByteArray) (v : Value) (hl : 1 ≤ n) (hl2 : n ≤ 12) (hS : ∀ i, i < n → (S i).size ≤ maxLen) (w : World) (tb : Nat × Nat) (hT : Tabs w tb) (hR : ValsAt w v n (fun i => .string (S i))) :
    Calls Tryd.prog 7 #[v] w fun e w' => e = .returned (.bool true) ∧ Below w.heap.size w w' := by
  obtain ⟨ad, cap, rfl, hcells⟩ := hR
  have HCE : Hid (∃ blk off, ad = some ⟨blk, off, none⟩ ∧ ∀ i, i < n → w.cell? ⟨blk, off + i, none⟩ = some (.string (S i))) := hcells (by omega)
  have HSz : Hid (∀ i, i < n → (S i).size ≤ maxLen) := hS
  have hd0 : decide ((n : Int) < 1) = false := by simp; omega
  have hd1 : decide ((12 : Int) < n) = false := by simp; omega
  clear hcells hS
  obtain ⟨blk, off, rfl, hcl⟩ := HCE.out
  have HCL : Hid (∀ i, i < n → w.cell? ⟨blk, off + i, none⟩ = some (.string (S i))) := hcl
  clear HCE hcl
  go_enter Tryd.func7, Tryd.ntmps7
  go_wp2_with fail
  refine (known2_any _ tb hT).mono ?_
  rintro e w1 ⟨rfl, g1⟩
  go_wp2
  go_loopw [3, 5] (fun s i wr => ∃ k : Nat, k ≤ n ∧ i = .int .i64 (k : Nat) ∧ s = .string (cacc (flat (lnT S k))) ∧ Hid (∀ j, j < k → Lin (S j)) ∧ Hid (Arr13 wr w1.heap.size S k) ∧ Below w.heap.size w wr) (fun _ i _ => n - (intOf i).toNat)
  case atStart => exact ⟨0, by omega, rfl, rfl, fun j hj => by omega, arr13_new w1 S, g1.alloc g1.size _⟩
  case round =>
    obtain ⟨k, hk, rfl, rfl, HL, HA, hb⟩ := hrel
    by_cases hlt : k < n
    · have hc := cell_later (hb.mono (Nat.le_refl _)) (HCL.out k hlt)
      have hsz := HSz.out k hlt
      obtain ⟨T, hTT⟩ : ∃ T, T = S k := ⟨_, rfl⟩
      rw [← hTT] at hc hsz
      have HTT : Hid (T = S k) := hTT
      clear hTT
      have HV : Hid (∀ W, Calls Tryd.prog 20 #[.string T] W fun e w' => e = .returned (.bool (vld T.data.toList)) ∧ w' = W) := fun W => refvalid_any T W hsz
      unfold maxLen at hsz
      by_cases hbig : (20 : Int) < (T.size : Int)
      · go_wp2
        go_ret
        exact ⟨rfl, hb⟩
      · have hbig' : decide ((20 : Int) < (T.size : Int)) = false := by simpa using hbig
        cases hv : vld T.data.toList with
        | false =>
          rw [hv] at HV
          clear hv
          go_wp2_with fail
          refine (HV.out _).mono ?_
          rintro e w2 ⟨rfl, rfl⟩
          go_wp2
          go_ret
          exact ⟨rfl, hb⟩
        | true =>
          rw [hv] at HV
          have HVV : Hid (vld T.data.toList = true) := hv
          clear hv
          go_wp2_with fail
          refine (HV.out _).mono ?_
          rintro e w2 ⟨rfl, rfl⟩
          clear HV
          go_wp2
          go_loopw [6] (fun b wx => ∃ m : Nat, m ≤ T.size ∧ b = .int .i64 (m : Nat) ∧ wx = w2 ∧ Hid (∀ j, j < m → byt T j ≠ 10)) (fun b _ => T.size - (intOf b).toNat)
          case atStart => exact ⟨0, by omega, rfl, rfl, fun j hj => by omega⟩
          case round =>
            obtain ⟨m, hm, rfl, rfl, HN⟩ := hrel
            by_cases hmt : m < T.size
            · have hmI : (m : Int) < (T.size : Int) := by omega
              have hbm := byt_of T m hmt
              by_cases hten : ((T[m].toNat : Int) == 10) = true
              · clear hbm
                go_wp2
                go_ret
                exact ⟨rfl, hb⟩
              · have hten' : ((T[m].toNat : Int) == 10) = false := by simpa using hten
                have HN2 : Hid (∀ j, j < m + 1 → byt T j ≠ 10) := by
                  intro j hj
                  by_cases e : j = m
                  · subst e; rw [hbm]; simpa using hten
                  · exact HN.out j (by omega)
                clear hbm hten HN
                go_wp2
                go_roundw
                case rel => exact ⟨m + 1, by omega, by go_num, trivial, HN2⟩
                case measure => simp [intOf]; omega
            · obtain rfl : m = T.size := by omega
              have HLin : Hid (∀ j, j < k + 1 → Lin (S j)) := by
                intro j hj
                by_cases e : j = k
                · subst e; rw [← HTT.out]; exact ⟨by omega, HVV.out, HN.out⟩
                · exact HL.out j (by omega)
              have HLn := Hid.mk4 (lnP_len S k HL.out)
              have hck := HA.out.1 k (by omega)
              rw [if_neg (by omega)] at hck
              have hfk := HA.out.2 k
              have hk12 : (k : Int) < 13 := by omega
              have HTd : Hid (flat (lnT S (k + 1)) = flat (lnP S k) ++ T.data.toList) := by
                show flat (lnP S k ++ pts (S k).data.toList) = _
                rw [flat_append, lin_flat (HLin.out k (by omega)), HTT.out]
              clear HN HL
              have hTl := lnT_len S k (fun j hj => HLin.out j (by omega))
              have hblk : blk < w.heap.size := block_lt_of_cell (HCL.out k hlt)
              have hcS : ∀ v, (wr.setCell ⟨w1.heap.size, k, none⟩ v).cell? ⟨blk, off + k, none⟩ = some (.string T) := fun v => by
                rw [World.cell?_setCell_other _ _ _ _ (by intro hh; injection hh; have := g1.size; omega)]
                exact hc
              clear hblk
              by_cases hk0 : k = 0
              · have hkz : decide ((0 : Int) < (k : Int)) = false := by simp; omega
                have hkzN : decide (0 < k) = false := by simp; omega
                have HS2 : Hid (cacc (flat (lnT S k)) ++ T = cacc (flat (lnT S (k + 1)))) := by
                  show _ = _
                  rw [HTd.out, ← cacc_append, cacc_bytes]
                  subst hk0
                  rfl
                have HZ : Hid (((cacc (flat (lnT S k))).size : Int) = ((flat (lnP S k)).length : Int)) := by
                  show _ = _
                  subst hk0
                  rfl
                have hT0 : (cacc (flat (lnT S k))).size ≤ 252 := by rw [cacc_size]; omega
                have HA2 := Hid.mk4 (HA.out.set (by omega) HZ.out)
                have hb2 : Below w.heap.size w (wr.setCell ⟨w1.heap.size, k, none⟩ (.int .i64 ((cacc (flat (lnT S k))).size : Int))) := hb.setCell (p := ⟨w1.heap.size, k, none⟩) g1.size _
                clear HTd HA hTl HZ hk0
                generalize cacc (flat (lnT S k)) = T0 at *
                go_wp2
                go_roundw
                case rel => exact ⟨k + 1, by omega, by go_num, by rw [HS2.out], HLin, HA2, hb2⟩
                case measure => simp [intOf]; omega
              · have hkp : (0 : Int) < (k : Int) := by omega
                have HS1 : cacc (flat (lnT S k)) ++ ⟨#[10]⟩ = cacc (flat (lnP S k)) := by
                  obtain ⟨k', rfl⟩ : ∃ k', k = k' + 1 := ⟨k - 1, by omega⟩
                  rw [lnP_succ, flat_append, ← cacc_append, flat_ten]
                  rfl
                have HS2 : Hid (cacc (flat (lnT S k)) ++ ⟨#[10]⟩ ++ T = cacc (flat (lnT S (k + 1)))) := by
                  show _ = _
                  rw [HTd.out, ← cacc_append, cacc_bytes, HS1]
                have HZ : Hid (((cacc (flat (lnT S k))).size : Int) + 1 = ((flat (lnP S k)).length : Int)) := by
                  have e := congrArg ByteArray.size HS1
                  rw [ByteArray.size_append, cacc_size (flat (lnP S k)), show (⟨#[10]⟩ : ByteArray).size = 1 from rfl] at e
                  show _ = _
                  omega
                have hT0 : (cacc (flat (lnT S k))).size ≤ 252 := by rw [cacc_size]; omega
                have HA2 := Hid.mk4 (HA.out.set (by omega) HZ.out)
                have hb2 : Below w.heap.size w (wr.setCell ⟨w1.heap.size, k, none⟩ (.int .i64 (((cacc (flat (lnT S k))).size : Int) + 1))) := hb.setCell (p := ⟨w1.heap.size, k, none⟩) g1.size _
                clear HTd HA hTl HZ HS1 hk0
                generalize cacc (flat (lnT S k)) = T0 at *
                go_wp2
                go_roundw
                case rel => exact ⟨k + 1, by omega, by go_num, by rw [HS2.out], HLin, HA2, hb2⟩
                case measure => simp [intOf]; omega
    · obtain rfl : k = n := by omega
      obtain ⟨U, hU⟩ : ∃ U : ByteArray, U = cacc (flat (lnT S k)) := ⟨_, rfl⟩
      rw [← hU]
      have hUd : U.data.toList = flat (lnT S k) := by rw [hU]; rfl
      have hUs : U.size ≤ 252 := by
        have := lnT_len S k HL.out
        have e : U.size = (flat (lnT S k)).length := by rw [← hUd]; rfl
        omega
      have hAl : ∀ i, i < k → (flat (lnP S i)).length ≤ 252 := fun i hi => by
        have := lnP_len S i (fun j hj => HL.out j (by omega))
        omega
      have HT1 : Hid (∀ i : Nat, i < k → ∀ W, Tabs W tb → Calls Tryd.prog 10 #[.string U, .int .i64 3, .int .i64 (i : Nat)] W fun e w' => e = .returned (.tuple #[.int .i64 ((flat (lnP S i)).length : Nat), .int .i64 0]) ∧ Below W.heap.size W w') := fun i hi W h => by
        have := to_any U 3 i W tb (by omega) h
        obtain ⟨⟨e1, e2⟩, _, _⟩ := line_to hUd HL.out hi
        rwa [e1, e2] at this
      have HF1 : Hid (∀ i : Nat, i < k → ∀ W, Tabs W tb → Calls Tryd.prog 12 #[.string U, .int .i64 3, .int .i64 ((flat (lnP S i)).length : Nat)] W fun e w' => e = .returned (.tuple #[.int .i64 (i : Nat), .int .i64 0]) ∧ Below W.heap.size W w') := fun i hi W h => by
        have := from_any U 3 ((flat (lnP S i)).length : Nat) W tb (by omega) h
        obtain ⟨_, e1, e2⟩ := line_to hUd HL.out hi
        rwa [e1, e2] at this
      obtain ⟨n', hn'⟩ : ∃ n', k = n' + 1 := ⟨k - 1, by omega⟩
      have HT2 : Hid (∀ W, Tabs W tb → Calls Tryd.prog 10 #[.string U, .int .i64 3, .int .i64 (k : Nat)] W fun e w' => e = .returned (.tuple #[.int .i64 0, .int .i64 10]) ∧ Below W.heap.size W w') := fun W h => by
        have := to_any U 3 k W tb (by omega) h
        obtain ⟨e1, e2⟩ := line_none (s := U) (S := S) (n := n') (by rw [hUd, hn']) (by rw [← hn']; exact HL.out)
        rw [← hn'] at e1 e2
        rwa [e1, e2] at this
      have hkL : kL (lnT S k) = (k : Int) - 1 := by
        rw [hn', lnT_kL S n' (by rw [← hn']; exact HL.out)]
        omega
      have HO : Hid (∀ W, Tabs W tb → Calls Tryd.prog 14 #[.string U] W fun e w' => e = .returned (.agg #[.int .i64 (kB (lnT S k)), .int .i64 (kP (lnT S k)), .int .i64 (kU (lnT S k)), .int .i64 ((k : Int) - 1)]) ∧ Below W.heap.size W w') := fun W h => by
        have := of_any U W tb (by omega) h
        rw [hUd, pts_flat' (lnT_good S k), hkL] at this
        exact this
      generalize kB (lnT S k) = vB at *
      generalize kP (lnT S k) = vP at *
      generalize kU (lnT S k) = vU at *
      have HAl : Hid (∀ i, i < k → (flat (lnP S i)).length ≤ 252) := hAl
      clear hU hUd hn' hkL hAl
      go_wp2
      go_loopw [7] (fun i wx => ∃ m : Nat, m ≤ k ∧ i = .int .i64 (m : Nat) ∧ Below wr.heap.size wr wx) (fun i _ => k - (intOf i).toNat)
      case atStart => exact ⟨0, by omega, rfl, Below.refl _ _⟩
      case round =>
        obtain ⟨m, hm, rfl, hx⟩ := hrel
        have gx := hb.trans (hx.mono hb.size)
        have tx := hT.later gx
        by_cases hmk : m < k
        · have HA1 := Hid.mk4 (HT1.out m hmk)
          have HB1 := Hid.mk4 (HF1.out m hmk)
          have hal := HAl.out m hmk
          have hc := (HA.out.later hx).1 m (by omega)
          rw [if_pos hmk] at hc
          have hm13 : (m : Int) < 13 := by omega
          clear HT1 HF1 HAl HT2 HO
          generalize (flat (lnP S m)).length = am at *
          go_wp2_with fail
          refine (HA1.out _ tx).mono ?_
          rintro e w3 ⟨rfl, b3⟩
          have x3 := hx.trans (b3.mono hx.size)
          have t3 := hT.later (hb.trans (x3.mono hb.size))
          have hc3 := cell_later b3 hc
          clear b3 hc
          go_wp2_with fail
          refine (HB1.out _ t3).mono ?_
          rintro e w4 ⟨rfl, b4⟩
          have x4 := x3.trans (b4.mono x3.size)
          have hc4 := cell_later b4 hc3
          clear b4 hc3 x3 t3
          go_wp2
          go_roundw
          case rel => exact ⟨m + 1, by omega, by go_num, x4⟩
          case measure => simp [intOf]; omega
        · clear HT1 HF1 HAl
          go_wp2_with fail
          obtain rfl : m = k := by omega
          refine (HT2.out _ tx).mono ?_
          rintro e w3 ⟨rfl, b3⟩
          have g3 := gx.trans (b3.mono gx.size)
          have t3 := hT.later g3
          clear b3
          go_wp2_with fail
          refine (HO.out _ t3).mono ?_
          rintro e w4 ⟨rfl, b4⟩
          have g4 := g3.trans (b4.mono g3.size)
          have hfl := counts_lines vB vP vU ((m : Int) - 1) w4
          go_wp2
          go_ret
          exact ⟨rfl, g4⟩

theorem lines_any (n : Nat) (S : Nat → ByteArray) (v : Value) (hm : n ≤ maxLen) (hS : ∀ i, i < n → (S i).size ≤ maxLen) (w : World) (tb : Nat × Nat) (hT : Tabs w tb) (hR : ValsAt w v n (fun i => .string (S i))) :
    Calls Tryd.prog 7 #[v] w fun e w' => e = .returned (.bool true) ∧ Below w.heap.size w w' := by
  by_cases hl : n < 1 ∨ 12 < n
  · obtain ⟨ad, cap, rfl, _⟩ := hR
    exact lines_out n ad cap hl hm w tb hT
  · exact lines_row n S v (by omega) (by omega) hS w tb hT hR
end Go.Proofs.YthlmfmaiecmebaaDoor
