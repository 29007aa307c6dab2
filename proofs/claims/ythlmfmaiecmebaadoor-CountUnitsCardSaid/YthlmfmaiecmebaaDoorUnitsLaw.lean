/- CountUnits, walked: it answers true at every row of bools. -/
import Derived.Test.YthlmfmaiecmebaaDoorKnownC
import Derived.Test.YthlmfmaiecmebaaDoorCntTo
import Derived.Test.YthlmfmaiecmebaaDoorRefEdge
import Derived.Test.YthlmfmaiecmebaaDoorRowB
import Derived.Test.YthlmfmaiecmebaaDoorFld
namespace Go.Proofs.YthlmfmaiecmebaaDoor
open Go.RowKit Go.Sort

/-- Within a code point of two units. -/
theorem to_unit {s : ByteArray} (hv : vld s.data.toList = true) {cs1 cs3 : List Int} {c : Int} (h : pts s.data.toList = cs1 ++ c :: cs3) (hc : 65535 < c) :
    toE s 2 (kG 2 cs1 + 1) = 50 ∧ toB s 2 (kG 2 cs1 + 1) = 0 := by
  have hct : ctb s 2 = true := by unfold ctb; rw [hv, Bool.and_true]; simp
  have hu : kG 2 [c] = 2 := by show kU [c] = 2; rw [kU_one]; unfold un; rw [if_pos hc]
  have e3 := (kG_range 2 cs3).1
  have e1 := (kG_range 2 cs1).1
  have hcons : ∀ t, kG 2 (c :: t) = 2 + kG 2 t := fun t => by rw [show c :: t = [c] ++ t from rfl, kG_append, hu]
  have hn : ¬ (kG 2 cs1 + 1 < 0 ∨ kG 2 (pts s.data.toList) < kG 2 cs1 + 1) := by rw [h, kG_append, hcons]; omega
  have hne : kG 2 (rch 2 (kG 2 cs1 + 1) [] (pts s.data.toList)) ≠ kG 2 cs1 + 1 := by
    obtain ⟨r1, r2, g1, g2, _, _⟩ := rch_split 2 (kG 2 cs1 + 1) (pts s.data.toList) []
    rw [g2, List.nil_append]
    rw [h] at g1
    rcases List.append_eq_append_iff.1 g1 with ⟨a, ha, hb⟩ | ⟨a, ha, hb⟩
    · cases a with
      | nil => rw [List.append_nil] at ha; rw [ha]; omega
      | cons d a' =>
        have := (List.cons.inj hb).1
        subst this
        have q := (kG_range 2 a').1
        rw [ha, kG_append, hcons]
        omega
    · have q := (kG_range 2 a).1
      rw [ha, kG_append]
      omega
  refine ⟨?_, ?_⟩
  · unfold toE
    rw [if_neg (by rw [hct]; simp), if_neg hn, if_neg hne, if_pos rfl]
  · unfold toB
    rw [if_neg (by rw [hct]; simp), if_neg hn, if_neg hne]

def uc (b : Bool) : Int := if b then 128512 else 120
theorem uc_scalar (b : Bool) : scalar (uc b) := by cases b <;> (unfold uc scalar; simp)
/-- The first k numbers. -/
def ucs (B : Nat → Bool) (k : Nat) : List Int := (List.range k).map fun i => uc (B i)
theorem ucs_succ (B : Nat → Bool) (k : Nat) : ucs B (k + 1) = ucs B k ++ [uc (B k)] := by unfold ucs; rw [List.range_succ, List.map_append]; rfl
theorem ucs_good (B : Nat → Bool) (k : Nat) : Good (ucs B k) := by
  intro x hx
  obtain ⟨i, _, rfl⟩ := List.mem_map.1 hx
  exact uc_scalar _
theorem ucs_length (B : Nat → Bool) (k : Nat) : (ucs B k).length = k := by unfold ucs; simp
theorem ucs_split (B : Nat → Bool) (n : Nat) : ∀ d k, k + d = n → ∃ t, ucs B n = ucs B k ++ t ∧ (0 < d → ∃ t', t = uc (B k) :: t')
  | 0, k, h => ⟨[], by rw [← h]; simp, fun h => absurd h (by omega)⟩
  | d + 1, k, h => by
    obtain ⟨t, ht, _⟩ := ucs_split B n d (k + 1) (by omega)
    exact ⟨uc (B k) :: t, by rw [ht, ucs_succ, List.append_assoc]; rfl, fun _ => ⟨t, rfl⟩⟩

set_option maxHeartbeats 1000000 in
set_option maxRecDepth 100000 in
theorem units_long (n : Nat) (ad : Option Addr) (cap : Nat) (hl : 40 < n) (hm : n ≤ maxLen) (w : World) (tb : Nat × Nat) (hT : Tabs w tb) :
    Calls Tryd.prog 6 #[.slice ad n cap] w fun e w' => e = .returned (.bool true) ∧ Below w.heap.size w w' := by
  unfold maxLen at hm
  have h1 : (40 : Int) < n := by omega
  go_enter Tryd.func6, Tryd.ntmps6
  go_wp2_with fail
  refine (known2_any _ tb hT).mono ?_
  rintro e w1 ⟨rfl, b1⟩
  go_wp2
  go_ret
  exact ⟨rfl, b1⟩

set_option maxHeartbeats 2000000 in
set_option maxRecDepth 100000 in
theorem units_row (n : Nat) (B : Nat → Bool) (v : Value) (hl : n ≤ 40) (w : World) (tb : Nat × Nat) (hT : Tabs w tb) (hR : ValsAt w v n (fun i => .bool (B i))) :
    Calls Tryd.prog 6 #[v] w fun e w' => e = .returned (.bool true) ∧ Below w.heap.size w w' := by
  obtain ⟨ad, cap, rfl, hcells⟩ := hR
  have HCE : Hid (0 < n → ∃ blk off, ad = some ⟨blk, off, none⟩ ∧ ∀ i, i < n → w.cell? ⟨blk, off + i, none⟩ = some (.bool (B i))) := hcells
  have hd : decide ((40 : Int) < n) = false := by simp; omega
  clear hcells
  go_enter Tryd.func6, Tryd.ntmps6
  go_wp2_with fail
  refine (known2_any _ tb hT).mono ?_
  rintro e w1 ⟨rfl, b1⟩
  go_wp2
  go_loopw [3, 4] (fun s i wr => ∃ k : Nat, k ≤ n ∧ i = .int .i64 (k : Nat) ∧ s = .string (cacc (flat (ucs B k))) ∧ Below w.heap.size w wr) (fun _ i _ => n - (intOf i).toNat)
  case atStart => exact ⟨0, by omega, rfl, rfl, b1⟩
  case round =>
    obtain ⟨k, hk, rfl, rfl, hb⟩ := hrel
    by_cases hlt : k < n
    · obtain ⟨blk, off, rfl, hcl⟩ := HCE.out (by omega)
      have hc := cell_later (hb.mono (Nat.le_refl _)) (hcl k hlt)
      have hfl : (cacc (flat (ucs B k))).size ≤ 160 := by
        have := (flat_length_ge (ucs B k)).2
        rw [ucs_length] at this
        rw [cacc_size]; omega
      cases hB : B k with
      | true =>
        have HS : Hid (cacc (flat (ucs B k)) ++ ⟨#[240, 159, 152, 128]⟩ = cacc (flat (ucs B (k + 1)))) := by
          show _ = _
          rw [ucs_succ, flat_append, ← cacc_append, hB]
          rfl
        rw [hB] at hc
        clear hcl
        generalize cacc (flat (ucs B k)) = T at *
        go_wp2
        go_roundw
        case rel => exact ⟨k + 1, by omega, by go_num, by rw [HS.out], hb⟩
        case measure => simp [intOf]; omega
      | false =>
        have HS : Hid (cacc (flat (ucs B k)) ++ ⟨#[120]⟩ = cacc (flat (ucs B (k + 1)))) := by
          show _ = _
          rw [ucs_succ, flat_append, ← cacc_append, hB]
          rfl
        rw [hB] at hc
        clear hcl
        generalize cacc (flat (ucs B k)) = T at *
        go_wp2
        go_roundw
        case rel => exact ⟨k + 1, by omega, by go_num, by rw [HS.out], hb⟩
        case measure => simp [intOf]; omega
    · obtain rfl : k = n := by omega
      obtain ⟨S, hS⟩ : ∃ S : ByteArray, S = cacc (flat (ucs B k)) := ⟨_, rfl⟩
      rw [← hS]
      have hg := ucs_good B k
      have hSd : S.data.toList = flat (ucs B k) := by rw [hS]; rfl
      have hv : vld S.data.toList = true := by rw [hSd]; exact vld_flat hg
      have hp : pts S.data.toList = ucs B k := by rw [hSd]; exact pts_flat' hg
      have hsz : S.size ≤ 160 := by
        have := (flat_length_ge (ucs B k)).2
        rw [ucs_length] at this
        have e : S.size = (flat (ucs B k)).length := by rw [← hSd]; rfl
        omega
      have HO : Hid (∀ W, Tabs W tb → Calls Tryd.prog 14 #[.string S] W fun e w' => e = .returned (.agg #[.int .i64 (kB (ucs B k)), .int .i64 (kP (ucs B k)), .int .i64 (kU (ucs B k)), .int .i64 (kL (ucs B k))]) ∧ Below W.heap.size W w') := fun W h => by
        have := of_any S W tb (by omega) h
        rwa [hp] at this
      have HT1 : Hid (∀ m, m ≤ k → ∀ W, Tabs W tb → Calls Tryd.prog 10 #[.string S, .int .i64 2, .int .i64 (kU (ucs B m))] W fun e w' => e = .returned (.tuple #[.int .i64 ((flat (ucs B m)).length : Nat), .int .i64 0]) ∧ Below W.heap.size W w') := fun m hm W h => by
        obtain ⟨t, ht, _⟩ := ucs_split B k (k - m) m (by omega)
        have := to_any S 2 (kU (ucs B m)) W tb (by omega) h
        have he := to_edge_same hv (hp.trans ht) 2 (by omega)
        have e1 : toE S 2 (kU (ucs B m)) = 0 := he.1
        have e2 : toB S 2 (kU (ucs B m)) = ((flat (ucs B m)).length : Nat) := he.2
        rwa [e1, e2] at this
      have HT2 : Hid (∀ m, m < k → B m = true → ∀ W, Tabs W tb → Calls Tryd.prog 10 #[.string S, .int .i64 2, .int .i64 (kU (ucs B m) + 1)] W fun e w' => e = .returned (.tuple #[.int .i64 0, .int .i64 50]) ∧ Below W.heap.size W w') := fun m hm hb W h => by
        obtain ⟨t, ht, hh⟩ := ucs_split B k (k - m) m (by omega)
        obtain ⟨t', rfl⟩ := hh (by omega)
        have := to_any S 2 (kU (ucs B m) + 1) W tb (by omega) h
        have he := to_unit hv (hp.trans ht) (by rw [hb]; decide)
        have e1 : toE S 2 (kU (ucs B m) + 1) = 50 := he.1
        have e2 : toB S 2 (kU (ucs B m) + 1) = 0 := he.2
        rwa [e1, e2] at this
      clear hS hg hSd hv hp
      go_wp2
      go_loopw [5, 6, 7] (fun u a i wx => ∃ m : Nat, m ≤ k ∧ i = .int .i64 (m : Nat) ∧ u = .int .i64 (kU (ucs B m)) ∧ a = .int .i64 ((flat (ucs B m)).length : Nat) ∧ Below w.heap.size w wx) (fun _ _ i _ => k - (intOf i).toNat)
      case atStart => exact ⟨0, by omega, rfl, rfl, rfl, hb⟩
      case round =>
        obtain ⟨m, hm, rfl, rfl, rfl, hx⟩ := hrel
        have tx := hT.later hx
        have hr := k_range (ucs B m)
        have hpl : kP (ucs B m) = m := by unfold kP; rw [ucs_length]
        rw [hpl] at hr
        clear hpl
        by_cases hmk : m < k
        · obtain ⟨blk, off, rfl, hcl⟩ := HCE.out (by omega)
          have hc := cell_later (hx.mono (Nat.le_refl _)) (hcl m hmk)
          have HA := Hid.mk4 (HT1.out m (by omega))
          have hfl : ((flat (ucs B m)).length : Int) ≤ 4 * m := hr.2.2.2.2.2.2
          cases hB : B m with
          | true =>
            have HC2 := Hid.mk4 (HT2.out m hmk hB)
            have HU : Hid (kU (ucs B (m + 1)) = kU (ucs B m) + 2) := by show _ = _; rw [ucs_succ, kU_append, kU_one, hB]; rfl
            have HL : Hid ((flat (ucs B (m + 1))).length = (flat (ucs B m)).length + 4) := by show _ = _; rw [ucs_succ, flat_append, List.length_append, hB]; rfl
            rw [hB] at hc
            clear hcl HT1 HT2 HO
            generalize kU (ucs B m) = uu at *
            generalize (flat (ucs B m)).length = aa at *
            go_wp2_with fail
            refine (HA.out _ tx).mono ?_
            rintro e w3 ⟨rfl, b3⟩
            have g3 := hx.trans (b3.mono hx.size)
            have t3 := hT.later g3
            have hc3 := cell_later (b3.mono (Nat.le_refl _)) hc
            clear b3 hc
            go_wp2_with fail
            refine (HC2.out _ t3).mono ?_
            rintro e w4 ⟨rfl, b4⟩
            have g4 := g3.trans (b4.mono g3.size)
            clear b4 g3 t3 hc3
            go_wp2
            go_roundw
            case rel => exact ⟨m + 1, by omega, by go_num, by rw [HU.out], by rw [HL.out]; go_num, g4⟩
            case measure => simp [intOf]; omega
          | false =>
            have HU : Hid (kU (ucs B (m + 1)) = kU (ucs B m) + 1) := by show _ = _; rw [ucs_succ, kU_append, kU_one, hB]; rfl
            have HL : Hid ((flat (ucs B (m + 1))).length = (flat (ucs B m)).length + 1) := by show _ = _; rw [ucs_succ, flat_append, List.length_append, hB]; rfl
            rw [hB] at hc
            clear hcl HT1 HT2 HO
            generalize kU (ucs B m) = uu at *
            generalize (flat (ucs B m)).length = aa at *
            go_wp2_with fail
            refine (HA.out _ tx).mono ?_
            rintro e w3 ⟨rfl, b3⟩
            have g3 := hx.trans (b3.mono hx.size)
            have hc3 := cell_later (b3.mono (Nat.le_refl _)) hc
            clear b3 hc
            go_wp2
            go_roundw
            case rel => exact ⟨m + 1, by omega, by go_num, by rw [HU.out], by rw [HL.out]; go_num, g3⟩
            case measure => simp [intOf]; omega
        · obtain rfl : m = k := by omega
          clear HT1 HT2
          go_wp2_with fail
          refine (HO.out _ tx).mono ?_
          rintro e w3 ⟨rfl, b3⟩
          have g3 := hx.trans (b3.mono hx.size)
          have hfu := counts_units (kB (ucs B m)) (kP (ucs B m)) (kU (ucs B m)) (kL (ucs B m)) w3
          go_wp2
          go_ret
          exact ⟨rfl, g3⟩

theorem units_any (n : Nat) (B : Nat → Bool) (v : Value) (hm : n ≤ maxLen) (w : World) (tb : Nat × Nat) (hT : Tabs w tb) (hR : ValsAt w v n (fun i => .bool (B i))) :
    Calls Tryd.prog 6 #[v] w fun e w' => e = .returned (.bool true) ∧ Below w.heap.size w w' := by
  by_cases hl : n ≤ 40
  · exact units_row n B v hl w tb hT hR
  · obtain ⟨ad, cap, rfl, _⟩ := hR
    exact units_long n ad cap (by omega) hm w tb hT
end Go.Proofs.YthlmfmaiecmebaaDoor
