/- The reference's Runs; same. -/
import Derived.Test.YtbkjcibfcpejfaaMapRef
namespace Go.Proofs.Ytbkjcibfcpejfaa
open Go.RowKit Go.Sort
set_option linter.unusedSimpArgs false
set_option linter.unusedVariables false

theorem rn_take_in {b : Bool} {L : List Int} {k : Nat} {z : Int} (hz : L[k]? = some z) (h : decide (0 < z) = b) : rn b (L.take (k + 1)) = ad (rn b (L.take k)) k (k + 1) := by
  have hk := (List.getElem?_eq_some_iff.1 hz).1
  rw [take_snoc7 hz, rn_in _ h, List.length_take, Nat.min_eq_left (by omega)]
theorem rn_take_out {b : Bool} {L : List Int} {k : Nat} {z : Int} (hz : L[k]? = some z) (h : decide (0 < z) ≠ b) : rn b (L.take (k + 1)) = rn b (L.take k) := by
  rw [take_snoc7 hz, rn_out _ h]
set_option maxHeartbeats 2000000 in
set_option maxRecDepth 100000 in
theorem refruns_any {w : World} {v : Value} {L : List Int} (b : Bool) (h : NumAt .i64 w v L) (hl : L.length ≤ 20000) :
    Calls Try.prog 18 #[v, .bool b] w fun e w' => ∃ v', e = .returned v' ∧ SgAt w' v' (rn b L) ∧ Below w.heap.size w w' := by
  obtain ⟨i0, hi, hz0, hz1, hz2⟩ := info_parts Try.info_iv
  obtain ⟨a, cap, rfl, hcap, hcells⟩ := h
  have HC := Hid.mk7 hcells
  clear hcells
  go_enter Try.func18, Try.ntmps18
  go_wp2
  go_loopw [5, 6] (fun ov iv wr => ∃ k : Nat, k ≤ L.length ∧ iv = .int .i64 (k : Nat) ∧ Hid (OwnV wr w.heap.size ov (rn b (L.take k))) ∧ Below w.heap.size w wr) (fun _ iv _ => L.length - (intOf iv).toNat)
  case atStart => exact ⟨0, Nat.zero_le _, rfl, OwnV.nil _ _, Below.refl _ _⟩
  case round =>
    obtain ⟨k, hk, rfl, HO, hb⟩ := hrel
    by_cases hlt : k < L.length
    · obtain ⟨z, hz⟩ : ∃ r, L[k]? = some r := ⟨L[k], List.getElem?_eq_getElem hlt⟩
      obtain ⟨g, off, rfl, q0⟩ := HC.out k _ hz
      have c0 := cell_later7 hb (Nat.le_refl _) q0
      have hgl : g < w.heap.size := World.block_lt_of_cell? w ⟨g, _, none⟩ q0
      have hsz := hb.size
      have HZ := Hid.mk7 hz
      clear q0 hz
      by_cases hin : decide (0 < z) = b
      · have HN : Hid (rn b (L.take (k + 1)) = ad (rn b (L.take k)) k (k + 1)) := rn_take_in HZ.out hin
        subst hin
        have hrn := rn_len (decide (0 < z)) (L.take k)
        rw [List.length_take, Nat.min_eq_left hk] at hrn
        clear HZ
        generalize hqs : rn (decide (0 < z)) (L.take k) = qs at *
        clear hqs
        rcases List.eq_nil_or_concat qs with rfl | ⟨rs, ⟨m, d⟩, rfl⟩
        · obtain ⟨a1, cap1, rfl, _, _⟩ := ownV_shape HO.out
          have HO1 : Hid (wr.ownsRow w.heap.size 38 2 (.slice a1 0 cap1) 0 []) := HO.out
          clear HO
          go_wp2_with (at_builtin; refine wpList_append_own _ rfl _ _ 31 rfl w.heap.size 38 i0 (.agg #[.int .i64 0, .int .i64 0]) 2 16 Try.underlying31 hi hz0 hz1 hz2 rfl (by decide) _ _ _ rfl (World.ownsRow.alloc HO1.out _) ⟨_, 0, none⟩ 1 1 [.int .i64 (k : Nat), .int .i64 ((k : Int) + 1)] rfl rfl (two_new7 _ _ _ _) (fun u hu => by simp at hu; rcases hu with rfl | rfl <;> rfl) (by decide) (by decide) (by simp; omega) ?_)
          intro v' w3 hown' hgrow _
          have hb3 : Below w.heap.size w w3 := (hb.alloc hb.size _).grown hgrow (by simp; omega) (fun j hj => (HO1.out.lt _ hj).1)
          have HO3 : Hid (OwnV w3 w.heap.size v' (rn (decide (0 < z)) (L.take (k + 1)))) := by show OwnV _ _ _ _; rw [HN.out]; exact hown'
          clear hown' hgrow HO1 hb c0
          go_wp2
          go_roundw
          case rel => exact ⟨k + 1, by omega, by go_num, HO3, hb3⟩
          case measure => simp [intOf]; omega
        · rw [List.concat_eq_append] at HO hrn HN
          have hlen : (rs ++ [(m, d)]).length = rs.length + 1 := by simp
          rw [List.length_append, List.length_singleton] at hrn
          obtain ⟨a1, cap1, rfl, hcap1, hg1⟩ := ownV_shape HO.out
          obtain ⟨g1, rfl⟩ := hg1 (by simp)
          rw [hlen] at hcap1
          have HO1 : Hid (wr.ownsRow w.heap.size 38 2 (.slice (some ⟨g1, 0, none⟩) (rs.length + 1) cap1) (rs.length + 1) (cs (rs ++ [(m, d)]))) := by
            have := HO.out
            unfold OwnV at this
            rw [hlen] at this
            exact this
          rw [hlen]
          have hget : (rs ++ [(m, d)])[rs.length]? = some (m, d) := by simp
          have o1 : wr.cell? ⟨g1, rs.length * 2 + 1, none⟩ = some (.int .i64 d) := by rw [HO1.out.cellAt _ (by omega)]; exact (cs_get hget).2
          have hg1l : g1 < wr.heap.size := (HO1.out.lt g1 rfl).2
          have dk : decide (0 < (rs.length : Int) + 1) = true := decide_eq_true (by omega)
          clear hlen hget hg1 HO
          by_cases hd : d = (k : Int)
          · have HN2 : Hid (rn (decide (0 < z)) (L.take (k + 1)) = rs ++ [(m, (k : Int) + 1)]) := by show _ = _; rw [HN.out, hd, ad_same]
            have fz := fun j => HO1.out.frozenAt j
            obtain ⟨h1, h2⟩ := HO1.out.stored (rs.length * 2 + 1) (.int .i64 ((k : Int) + 1))
            have e : (cs (rs ++ [(m, d)])).set (rs.length * 2 + 1) (.int .i64 ((k : Int) + 1)) = cs (rs ++ [(m, (k : Int) + 1)]) := by
              rw [cs_append, cs_append, List.set_append_right _ _ (by rw [cs_length]; omega), cs_length, cs_one, cs_one, Nat.add_sub_cancel_left]
              simp
            rw [e] at h1
            have hb3 := hb.grown h2 hb.size (fun j hj => (HO1.out.lt _ hj).1)
            have HO3 : Hid (OwnV (wr.setCell ⟨g1, rs.length * 2 + 1, none⟩ (.int .i64 ((k : Int) + 1))) w.heap.size (.slice (some ⟨g1, 0, none⟩) (rs.length + 1) cap1) (rn (decide (0 < z)) (L.take (k + 1)))) := by
              show OwnV _ _ _ _
              rw [HN2.out]
              unfold OwnV
              rw [List.length_append]
              exact h1
            clear h1 h2 e HN HO1 HN2
            subst hd
            go_wp2
            go_roundw
            case rel => exact ⟨k + 1, by omega, by go_num, HO3, hb3⟩
            case measure => simp [intOf]; omega
          · have HN2 : Hid (rn (decide (0 < z)) (L.take (k + 1)) = rs ++ [(m, d)] ++ [((k : Int), (k : Int) + 1)]) := by show _ = _; rw [HN.out, ad_other _ _ _ _ _ hd]
            have e1 : (d == (k : Int)) = false := by simpa using hd
            have e2 : decide (d = (k : Int)) = false := by simpa using hd
            clear hd HN
            go_wp2_with (at_builtin; refine wpList_append_own _ rfl _ _ 31 rfl w.heap.size 38 i0 (.agg #[.int .i64 0, .int .i64 0]) 2 16 Try.underlying31 hi hz0 hz1 hz2 rfl (by decide) _ _ _ rfl (World.ownsRow.alloc HO1.out _) ⟨_, 0, none⟩ 1 1 [.int .i64 (k : Nat), .int .i64 ((k : Int) + 1)] rfl rfl (two_new7 _ _ _ _) (fun u hu => by simp at hu; rcases hu with rfl | rfl <;> rfl) (by unfold maxLen; omega) (by omega) (by simp; omega) ?_)
            intro v' w3 hown' hgrow _
            have hb3 : Below w.heap.size w w3 := (hb.alloc hb.size _).grown hgrow (by simp; omega) (fun j hj => (HO1.out.lt _ hj).1)
            have HO3 : Hid (OwnV w3 w.heap.size v' (rn (decide (0 < z)) (L.take (k + 1)))) := by
              show OwnV _ _ _ _
              rw [HN2.out]
              unfold OwnV
              rw [cs_append (rs ++ [(m, d)]), cs_one]
              simpa using hown'
            clear hown' hgrow HO1 hb c0 o1 HN2
            go_wp2
            go_roundw
            case rel => exact ⟨k + 1, by omega, by go_num, HO3, hb3⟩
            case measure => simp [intOf]; omega
      · have HN : Hid (rn b (L.take (k + 1)) = rn b (L.take k)) := rn_take_out HZ.out hin
        have HO3 : Hid (OwnV wr w.heap.size u5 (rn b (L.take (k + 1)))) := by show OwnV _ _ _ _; rw [HN.out]; exact HO.out
        obtain rfl : b = !decide (0 < z) := by cases b <;> cases hd : decide (0 < z) <;> simp_all
        clear hin HZ HO HN
        go_wp2
        go_roundw
        case rel => exact ⟨k + 1, by omega, by go_num, HO3, hb⟩
        case measure => simp [intOf]; omega
    · obtain rfl : k = L.length := by omega
      have HO5 : Hid (OwnV wr w.heap.size u5 (rn b L)) := by
        have := HO.out
        rw [List.take_length] at this
        exact this
      clear HO
      go_wp2
      go_ret
      exact ⟨u5, rfl, HO5.out.row, hb⟩

set_option maxHeartbeats 800000 in
set_option maxRecDepth 100000 in
theorem same9_any {w : World} {u v : Value} {rs : List Sg} (h1 : SgAt w u rs) (h2 : SgAt w v rs) (hl : rs.length ≤ 1073741824) :
    Calls Try.prog 16 #[u, v] w fun e w' => e = .returned (.bool true) ∧ Below w.heap.size w w' := by
  obtain ⟨a, cap, rfl, hcap, _, hcells⟩ := h1
  obtain ⟨a2, cap2, rfl, hcap2, _, hcells2⟩ := h2
  have HC1 := Hid.mk7 hcells
  have HC2 := Hid.mk7 hcells2
  clear hcells hcells2
  go_enter Try.func16, Try.ntmps16
  go_wp2
  go_loopw [5] (fun iv wr => ∃ k : Nat, k ≤ rs.length ∧ iv = .int .i64 (k : Nat) ∧ Below w.heap.size w wr) (fun iv _ => rs.length - (intOf iv).toNat)
  case atStart => exact ⟨0, Nat.zero_le _, rfl, Below.refl _ _⟩
  case round =>
    obtain ⟨k, hk, rfl, hb⟩ := hrel
    by_cases hlt : k < rs.length
    · obtain ⟨⟨n, c⟩, hr⟩ : ∃ r, rs[k]? = some r := ⟨rs[k], List.getElem?_eq_getElem hlt⟩
      obtain ⟨g, off, rfl, q0, q1⟩ := HC1.out k _ hr
      obtain ⟨g2, off2, rfl, q2, q3⟩ := HC2.out k _ hr
      have c0 := cell_later7 hb (Nat.le_refl _) q0
      have c1 := cell_later7 hb (Nat.le_refl _) q1
      have c2 := cell_later7 hb (Nat.le_refl _) q2
      have c3 := cell_later7 hb (Nat.le_refl _) q3
      simp only at c0 c1 c2 c3
      clear q0 q1 q2 q3 hr
      go_wp2
      go_quiet (fail)
      go_wp2
      go_roundw
      case rel => exact ⟨k + 1, by omega, by go_num, below_drewN hb nq⟩
      case measure => simp [intOf]; omega
    · go_wp2
      go_ret
      exact ⟨rfl, hb⟩
end Go.Proofs.Ytbkjcibfcpejfaa
