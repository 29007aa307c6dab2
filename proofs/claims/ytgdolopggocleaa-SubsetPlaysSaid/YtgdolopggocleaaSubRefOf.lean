/- The reference's Of. -/
import Derived.Test.YtgdolopggocleaaSubRef
namespace Go.Proofs.Ytgdolopggocleaa
open Go.RowKit Go.Sort
set_option linter.unusedSimpArgs false
set_option linter.unusedVariables false

theorem not_fm {rs : List Sg} {k : Nat} (h : ¬ okAt rs k) : ¬ Fm rs := fun hf => h ((fm_iff rs).1 hf k)
theorem fm_all {rs : List Sg} (h : ∀ i, i < rs.length → okAt rs i) : Fm rs := (fm_iff rs).2 fun i => by
  by_cases hi : i < rs.length
  · exact h i hi
  · intro r hr
    rw [List.getElem?_eq_none (by omega)] at hr
    exact absurd hr (by simp)
set_option maxHeartbeats 4000000 in
set_option maxRecDepth 100000 in
theorem refof_any {w : World} {v : Value} {rs : List Sg} (h : SgAt w v rs) (hl : rs.length ≤ 250) (hx : (xp rs).length ≤ 600) :
    Calls Try.prog 11 #[v] w fun e w' => (¬ Fm rs ∧ e = .returned (.tuple #[.slice none 0 0, .int .i64 12]) ∨ Fm rs ∧ 200 < rs.length ∧ e = .returned (.tuple #[.slice none 0 0, .int .i64 70]) ∨ Fm rs ∧ rs.length ≤ 200 ∧ ∃ u, e = .returned (.tuple #[u, .int .i64 0]) ∧ OwnI w' w.heap.size u (xp rs)) ∧ Below w.heap.size w w' := by
  obtain ⟨i0, hi, hz0, hz1, hz2⟩ := info_parts Try.info_int7
  obtain ⟨a, cap, rfl, hcap, _, hcells⟩ := h
  have HC := Hid.mk7 hcells
  clear hcells
  go_enter Try.func11, Try.ntmps11
  go_wp2
  go_loopw [4] (fun iv wr => ∃ k : Nat, k ≤ rs.length ∧ iv = .int .i64 (k : Nat) ∧ Hid (∀ i, i < k → okAt rs i) ∧ Below w.heap.size w wr) (fun iv _ => rs.length - (intOf iv).toNat)
  case atStart => exact ⟨0, Nat.zero_le _, rfl, fun i hi => by omega, Below.refl _ _⟩
  case round =>
    obtain ⟨k, hk, rfl, HOK, hb⟩ := hrel
    by_cases hlt : k < rs.length
    · obtain ⟨⟨n, c⟩, hr⟩ : ∃ r, rs[k]? = some r := ⟨rs[k], List.getElem?_eq_getElem hlt⟩
      obtain ⟨g, off, rfl, q0, q1⟩ := HC.out k _ hr
      have c0 := cell_later7 hb (Nat.le_refl _) q0
      have c1 := cell_later7 hb (Nat.le_refl _) q1
      simp only at c0 c1
      have HR := Hid.mk7 hr
      clear q0 q1 hr
      by_cases h1 : n < 1
      · have d1 : decide (n < 1) = true := decide_eq_true h1
        have HB : Hid (¬ Fm rs) := not_fm (k := k) fun h => by have := (h _ HR.out).1; simp only at this; omega
        go_wp2
        go_quiet (fail)
        go_wp2
        go_ret2
        exact ⟨Or.inl ⟨HB.out, rfl⟩, below_drewN hb nq⟩
      · have d1 : decide (n < 1) = false := decide_eq_false h1
        by_cases h2 : c < 0
        · have d2 : decide (c < 0) = true := decide_eq_true h2
          have HB : Hid (¬ Fm rs) := not_fm (k := k) fun h => by have := (h _ HR.out).2.1; simp only at this; omega
          go_wp2
          go_quiet (fail)
          go_wp2
          go_ret2
          exact ⟨Or.inl ⟨HB.out, rfl⟩, below_drewN hb nq⟩
        · have d2 : decide (c < 0) = false := decide_eq_false h2
          by_cases h3 : 100 < c
          · have d3 : decide (100 < c) = true := decide_eq_true h3
            have HB : Hid (¬ Fm rs) := not_fm (k := k) fun h => by have := (h _ HR.out).2.2.1; simp only at this; omega
            go_wp2
            go_quiet (fail)
            go_wp2
            go_ret2
            exact ⟨Or.inl ⟨HB.out, rfl⟩, below_drewN hb nq⟩
          · have d3 : decide (100 < c) = false := decide_eq_false h3
            by_cases hk0 : k = 0
            · have HGOOD : Hid (okAt rs k) := fun r hr => by
                rw [HR.out] at hr
                cases hr
                exact ⟨by simp only; omega, by simp only; omega, by simp only; omega, fun q hq => by omega⟩
              have dk : decide (0 < (k : Int)) = false := by simp; omega
              have dk2 : decide (0 < k) = false := by simp; omega
              clear hk0
              go_wp2
              go_quiet (fail)
              go_wp2
              go_roundw
              case rel => exact ⟨k + 1, by omega, by go_num, ok_step HOK.out HGOOD.out, below_drewN hb nq⟩
              case measure => simp [intOf]; omega
            · obtain ⟨⟨m, d⟩, hq⟩ : ∃ r, rs[k - 1]? = some r := ⟨rs[k - 1], List.getElem?_eq_getElem (by omega)⟩
              obtain ⟨g', off', e', q2, q3⟩ := HC.out (k - 1) _ hq
              cases e'
              obtain ⟨j, rfl⟩ : ∃ j, k = j + 1 := ⟨k - 1, by omega⟩
              rw [Nat.add_sub_cancel] at hq q2 q3
              have c2 := cell_later7 hb (Nat.le_refl _) q3
              simp only at c2
              have HQ := Hid.mk7 hq
              have hjl : j < rs.length := by omega
              have dk : decide (0 < (j : Int) + 1) = true := decide_eq_true (by omega)
              clear q2 q3 hq hk0
              by_cases hdc : c = d
              · subst hdc
                have HB : Hid (¬ Fm rs) := not_fm (k := j + 1) fun h => (h _ HR.out).2.2.2 (m, c) (by omega) (by rw [Nat.add_sub_cancel]; exact HQ.out) rfl
                go_wp2
                go_quiet (fail)
                go_wp2
                go_ret2
                exact ⟨Or.inl ⟨HB.out, rfl⟩, below_drewN hb nq⟩
              · have HGOOD : Hid (okAt rs (j + 1)) := fun r hr => by
                  rw [HR.out] at hr
                  cases hr
                  refine ⟨by simp only; omega, by simp only; omega, by simp only; omega, fun q _ hq => ?_⟩
                  rw [Nat.add_sub_cancel, HQ.out] at hq
                  cases hq
                  exact fun e => hdc e.symm
                have e1 : (c == d) = false := by simpa using hdc
                have e2 : decide (c = d) = false := by simpa using hdc
                clear hdc
                go_wp2
                go_quiet (fail)
                go_wp2
                go_roundw
                case rel => exact ⟨j + 1 + 1, by omega, by go_num, ok_step HOK.out HGOOD.out, below_drewN hb nq⟩
                case measure => simp [intOf]; omega
    · obtain rfl : k = rs.length := by omega
      have HF : Hid (Fm rs) := fm_all HOK.out
      clear HOK
      by_cases hm : 200 < rs.length
      · go_wp2
        go_ret2
        exact ⟨Or.inr (Or.inl ⟨HF.out, hm, rfl⟩), hb⟩
      · have dm : decide (200 < rs.length) = false := decide_eq_false hm
        have dm2 : decide ((200 : Int) < (rs.length : Int)) = false := decide_eq_false (by omega)
        have HX := Hid.mk7 hx
        clear hx
        go_wp2
        go_loopw [5, 6] (fun nv iv wx => ∃ k P : Nat, k ≤ rs.length ∧ iv = .int .i64 (k : Nat) ∧ nv = .int .i64 (P : Nat) ∧ P ≤ 600 ∧ Hid (P = (xp (rs.take k)).length) ∧ wx = wr) (fun _ iv _ => rs.length - (intOf iv).toNat)
        case atStart => exact ⟨0, 0, Nat.zero_le _, rfl, rfl, by omega, rfl, rfl⟩
        case round =>
          obtain ⟨k, P, hk, rfl, rfl, hP, HPX, rfl⟩ := hrel
          by_cases hlt : k < rs.length
          · obtain ⟨⟨n, c⟩, hr⟩ : ∃ r, rs[k]? = some r := ⟨rs[k], List.getElem?_eq_getElem hlt⟩
            obtain ⟨g, off, rfl, q0, q1⟩ := HC.out k _ hr
            have c0 := cell_later7 hb (Nat.le_refl _) q0
            simp only at c0
            have hn := cn_mem HF.out.1 _ (List.mem_of_getElem? hr)
            simp only at hn
            obtain ⟨N, rfl⟩ : ∃ N : Nat, n = (N : Int) := ⟨n.toNat, by omega⟩
            have HXL : Hid (P + N = (xp (rs.take (k + 1))).length) := by show _ = _; rw [xp_take hr, HPX.out]; simp
            have hPN : P + N ≤ 600 := by
              have := xp_take_le2 hr
              rw [← HPX.out, Int.toNat_natCast] at this
              have := HX.out
              omega
            clear q0 q1 hr
            go_wp2
            go_roundw
            case rel => exact ⟨k + 1, P + N, by omega, by go_num, by go_num, by omega, HXL, trivial⟩
            case measure => simp [intOf]; omega
          · go_wp2
            go_loopw [7, 8] (fun lv iv wx => ∃ k : Nat, k ≤ rs.length ∧ iv = .int .i64 (k : Nat) ∧ Hid (OwnI wx w.heap.size lv (xp (rs.take k))) ∧ Below w.heap.size w wx) (fun _ iv _ => rs.length - (intOf iv).toNat)
            case atStart => exact ⟨0, Nat.zero_le _, rfl, OwnI.nil _ _, hb⟩
            case round =>
              obtain ⟨k', hk', rfl, HO, hb'⟩ := hrel
              by_cases hlt' : k' < rs.length
              · obtain ⟨⟨n, c⟩, hr⟩ : ∃ r, rs[k']? = some r := ⟨rs[k'], List.getElem?_eq_getElem hlt'⟩
                obtain ⟨g, off, rfl, q0, q1⟩ := HC.out k' _ hr
                have hn := cn_mem HF.out.1 _ (List.mem_of_getElem? hr)
                simp only at hn
                obtain ⟨N, rfl⟩ : ∃ N : Nat, n = (N : Int) := ⟨n.toNat, by omega⟩
                have HXL : Hid (xp (rs.take (k' + 1)) = xp (rs.take k') ++ List.replicate N c) := by show _ = _; rw [xp_take hr]; simp
                have hPN : (xp (rs.take k')).length + N ≤ 600 := by
                  have := xp_take_le2 hr
                  rw [Int.toNat_natCast] at this
                  have := HX.out
                  omega
                have Q0 := Hid.mk7 q0
                have Q1 := Hid.mk7 q1
                clear q0 q1 hr
                generalize xp (rs.take k') = X at *
                go_wp2
                go_loopw [7, 9] (fun lv jv wx => ∃ j : Nat, j ≤ N ∧ jv = .int .i64 (j : Nat) ∧ Hid (OwnI wx w.heap.size lv (X ++ List.replicate j c)) ∧ Below w.heap.size w wx) (fun _ jv _ => N - (intOf jv).toNat)
                case atStart => exact ⟨0, Nat.zero_le _, rfl, by show OwnI _ _ _ _; simpa using HO.out, hb'⟩
                case round =>
                  clear HO hb'
                  obtain ⟨j, hj, rfl, HO, hb'⟩ := hrel
                  have c0 := cell_later7 hb' (Nat.le_refl _) Q0.out
                  have c1 := cell_later7 hb' (Nat.le_refl _) Q1.out
                  by_cases hjN : j < N
                  · have HLN : Hid ((X ++ List.replicate j c).length = X.length + j) := by show _ = _; simp
                    have HNX : Hid ((X ++ List.replicate j c) ++ [c] = X ++ List.replicate (j + 1) c) := by show _ = _; rw [List.append_assoc, List.replicate_succ']
                    have HO1 : Hid (wr.ownsRow w.heap.size 3 1 u7 (X.length + j) ((X ++ List.replicate j c).map (Value.int .i64))) := by
                      have := HO.out
                      unfold OwnI at this
                      rw [HLN.out] at this
                      exact this
                    have hsz := hb'.size
                    have hgl : g < wr.heap.size := World.block_lt_of_cell? wr ⟨g, _, none⟩ c0
                    go_wp2_with (at_builtin; refine wpList_append_own _ rfl _ _ 30 rfl w.heap.size 3 i0 (.int .i64 0) 1 8 Try.underlying30 hi hz0 hz1 hz2 rfl (by decide) _ _ _ rfl (World.ownsRow.alloc HO1.out _) ⟨_, 0, none⟩ 1 1 [.int .i64 c] rfl rfl (cell_one_new _ _ _) (fun u hu => by simp at hu; subst hu; rfl) (by unfold maxLen; omega) (by omega) (by simp; omega) ?_)
                    intro v' w3 hown' hgrow _
                    have hb3 : Below w.heap.size w w3 := (hb'.alloc hb'.size _).grown hgrow (by simp; omega) (fun t ht => (HO1.out.lt _ ht).1)
                    have HO3 : Hid (OwnI w3 w.heap.size v' (X ++ List.replicate (j + 1) c)) := by
                      show World.ownsRow _ _ _ _ _ _ _
                      rw [← HNX.out, List.length_append, HLN.out, List.map_append]
                      simpa using hown'
                    clear hown' hgrow HO1 HO hb' c0 c1
                    go_wp2
                    go_roundw
                    case rel => exact ⟨j + 1, by omega, by go_num, HO3, hb3⟩
                    case measure => simp [intOf]; omega
                  · obtain rfl : j = N := by omega
                    have HO3 : Hid (OwnI wr w.heap.size u7 (xp (rs.take (k' + 1)))) := by show OwnI _ _ _ _; rw [HXL.out]; exact HO.out
                    clear HO
                    go_wp2
                    go_roundw
                    case rel => exact ⟨k' + 1, by omega, by go_num, HO3, hb'⟩
                    case measure => simp [intOf]; omega
              · obtain rfl : k' = rs.length := by omega
                rw [List.take_length] at HO
                go_wp2
                go_ret2
                exact ⟨Or.inr (Or.inr ⟨HF.out, by omega, u7, rfl, HO.out⟩), hb'⟩
end Go.Proofs.Ytgdolopggocleaa
