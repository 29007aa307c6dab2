/- IntervalMoved walked. -/
import Derived.Test.YtfohfdldpanfaaaIvKnown
namespace Go.Proofs.Ytfohfdldpanfaaa
open Go.Shelf Go.RowKit Go.Lib Go.Sort
set_option linter.unusedSimpArgs false
set_option linter.unusedVariables false

theorem map_snoc (L : List Sg) (c : Int) (k : Nat) {r : Sg} (h : L[k]? = some r) : (L.take (k + 1)).map (shV c) = (L.take k).map (shV c) ++ [shV c r] := by
  rw [take_snoc h, List.map_append]; rfl
theorem sh_len (L : List Sg) (c : Int) (k : Nat) (h : k ≤ L.length) : ((L.take k).map (shV c)).length = k := by simp; omega
theorem wrap_id {a b : Int} (h : -9223372036854775808 ≤ a + b) (h2 : a + b ≤ 9223372036854775807) : wrap64 (a + b) = a + b := by
  unfold wrap64; omega
/-- Joined intervals' ends are ends of those that they were made of. -/
theorem mgs_ends {lo hi : Int} : ∀ (n : Nat) (S : List Sg), S.length = n → (∀ x ∈ S, lo ≤ x.1 ∧ x.1 ≤ hi ∧ lo ≤ x.2 ∧ x.2 ≤ hi) → ∀ x ∈ mgs S, lo ≤ x.1 ∧ x.1 ≤ hi ∧ lo ≤ x.2 ∧ x.2 ≤ hi
  | 0, S, hn, _, x, hx => by obtain rfl := List.eq_nil_of_length_eq_zero hn; simp [mgs] at hx
  | n + 1, S, hn, h, x, hx => by
    rcases List.eq_nil_or_concat S with rfl | ⟨T, y, rfl⟩
    · simp at hn
    · rw [List.concat_eq_append] at *
      have ih := mgs_ends n T (by simp at hn; omega) (fun z hz => h z (by simp [hz]))
      have hy := h y (by simp)
      rw [mgs_snoc] at hx
      rcases List.eq_nil_or_concat (mgs T) with hm | ⟨A, l, hm⟩
      · rw [hm, adM_nil] at hx; simp at hx; subst hx; exact hy
      · rw [List.concat_eq_append] at hm
        rw [hm] at hx ih
        have hl := ih l (by simp)
        cases ht : tch l y with
        | true =>
          rw [adM_join ht] at hx
          rcases List.mem_append.1 hx with hx | hx
          · exact ih x (by simp [hx])
          · simp at hx; subst hx; simp only [jn]; omega
        | false =>
          rw [adM_apart ht] at hx
          rcases List.mem_append.1 hx with hx | hx
          · exact ih x hx
          · simp at hx; subst hx; exact hy
theorem mrg_in {L : List Sg} {lo hi : Int} (h : ∀ x ∈ L, lo ≤ x.1 ∧ x.1 ≤ hi ∧ lo ≤ x.2 ∧ x.2 ≤ hi) : ∀ x ∈ mrg L, lo ≤ x.1 ∧ x.1 ≤ hi ∧ lo ≤ x.2 ∧ x.2 ≤ hi :=
  mgs_ends _ _ rfl fun x hx => h x (fwd_sub ((srt_perm _).mem_iff.1 hx))
set_option maxHeartbeats 4000000 in
set_option maxRecDepth 100000 in
theorem moved10_any {w : World} {v : Value} {L : List Sg} (h : SgAt w v L) (hl : L.length ≤ 17592186044416) (t : Int) (ht0 : -32768 ≤ t) (ht1 : t ≤ 32767) :
    Calls Try.prog 7 #[v, .int .i16 t] w fun e w' => e = .returned (.bool true) ∧ RowKit.Below w.heap.size w w' := by
  obtain ⟨i0, hi, hz0, hz1, hz2⟩ := info_parts Try.info_iv
  obtain ⟨a, cap, rfl, hcap, _, hcells⟩ := id h
  have H0 := Hid.mk7 h
  have HI := Hid.mk7 hi
  have HK := Hid.mk7 known10_any
  clear h hi hcells
  by_cases h40 : 40 < L.length
  · have hd : decide ((L.length : Int) > 40) = true := decide_eq_true (by omega)
    go_enter Try.func7, Try.ntmps7
    go_wp2_with fail
    refine (HK.out w).mono ?_
    rintro e w1 ⟨rfl, b1⟩
    go_wp2
    go_ret
    exact ⟨rfl, b1⟩
  · have hd : decide ((L.length : Int) > 40) = false := decide_eq_false (by omega)
    have hl40 : L.length ≤ 40 := by omega
    go_enter Try.func7, Try.ntmps7
    go_wp2_with fail
    refine (HK.out w).mono ?_
    rintro e w1 ⟨rfl, b1⟩
    have H1 := Hid.mk7 (H0.out.later b1)
    have G1 := Hid.mk7 b1
    clear b1 H0 HK
    go_wp2
    go_loopw [5, 6] (fun kv iv wr => ∃ k : Nat, k ≤ L.length ∧ iv = .int .i64 (k : Nat) ∧ Hid (OwnV wr w1.heap.size kv ((L.take k).map (shV t))) ∧ Hid (∀ x ∈ L.take k, -100000 ≤ x.1 ∧ x.1 ≤ 100000 ∧ -100000 ≤ x.2 ∧ x.2 ≤ 100000) ∧ RowKit.Below w1.heap.size w1 wr) (fun _ iv _ => L.length - (intOf iv).toNat)
    case atStart => exact ⟨0, Nat.zero_le _, rfl, OwnV.nil _ _, (fun x hx => by simp at hx), RowKit.Below.refl _ _⟩
    case round =>
      obtain ⟨k, hk, rfl, HO, HB, hb⟩ := hrel
      by_cases hlt : k < L.length
      · obtain ⟨⟨x, y⟩, hr⟩ : ∃ r, L[k]? = some r := ⟨L[k], List.getElem?_eq_getElem hlt⟩
        obtain ⟨_, _, e1, _, _, hc⟩ := H1.out
        cases e1
        obtain ⟨g, off, rfl, q0, q1⟩ := hc k _ hr
        have c0 := cell_later7 hb (Nat.le_refl _) q0
        have c1 := cell_later7 hb (Nat.le_refl _) q1
        simp only at c0 c1
        have hsz := hb.size
        have G9 : Hid (RowKit.Below w.heap.size w wr) := G1.out.trans (hb.mono G1.out.size)
        have HR := Hid.mk7 hr
        clear q0 q1 hr hc
        by_cases hx0 : x < -100000
        · have d0 : decide (x < -100000) = true := decide_eq_true hx0
          go_wp2
          go_ret
          exact ⟨rfl, G9.out⟩
        have d0 : decide (x < -100000) = false := decide_eq_false hx0
        by_cases hx1 : 100000 < x
        · have d1 : decide (x > 100000) = true := decide_eq_true hx1
          go_wp2
          go_ret
          exact ⟨rfl, G9.out⟩
        have d1 : decide (x > 100000) = false := decide_eq_false hx1
        by_cases hy0 : y < -100000
        · have d2 : decide (y < -100000) = true := decide_eq_true hy0
          go_wp2
          go_ret
          exact ⟨rfl, G9.out⟩
        have d2 : decide (y < -100000) = false := decide_eq_false hy0
        by_cases hy1 : 100000 < y
        · have d3 : decide (y > 100000) = true := decide_eq_true hy1
          go_wp2
          go_ret
          exact ⟨rfl, G9.out⟩
        have d3 : decide (y > 100000) = false := decide_eq_false hy1
        have HT : Hid ((L.take (k + 1)).map (shV t) = (L.take k).map (shV t) ++ [(x + t, y + t)]) := map_snoc L t k HR.out
        have HB2 : Hid (∀ z ∈ L.take (k + 1), -100000 ≤ z.1 ∧ z.1 ≤ 100000 ∧ -100000 ≤ z.2 ∧ z.2 ≤ 100000) := fun z hz => by
          rw [take_snoc HR.out] at hz
          rcases List.mem_append.1 hz with h | h
          · exact HB.out z h
          · simp at h; subst h; simp only; omega
        have HSH := Hid.mk7 (ishift_v x y t (x + t) (y + t) (wrap_id (by omega) (by omega)) (wrap_id (by omega) (by omega)))
        obtain ⟨a', cap', e', hc', _⟩ := own_shapeV HO.out
        rw [sh_len L t k hk] at e' hc'
        subst e'
        have HO1 : Hid (wr.ownsRow w1.heap.size 23 2 (.slice a' k cap') k (cs ((L.take k).map (shV t)))) := by
          have := HO.out
          unfold OwnV at this
          rw [sh_len L t k hk] at this
          exact this
        clear HO HB HR G9
        go_wp2_with fail
        refine (HSH.out _).mono ?_
        rintro e w5 ⟨rfl, b5⟩
        have HO5 : Hid (w5.ownsRow w1.heap.size 23 2 (.slice a' k cap') k (cs ((L.take k).map (shV t)))) := World.ownsRow.kept HO1.out (grown_below b5 none) (by cases a' <;> simp [Value.ownBlock])
        have hb5 : RowKit.Below w1.heap.size w1 w5 := hb.trans (b5.mono hsz)
        have hsz5 := hb5.size
        clear HO1 hb b5 hsz c0 c1 HSH
        have hi := HI.out
        go_wp2_with (at_builtin; refine wpList_append_own _ rfl _ _ 30 rfl w1.heap.size 23 i0 (.agg #[.int .i64 0, .int .i64 0]) 2 16 Try.underlying30 hi hz0 hz1 hz2 rfl (by decide) _ _ _ rfl (World.ownsRow.alloc HO5.out _) ⟨_, 0, none⟩ 1 1 [.int .i64 (x + t), .int .i64 (y + t)] rfl rfl (two_newV' (by simp) _ _ _) (fun u hu => by simp at hu; rcases hu with rfl | rfl <;> rfl) (by unfold maxLen; omega) (by omega) (by simp; omega) ?_)
        intro v' w3 hown' hgrow _
        have HO3 : Hid (OwnV w3 w1.heap.size v' ((L.take (k + 1)).map (shV t))) := by
          show OwnV _ _ _ _
          unfold OwnV
          rw [sh_len L t (k + 1) (by omega), HT.out, cs_append, cs_one]
          simp only [List.map_take] at hown' ⊢
          exact hown'
        have HB3 : Hid (RowKit.Below w1.heap.size w1 w3) := (below_newV hb5 hsz5 _).grown hgrow (by simp; omega) (fun j hj => (World.ownsRow.lt HO5.out j hj).1)
        clear HO5 hown' hgrow
        go_wp2
        go_roundw
        case rel => exact ⟨k + 1, by omega, by go_num, HO3, HB2, HB3.out⟩
        case measure => simp [intOf]; omega
      · obtain rfl : k = L.length := by omega
        have HN : Hid (SgAt wr u5 (L.map (shV t))) := by have := HO.out.row; rwa [List.take_length] at this
        have HBL : Hid (∀ x ∈ L, -100000 ≤ x.1 ∧ x.1 ≤ 100000 ∧ -100000 ≤ x.2 ∧ x.2 ≤ 100000) := by have := HB.out; rwa [List.take_length] at this
        have H2 := Hid.mk7 (H1.out.later hb)
        have G2 : Hid (RowKit.Below w.heap.size w wr) := G1.out.trans (hb.mono G1.out.size)
        have HP : Hid (mrg (L.map (shV t)) = (mrg L).map (shV t)) := mrg_sh t L
        have HML : Hid ((mrg L).length ≤ 40) := Nat.le_trans (mrg_len L) hl40
        have HMB : Hid (∀ x ∈ mrg L, -100000 ≤ x.1 ∧ x.1 ≤ 100000 ∧ -100000 ≤ x.2 ∧ x.2 ≤ 100000) := fun x hx => mrg_in HBL.out x hx
        clear HO HB HBL G1 hb
        go_wp2_with fail
        refine (merge_any H2.out hl40).mono ?_
        rintro e w2 ⟨v2, rfl, m2, b2⟩
        have M2 := Hid.mk7 m2
        have HN2 := Hid.mk7 (HN.out.later b2)
        have G3 : Hid (RowKit.Below w.heap.size w w2) := G2.out.trans (b2.mono G2.out.size)
        clear m2 b2 HN H2 G2
        go_wp2_with fail
        refine (merge_any HN2.out (by simpa using hl40)).mono ?_
        rintro e w4 ⟨v3, rfl, m3, b3⟩
        rw [HP.out] at m3
        have B4 := Hid.mk7 m3
        have A4 := Hid.mk7 (M2.out.later b3)
        have G5 : Hid (RowKit.Below w.heap.size w w4) := G3.out.trans (b3.mono G3.out.size)
        clear m3 b3 HN2 M2 G3 HP
        generalize mrg L = M at *
        obtain ⟨aA, capA, rfl, hcA, _, cA⟩ := A4.out
        obtain ⟨aB, capB, e9, hcB, _, cB⟩ := B4.out
        rw [List.length_map] at e9 hcB
        subst e9
        have CA := Hid.mk7 cA
        have CB := Hid.mk7 cB
        have hml := HML.out
        clear cA cB A4 B4 H1
        go_wp2
        go_loopw [9] (fun iv wr => ∃ k : Nat, k ≤ M.length ∧ iv = .int .i64 (k : Nat) ∧ RowKit.Below w4.heap.size w4 wr) (fun iv _ => M.length - (intOf iv).toNat)
        case atStart => exact ⟨0, Nat.zero_le _, rfl, RowKit.Below.refl _ _⟩
        case round =>
          obtain ⟨k, hk, rfl, hb⟩ := hrel
          by_cases hlt : k < M.length
          · obtain ⟨⟨x, y⟩, hr⟩ : ∃ r, M[k]? = some r := ⟨M[k], List.getElem?_eq_getElem hlt⟩
            obtain ⟨gA, oA, rfl, p0, p1⟩ := CA.out k _ hr
            obtain ⟨gB, oB, rfl, q0, q1⟩ := CB.out k (shV t (x, y)) (by rw [List.getElem?_map, hr]; rfl)
            have hxy := HMB.out (x, y) (List.mem_of_getElem? hr)
            have HSH := Hid.mk7 (ishift_v x y t (x + t) (y + t) (wrap_id (by simp only at hxy; omega) (by simp only at hxy; omega)) (wrap_id (by simp only at hxy; omega) (by simp only at hxy; omega)))
            have c0 := cell_regrown (cell_later7 hb (Nat.le_refl _) p0)
            have c1 := cell_regrown (cell_later7 hb (Nat.le_refl _) p1)
            have d0 := cell_regrown (cell_later7 hb (Nat.le_refl _) q0)
            have d1 := cell_regrown (cell_later7 hb (Nat.le_refl _) q1)
            simp only [shV] at c0 c1 d0 d1
            have HSC := Hid.mk7 (fun d os => Calls.regrown_of (HSH.out (grow (redrawn wr d) os)))
            clear p0 p1 q0 q1 hr hxy HSH
            go_wp2_with fail
            refine wp_region_quiet_below (by kernel_rfl) (by kernel_rfl) ?_
            repeat (go_big_quiet_step (first | (go_at_call 13; exact HSC.out _ _)))
            refine wpQuiet_nil ?_
            intro _ hw'
            obtain ⟨⟨dq, osq⟩, hw''⟩ := hw'
            subst hw''
            have HB9 : Hid (RowKit.Below w4.heap.size w4 (grow (redrawn wr dq) osq)) := hb.trans ((below_regrown wr dq osq).mono hb.size)
            clear c0 c1 d0 d1 HSC hb
            generalize grow (redrawn wr dq) osq = w9 at *
            go_wp2
            go_roundw
            case rel => exact ⟨k + 1, by omega, by go_num, HB9.out⟩
            case measure => simp [intOf]; omega
          · obtain rfl : k = M.length := by omega
            go_wp2
            go_ret
            exact ⟨rfl, G5.out.trans (hb.mono G5.out.size)⟩
end Go.Proofs.Ytfohfdldpanfaaa
