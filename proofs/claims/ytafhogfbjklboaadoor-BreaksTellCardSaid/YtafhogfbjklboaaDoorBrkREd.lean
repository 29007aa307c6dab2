/- The reference's EditBreaks. -/
import Derived.Test.YtafhogfbjklboaaDoorBrkEdit
import Derived.Test.YtafhogfbjklboaaDoorBrkTake
import Derived.Test.YtafhogfbjklboaaDoorDelRefIs
import Derived.Test.YtafhogfbjklboaaDoorDelCell
import Derived.Test.YtafhogfbjklboaaDoorOffRefB
namespace Go.Proofs.YtafhogfbjklboaaDoor
open Go.RowKit Go.Sort
set_option linter.unusedSimpArgs false
set_option linter.unusedVariables false

/-- How far the loop has come: the last one that was put, that none comes below it. -/
structure Eq16 (n : Int) (f : Int → Int) (L M R : List Int) (p : Int) (i : Nat) : Prop where
  rest : R = M ++ edK n f p (L.drop i)
  last : ∀ m, M ≠ [] → M.length = m + 1 → M[m]? = some p
  none : M = [] → p = 0
  pos : 0 ≤ p
  low : ∀ j x, i ≤ j → L[j]? = some x → 0 < p → p ≤ f x
theorem Eq16.start {n : Int} {f : Int → Int} {L R : List Int} (h : R = edK n f 0 L) : Eq16 n f L [] R 0 0 := ⟨by simpa using h, fun _ h => absurd rfl h, fun _ => rfl, Int.le_refl _, fun _ _ _ _ h => absurd h (by omega)⟩
theorem Eq16.skip {n p x : Int} {f : Int → Int} {L M R : List Int} {i : Nat} (h : Eq16 n f L M R p i) (hx : L[i]? = some x) (hc : ¬ (p < f x ∧ f x < n)) : Eq16 n f L M R p (i + 1) :=
  ⟨edK_skip h.rest hx hc, h.last, h.none, h.pos, fun j y hj => h.low j y (by omega)⟩
theorem Eq16.push {n p x m : Int} {f : Int → Int} {L M R : List Int} {i : Nat} (h : Eq16 n f L M R p i) (hm : f x = m) (hf : ∀ a b, a ≤ b → f a ≤ f b) (hr : L.Pairwise (· ≤ ·)) (hx : L[i]? = some x) (hc : p < m ∧ m < n) : Eq16 n f L (M ++ [m]) R m (i + 1) := by
  subst hm
  refine ⟨edK_push h.rest hx hc, ?_, fun e => by simp at e, by have := h.pos; omega, ?_⟩
  · intro k _ hk
    simp at hk
    subst hk
    simp
  · intro j y hj hy _
    apply hf
    obtain ⟨hi, e1⟩ := List.getElem?_eq_some_iff.1 hx
    obtain ⟨hj', e2⟩ := List.getElem?_eq_some_iff.1 hy
    have := List.pairwise_iff_getElem.1 hr i j hi hj' (by omega)
    rw [e1, e2] at this
    exact this
theorem Eq16.stop {n p : Int} {f : Int → Int} {L M R : List Int} {i : Nat} (h : Eq16 n f L M R p i) (hi : L.length ≤ i) : R = M := edK_end h.rest hi
set_option maxHeartbeats 16000000 in
set_option maxRecDepth 100000 in
theorem redit_any16 {w : World} {v ev : Value} {L : List Int} {es : List El} (base : Int) (h : NAt w v L) (hl : L.length ≤ 1073741824) (he : ElAt w ev es) (hsm : Sm es 281474976710656) :
    Calls Tryd.prog 16 #[v, .agg #[.int .i64 base, ev]] w fun e w' => ∃ v', e = .returned (.tuple #[v', .int .i64 (ebE base es L)]) ∧ NAt w' v' (ebL base es L) ∧ Below w.heap.size w w' := by
  obtain ⟨ea, ecap, rfl, _⟩ := id he
  obtain ⟨a, cap, rfl⟩ := nat_shape h
  obtain ⟨W, hW⟩ : ∃ W, W = w.alloc (.cells #[.int .i64 base, .slice ea es.length ecap] 25) := ⟨_, rfl⟩
  have b0 : Below w.heap.size w W := by rw [hW]; exact below16 (Below.refl _ _) _
  have RD0 : Hid (Rd W w.heap.size (.int .i64 base) (.slice ea es.length ecap)) := by rw [hW]; exact Rd.new w _ _
  have HV0 := Hid.mk7 (h.later b0)
  have HE0 := Hid.mk7 (he.later b0)
  have HB0 := Hid.mk7 b0
  have HI0 := Hid.mk7 (ris_any base HE0.out (hsm.mono (by decide)))
  have r0 := RD0.out.c0
  have r1 := RD0.out.c1
  clear h he b0
  go_enter Tryd.func16, Tryd.ntmps16
  go_upto_region 1 with fail
  rw [← hW]
  clear hW
  cases hi : isB base es with
  | false =>
    obtain ⟨e1, e2⟩ := eb_bad (base := base) (es := es) (l := L) (by simp [hi])
    have E1 := Hid.mk7 e1
    have E2 := Hid.mk7 e2
    rw [hi] at HI0
    clear e1 e2 hi
    go_wp2_with fail
    refine HI0.out.mono ?_
    rintro e w1 ⟨rfl, b1⟩
    have HB1 := Hid.mk7 (HB0.out.trans (b1.mono HB0.out.size))
    clear b1 HI0 r0 r1
    go_wp2
    go_ret2
    exact ⟨_, tup16 E1.out.symm, nat_nil' E2.out, HB1.out⟩
  | true =>
    rw [hi] at HI0
    go_wp2_with fail
    refine HI0.out.mono ?_
    rintro e w1 ⟨rfl, b1⟩
    have HB1 := Hid.mk7 (HB0.out.trans (b1.mono HB0.out.size))
    have RD1 := Hid.mk7 (RD0.out.later b1)
    have HV1 := Hid.mk7 (HV0.out.later b1)
    have HE1 := Hid.mk7 (HE0.out.later b1)
    clear b1 HI0 r0 r1 HB0 RD0 HV0 HE0
    have HS1 := Hid.mk7 (ris_any16 base HV1.out hl)
    have r0 := RD1.out.c0
    have r1 := RD1.out.c1
    cases his : isK base L with
    | false =>
      obtain ⟨e1, e2⟩ := eb_bad (base := base) (es := es) (l := L) (by simp [his])
      have E1 := Hid.mk7 e1
      have E2 := Hid.mk7 e2
      rw [his] at HS1
      clear e1 e2 hi his
      go_wp2_with fail
      refine HS1.out.mono ?_
      rintro e w2 ⟨rfl, b2⟩
      have HB2 := Hid.mk7 (below_old HB1.out b2)
      clear HS1 r0 r1
      go_wp2
      go_ret2
      exact ⟨_, tup16 E1.out.symm, nat_nil' E2.out, HB2.out⟩
    | true =>
      obtain ⟨e1, e2⟩ := eb_ok (base := base) (es := es) (l := L) ⟨hi, his⟩
      obtain ⟨n, hn⟩ : ∃ n, (cel es).length = n := ⟨_, rfl⟩
      have hn2 := (cel_len14 hi).2
      have HN := Hid.mk7 hn
      rw [hn] at e2 hn2
      obtain ⟨f, hf⟩ : ∃ f : Int → Int, (fun x => mvV base es x false) = f := ⟨_, rfl⟩
      have HF : Hid (∀ x, mvV base es x false = f x) := fun x => by rw [← hf]
      have HFM : Hid (∀ a b, a ≤ b → f a ≤ f b) := fun a b h => by rw [← hf]; exact mvV_mono h
      have HRI := Hid.mk7 (ris_pair_le (isK_spec.1 his).2)
      rw [hf] at e2
      have E1 := Hid.mk7 e1
      have E2 := Hid.mk7 e2
      have hl60 := (isK_spec.1 his).1
      have hd := Hid.mk7 (dl_of hi)
      rw [his] at HS1
      clear e1 e2 hi his hf hn
      go_wp2_with fail
      refine HS1.out.mono ?_
      rintro e w2 ⟨rfl, b2⟩
      have HB2 := Hid.mk7 (below_old HB1.out b2)
      have RD2 := Hid.mk7 (RD1.out.later b2)
      have HV2 := Hid.mk7 (HV1.out.later b2)
      have HE2 := Hid.mk7 (HE1.out.later b2)
      clear b2 HS1 r0 r1 HB1 RD1 HV1 HE1
      have r0 := RD2.out.c0
      have r1 := RD2.out.c1
      go_wp2_with fail
      refine (rcells_any base HE2.out hd.out).mono ?_
      rintro e w3 ⟨vk, rfl, ok, b3⟩
      obtain ⟨ka, kc, rfl, _⟩ := ok.row
      rw [HN.out]
      have HB3 := Hid.mk7 (below_old HB2.out b3)
      have RD3 := Hid.mk7 (RD2.out.later b3)
      have HV3 := Hid.mk7 (HV2.out.later b3)
      have HE3 := Hid.mk7 (HE2.out.later b3)
      clear b3 ok r0 r1 HB2 RD2 HV2 HE2
      go_wp2
      go_loopw [7, 8] (fun mv iv wr => ∃ (i : Nat) (M : List Int) (p : Int), i ≤ L.length ∧ M.length ≤ i ∧ Hid (OwnZ wr w3.heap.size mv M) ∧ iv = .int .i64 (i : Nat) ∧ Hid (Eq16 (n : Nat) f L M (edK (n : Nat) f 0 L) p i) ∧ Hid (Below w3.heap.size w3 wr)) (fun _ iv _ => L.length - (intOf iv).toNat)
      case atStart => exact ⟨0, [], 0, Nat.zero_le _, Nat.le_refl _, OwnZ.nil _ _, rfl, Eq16.start rfl, Below.refl _ _⟩
      case round =>
        obtain ⟨i, M, p, hi, hMi, HO, rfl, HR, hb⟩ := hrel
        by_cases hlt : i < L.length
        · obtain ⟨x, hr⟩ : ∃ r, L[i]? = some r := ⟨L[i], List.getElem?_eq_getElem hlt⟩
          obtain ⟨m, hm⟩ : ∃ m, f x = m := ⟨_, rfl⟩
          have HP := Hid.mk7 (fun h => HR.out.push hm HFM.out HRI.out hr h)
          have HS := Hid.mk7 (fun h => HR.out.skip hr h)
          rw [hm] at HS
          have HLW := Hid.mk7 (HR.out.low i x (Nat.le_refl _) hr)
          rw [hm] at HLW
          have HLA := Hid.mk7 HR.out.last
          have HNO := Hid.mk7 HR.out.none
          have hpp := HR.out.pos
          have HXM : Hid (mvV base es x false = m) := by show _ = _; rw [HF.out, hm]
          obtain ⟨g, off, rfl, q0⟩ := nat_cell HV3.out hr
          have z2 := cell_regrown (cell_later7 hb.out (Nat.le_refl _) q0)
          have z0 := cell_regrown (RD3.out.later hb.out).c0
          have z1 := cell_regrown (RD3.out.later hb.out).c1
          clear q0 hr hm
          go_wp2_with fail
          refine wp_region_mixP [([0, 1, 2, 3, 4], [5]), ([6], [])] (by kernel_rfl) (by kernel_rfl) ?_
          rintro x0 ⟨d0, rfl⟩
          have m0 := redrawn16 wr d0
          have hb0 := below_old hb.out m0
          have HO0 := Hid.mk7 (HO.out.later m0)
          have HMV := Hid.mk7 (rmove_any base x false (HE3.out.later hb0) hsm)
          rw [HXM.out] at HMV
          have HB0 := Hid.mk7 hb0
          have HM0 := Hid.mk7 m0
          refine wpPlan_cons ?_
          simp only [pickAll, pickAt, List.nil_append, List.cons_append, List.append_nil]
          repeat (go_big_quiet_step (fail))
          refine wpQuiet_nil ?_
          clear m0 hb0 z0 z1 z2
          generalize redrawn wr d0 = w4 at *
          go_wp2_with fail
          refine HMV.out.mono ?_
          rintro e w5 ⟨rfl, b5⟩
          have HB5 := Hid.mk7 (below_old HB0.out b5)
          have HO5 := Hid.mk7 (HO0.out.later b5)
          have m5 := below_old HM0.out b5
          clear b5 HO HO0 hb HB0 HMV HM0
          go_wp2
          refine mixNext16 m5 ?_
          refine wpPlan_cons ?_
          simp only [pickAll, pickAt, List.nil_append, List.cons_append, List.append_nil]
          repeat (go_big_quiet_step (fail))
          refine wpQuiet_nil ?_
          refine mixNext16 m5 (wpPlan_nil ?_)
          clear m5
          by_cases h1 : 0 < m
          case neg =>
            have s1 : decide (0 < m) = false := decide_eq_false h1
            have HX := Hid.mk7 (HS.out (fun h => h1 (by omega)))
            clear HP HS HLW HLA HNO
            go_wp2
            go_roundw
            case rel => exact ⟨i + 1, M, p, by omega, by omega, HO5, by go_num, HX, HB5⟩
            case measure => simp [intOf]; omega
          have s1 : decide (0 < m) = true := decide_eq_true h1
          by_cases h2 : m < (n : Int)
          case neg =>
            have s2 : decide (m < (n : Int)) = false := decide_eq_false h2
            have HX := Hid.mk7 (HS.out (fun h => h2 h.2))
            clear HP HS HLW HLA HNO
            go_wp2
            go_roundw
            case rel => exact ⟨i + 1, M, p, by omega, by omega, HO5, by go_num, HX, HB5⟩
            case measure => simp [intOf]; omega
          have s2 : decide (m < (n : Int)) = true := decide_eq_true h2
          by_cases h3 : M.length = 0
          · have s3 : ((M.length : Int) == 0) = true := by simpa using (by omega : (M.length : Int) = 0)
            have hp0 := HNO.out (List.eq_nil_of_length_eq_zero h3)
            have HX := Hid.mk7 (HP.out ⟨by omega, h2⟩)
            obtain ⟨ma, mc, hma, _⟩ := HO5.out.shape
            subst hma
            clear hp0 h3
            have hs5 := HB5.out.size
            clear HP HS HLW HLA HNO
            go_wp2_with (at_builtin; refine wpList_append_row16 rfl _ _ rfl w3.heap.size _ _ M [m] rfl (HO5.out.alloc _) rfl (nat_one rfl _ _) (by omega) (by simp) (by simp; omega) ?_)
            intro v' w6 ho hgrow
            have HO6 := Hid.mk7 ho
            have HB6 := Hid.mk7 ((below16 HB5.out _).grown hgrow (by simp; omega) (fun k hk => (World.ownsRow.lt HO5.out k hk).1))
            clear ho hgrow HO5 HB5
            go_wp2
            go_roundw
            case rel => exact ⟨i + 1, M ++ [m], m, by omega, by simp; omega, HO6, by go_num, HX, HB6⟩
            case measure => simp [intOf]; omega
          have s3 : ((M.length : Int) == 0) = false := by simpa using (by omega : ¬ (M.length : Int) = 0)
          obtain ⟨k, hk⟩ : ∃ k, M.length = k + 1 := ⟨M.length - 1, by omega⟩
          have hMk := HLA.out k (by intro e; rw [e] at h3; simp at h3) hk
          obtain ⟨ma, mc, hma, _⟩ := HO5.out.shape
          subst hma
          obtain ⟨g2, o2, hga, c2⟩ := nat_cell HO5.out.num hMk
          subst hga
          have ek : ((M.length : Nat) : Int) - 1 = (k : Int) := by omega
          have hkM : k < M.length := by omega
          by_cases h4 : p = m
          · have s4 : (p != m) = false := by simpa using h4
            have HX := Hid.mk7 (HS.out (fun h => by omega))
            clear HP HS HLW HLA HNO h4 hMk h3 hk
            go_wp2
            go_roundw
            case rel => exact ⟨i + 1, M, p, by omega, by omega, HO5, by go_num, HX, HB5⟩
            case measure => simp [intOf]; omega
          have s4 : (p != m) = true := by simpa using h4
          have hlw := HLW.out
          have HX := Hid.mk7 (HP.out ⟨by omega, h2⟩)
          clear h4 hMk h3 hk hlw
          have hs5 := HB5.out.size
          clear HP HS HLW HLA HNO
          go_wp2_with (at_builtin; refine wpList_append_row16 rfl _ _ rfl w3.heap.size _ _ M [m] rfl (HO5.out.alloc _) rfl (nat_one rfl _ _) (by omega) (by simp) (by simp; omega) ?_)
          intro v' w6 ho hgrow
          have HO6 := Hid.mk7 ho
          have HB6 := Hid.mk7 ((below16 HB5.out _).grown hgrow (by simp; omega) (fun k hk => (World.ownsRow.lt HO5.out k hk).1))
          clear ho hgrow HO5 HB5
          go_wp2
          go_roundw
          case rel => exact ⟨i + 1, M ++ [m], m, by omega, by simp; omega, HO6, by go_num, HX, HB6⟩
          case measure => simp [intOf]; omega
        · obtain rfl : i = L.length := by omega
          have HEN := Hid.mk7 (HR.out.stop (Nat.le_refl _))
          have HBB := Hid.mk7 (below_old HB3.out hb.out)
          obtain ⟨ma, mc, hma, _⟩ := HO.out.shape
          subst hma
          clear HR
          go_wp2
          go_ret2
          exact ⟨_, tup16 E1.out.symm, by rw [E2.out, HEN.out]; exact HO.out.num, HBB.out⟩
end Go.Proofs.YtafhogfbjklboaaDoor
