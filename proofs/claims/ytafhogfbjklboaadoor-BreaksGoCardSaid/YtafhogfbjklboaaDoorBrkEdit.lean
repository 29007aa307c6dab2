/- breaks.Edit. -/
import Derived.Test.YtafhogfbjklboaaDoorBrkPut
import Derived.Test.YtafhogfbjklboaaDoorOffHelp
namespace Go.Proofs.YtafhogfbjklboaaDoor
open Go.RowKit Go.Sort
set_option linter.unusedSimpArgs false
set_option linter.unusedVariables false

set_option maxHeartbeats 8000000 in
set_option maxRecDepth 100000 in
theorem edit_any16 {w : World} {v ev : Value} {L : List Int} {es : List El} (base : Int) (h : NAt w v L) (hl : L.length ≤ 1073741824) (he : ElAt w ev es) (hsm : Sm es 281474976710656) (tb : Nat × Nat) (hT : Tab w tb) :
    Calls Tryd.prog 15 #[v, .agg #[.int .i64 base, ev]] w fun e w' => ∃ v', e = .returned (.tuple #[v', .int .i64 (ebE base es L)]) ∧ NAt w' v' (ebL base es L) ∧ Below w.heap.size w w' := by
  obtain ⟨ea, ecap, rfl, _⟩ := id he
  obtain ⟨a, cap, rfl⟩ := nat_shape h
  obtain ⟨W, hW⟩ : ∃ W, W = w.alloc (.cells #[.int .i64 base, .slice ea es.length ecap] 25) := ⟨_, rfl⟩
  have b0 : Below w.heap.size w W := by rw [hW]; exact below16 (Below.refl _ _) _
  have RD0 : Hid (Rd W w.heap.size (.int .i64 base) (.slice ea es.length ecap)) := by rw [hW]; exact Rd.new w _ _
  have HV0 := Hid.mk7 (h.later b0)
  have HE0 := Hid.mk7 (he.later b0)
  have HT0 := Hid.mk7 (hT.later b0)
  have HB0 := Hid.mk7 b0
  have HI0 := Hid.mk7 (is_any base HE0.out hsm tb HT0.out)
  have r0 := RD0.out.c0
  have r1 := RD0.out.c1
  clear h he hT b0
  go_enter Tryd.func15, Tryd.ntmps15
  go_upto_region 1 with fail
  rw [← hW]
  clear hW
  cases hi : isB base es with
  | false =>
    obtain ⟨e1, e2⟩ := eb_bad (base := base) (es := es) (l := L) (by simp [hi])
    have E1 := Hid.mk7 e1
    have E2 := Hid.mk7 e2
    rw [hi] at HI0
    clear e1 e2 hi
    go_wp2_with fail
    refine HI0.out.mono ?_
    rintro e w1 ⟨rfl, b1⟩
    have HB1 := Hid.mk7 (HB0.out.trans (b1.mono HB0.out.size))
    clear b1 HI0 r0 r1
    go_wp2
    go_ret2
    exact ⟨_, tup16 E1.out.symm, nat_nil' E2.out, HB1.out⟩
  | true =>
    rw [hi] at HI0
    go_wp2_with fail
    refine HI0.out.mono ?_
    rintro e w1 ⟨rfl, b1⟩
    have HB1 := Hid.mk7 (HB0.out.trans (b1.mono HB0.out.size))
    have RD1 := Hid.mk7 (RD0.out.later b1)
    have HV1 := Hid.mk7 (HV0.out.later b1)
    have HE1 := Hid.mk7 (HE0.out.later b1)
    have HT1 := Hid.mk7 (HT0.out.later b1)
    clear b1 HI0 r0 r1 HB0 RD0 HV0 HE0 HT0
    have HS1 := Hid.mk7 (is_any16 base HV1.out hl)
    have r0 := RD1.out.c0
    have r1 := RD1.out.c1
    cases his : isK base L with
    | false =>
      obtain ⟨e1, e2⟩ := eb_bad (base := base) (es := es) (l := L) (by simp [his])
      have E1 := Hid.mk7 e1
      have E2 := Hid.mk7 e2
      rw [his] at HS1
      clear e1 e2 hi his
      go_wp2_with fail
      refine HS1.out.mono ?_
      rintro e w2 ⟨rfl, rfl⟩
      clear HS1 r0 r1
      go_wp2
      go_ret2
      exact ⟨_, tup16 E1.out.symm, nat_nil' E2.out, HB1.out⟩
    | true =>
      obtain ⟨e1, e2⟩ := eb_ok (base := base) (es := es) (l := L) ⟨hi, his⟩
      obtain ⟨n, hn⟩ : ∃ n, (cel es).length = n := ⟨_, rfl⟩
      have hn2 := (cel_len14 hi).2
      rw [hn] at e2 hn2
      obtain ⟨f, hf⟩ : ∃ f : Int → Int, (fun x => mvV base es x false) = f := ⟨_, rfl⟩
      have HF : Hid (∀ x, mvV base es x false = f x) := fun x => by rw [← hf]
      rw [hf] at e2
      have E1 := Hid.mk7 e1
      have E2 := Hid.mk7 e2
      have HSZ := Hid.mk7 (fun (W : World) (h : ElAt W (.slice ea es.length ecap) es) (t : Tab W tb) => size_len14 hi hn h t)
      have hl60 := (isK_spec.1 his).1
      rw [his] at HS1
      clear e1 e2 hi his hf hn
      go_wp2_with fail
      refine HS1.out.mono ?_
      rintro e w2 ⟨rfl, rfl⟩
      clear HS1
      go_wp2_with fail
      refine (HSZ.out _ HE1.out HT1.out).mono ?_
      rintro e w3 ⟨rfl, b3⟩
      have HB3 := Hid.mk7 (below_old HB1.out b3)
      have RD3 := Hid.mk7 (RD1.out.later b3)
      have HV3 := Hid.mk7 (HV1.out.later b3)
      have HE3 := Hid.mk7 (HE1.out.later b3)
      have HT3 := Hid.mk7 (HT1.out.later b3)
      clear b3 r0 r1 HB1 RD1 HV1 HE1 HT1 HSZ
      go_wp2
      go_loopw [6, 7, 25] (fun mv av iv wr => ∃ (i : Nat) (M : List Int) (p : Int), i ≤ L.length ∧ M.length ≤ i ∧ Hid (OwnZ wr w3.heap.size mv M) ∧ av = .int .i64 p ∧ iv = .int .i64 (i : Nat) ∧ Hid (edK (n : Nat) f 0 L = M ++ edK (n : Nat) f p (L.drop i)) ∧ Below w3.heap.size w3 wr) (fun _ _ iv _ => L.length - (intOf iv).toNat)
      case atStart => exact ⟨0, [], 0, Nat.zero_le _, Nat.le_refl _, OwnZ.nil _ _, rfl, rfl, rfl, Below.refl _ _⟩
      case round =>
        obtain ⟨i, M, p, hi, hMi, HO, rfl, rfl, HR, hb⟩ := hrel
        by_cases hlt : i < L.length
        · obtain ⟨x, hr⟩ : ∃ r, L[i]? = some r := ⟨L[i], List.getElem?_eq_getElem hlt⟩
          obtain ⟨g, off, rfl, q0⟩ := nat_cell HV3.out hr
          have c0 := cell_later7 hb (Nat.le_refl _) q0
          have r0 := (RD3.out.later hb).c0
          have r1 := (RD3.out.later hb).c1
          have HMV := Hid.mk7 (move_any base x false (HE3.out.later hb) hsm tb (HT3.out.later hb))
          rw [HF.out] at HMV
          have HP := Hid.mk7 (fun h => edK_push HR.out hr h)
          have HS := Hid.mk7 (fun h => edK_skip HR.out hr h)
          generalize f x = m at *
          have HBB := Hid.mk7 hb
          clear q0 hr HR hb
          go_wp2_with fail
          refine HMV.out.mono ?_
          rintro e w4 ⟨rfl, b4⟩
          have HB4 := Hid.mk7 (below_old HBB.out b4)
          have HO4 := Hid.mk7 (HO.out.later b4)
          clear b4 HO HBB HMV c0 r0 r1
          by_cases h1 : p < m
          case neg =>
            have s1 : decide (p < m) = false := decide_eq_false h1
            have HN := Hid.mk7 (HS.out (fun h => h1 h.1))
            clear HP HS
            go_wp2
            go_roundw
            case rel => exact ⟨i + 1, M, p, by omega, by omega, HO4, rfl, by go_num, HN, HB4.out⟩
            case measure => simp [intOf]; omega
          have s1 : decide (p < m) = true := decide_eq_true h1
          by_cases h2 : m < (n : Int)
          case neg =>
            have s2 : decide (m < (n : Int)) = false := decide_eq_false h2
            have HN := Hid.mk7 (HS.out (fun h => h2 h.2))
            clear HP HS
            go_wp2
            go_roundw
            case rel => exact ⟨i + 1, M, p, by omega, by omega, HO4, rfl, by go_num, HN, HB4.out⟩
            case measure => simp [intOf]; omega
          have s2 : decide (m < (n : Int)) = true := decide_eq_true h2
          have HN := Hid.mk7 (HP.out ⟨h1, h2⟩)
          obtain ⟨ma, mc, hma, _⟩ := HO4.out.shape
          subst hma
          have hs4 := HB4.out.size
          clear HP HS
          go_wp2_with (at_builtin; refine wpList_append_row16 rfl _ _ rfl w3.heap.size _ _ M [m] rfl (HO4.out.alloc _) rfl (nat_one rfl _ _) (by omega) (by simp) (by simp; omega) ?_)
          intro v' w5 ho hgrow
          have HO5 := Hid.mk7 ho
          have HB5 := Hid.mk7 ((below16 HB4.out _).grown hgrow (by simp; omega) (fun k hk => (World.ownsRow.lt HO4.out k hk).1))
          clear ho hgrow HO4 HB4
          go_wp2
          go_roundw
          case rel => exact ⟨i + 1, M ++ [m], m, by omega, by simp; omega, HO5, rfl, by go_num, HN, HB5.out⟩
          case measure => simp [intOf]; omega
        · obtain rfl : i = L.length := by omega
          have HEN := Hid.mk7 (edK_end HR.out (Nat.le_refl _))
          have HBB := Hid.mk7 (below_old HB3.out hb)
          obtain ⟨ma, mc, hma, _⟩ := HO.out.shape
          subst hma
          clear HR
          go_wp2
          go_ret2
          exact ⟨_, tup16 E1.out.symm, by rw [E2.out, HEN.out]; exact HO.out.num, HBB.out⟩
end Go.Proofs.YtafhogfbjklboaaDoor
