/- The reference's Move, Back, Interval. The reference's Back, Interval. -/
import Derived.Test.YtafhogfbjklboaaDoorOffIv
import Derived.Test.YtafhogfbjklboaaDoorDelRefIs
namespace Go.Proofs.YtafhogfbjklboaaDoor
open Go.RowKit Go.Sort
set_option linter.unusedSimpArgs false
set_option linter.unusedVariables false

theorem hld_ref {a b : Int} (h : 0 ≤ b) : (if 0 < if b < a then b else a then if b < a then b else a else 0) = hld a b := by
  unfold hld
  rw [Int.min_def, Int.max_def]
  repeat' split
  all_goals omega
theorem mvN_snoc {p : Int} {cs : List Ce} {k : Nat} {c : Ce} (hr : cs[k]? = some c) : mvN p (cs.take (k + 1)) = if 0 ≤ c.1 ∧ c.1 < p then k + 1 else mvN p (cs.take k) := by
  have hk := (List.getElem?_eq_some_iff.1 hr).1
  have hl : (cs.take k).length = k := by simp; omega
  rw [take_snoc7 hr, mvN_append, hl]
  by_cases h : 0 ≤ c.1 ∧ c.1 < p
  · have e : mvN p [c] = 1 := by simp only [mvN, if_true]; rw [if_pos h]
    rw [e, if_pos h, if_neg (by omega)]
  · have e : mvN p [c] = 0 := by simp only [mvN, if_true]; rw [if_neg h]
    rw [e, if_neg h, if_pos rfl]
theorem own0_step {cs : List Ce} {k : Nat} {c : Ce} (hr : cs[k]? = some c) : own0 (cs.drop k) = if c.1 < 0 then own0 (cs.drop (k + 1)) + 1 else 0 := by
  rw [drop_consE hr]
  rfl
theorem lastK_snoc {cs : List Ce} {k : Nat} {c : Ce} (hr : cs[k]? = some c) : lastK (cs.take (k + 1)) = if 0 ≤ c.1 then c.1 + 1 else lastK (cs.take k) := by
  rw [take_snoc7 hr, lastK_append]
  by_cases h : 0 ≤ c.1
  · have e : lastK [c] = c.1 + 1 := by simp only [lastK, if_true]; rw [if_pos h]
    rw [e, if_pos h, if_neg (by omega)]
  · have e : lastK [c] = 0 := by simp only [lastK, if_true]; rw [if_neg h]
    rw [e, if_neg h, if_pos rfl]
theorem cel_in14 {base : Int} {es : List El} (hi : isB base es = true) : ∀ c ∈ cel es, -1 ≤ c.1 ∧ c.1 < 20000 := by
  have hd := dl_of hi
  intro c hc
  have := up_one _ 0 (Int.le_refl _) (up_cel es 0 0 (Int.le_refl _) hd.nm) c hc
  have := hd.b1
  omega
set_option maxHeartbeats 4000000 in
set_option maxRecDepth 100000 in
theorem rmove_any {w : World} {v : Value} {es : List El} (base at' : Int) (after : Bool) (h : ElAt w v es) (hsm : Sm es 281474976710656) :
    Calls Tryd.prog 37 #[.agg #[.int .i64 base, v], .int .i64 at', .bool after] w fun e w' => e = .returned (.int .i64 (mvV base es at' after)) ∧ Below w.heap.size w w' := by
  have HV := Hid.mk7 (h.alloc (.cells #[.int .i64 base, v] 25))
  obtain ⟨a, cap, rfl, _⟩ := id h
  have BB := Hid.mk7 (below_newE (Below.refl w.heap.size w) (.cells #[.int .i64 base, .slice a es.length cap] 25))
  have RDH := Hid.mk7 (Rd.new w (.int .i64 base) (.slice a es.length cap))
  have HIS := Hid.mk7 (ris_any base HV.out (hsm.mono (by decide)))
  clear h hsm
  have r0 := RDH.out.c0
  have r1 := RDH.out.c1
  by_cases hi : isB base es = true
  · rw [hi] at HIS
    have hd := dl_of hi
    have hb0 := hd.b0
    have HD := Hid.mk7 hd
    have hcl := (cel_len14 hi).2
    have HCI := Hid.mk7 (cel_in14 hi)
    have hmv : mvV base es at' after = if after then ((frK (hld at' base) (cel es) : Nat) : Int) else ((mvN (hld at' base) (cel es) : Nat) : Int) := by unfold mvV; rw [if_pos hi]
    have HUP := Hid.mk7 (up_cel es 0 0 (Int.le_refl _) hd.nm)
    have HFR := Hid.mk7 (fun p => mvA_frK (p := p) (cel es) 0 HUP.out)
    have hmax : (if 0 < if base < at' then base else at' then if base < at' then base else at' else 0) = hld at' base := hld_ref hb0
    have hp0 : 0 ≤ hld at' base := by unfold hld; omega
    obtain ⟨p, hp⟩ : ∃ p, hld at' base = p := ⟨_, rfl⟩
    rw [hp] at hmv hmax hp0
    rw [hmv]
    have HMAX := Hid.mk7 hmax
    have HCELL := Hid.mk7 (fun W (b : Below (w.alloc (.cells #[.int .i64 base, .slice a es.length cap] 25)).heap.size (w.alloc (.cells #[.int .i64 base, .slice a es.length cap] 25)) W) => rcells_any base (HV.out.later b) hd)
    generalize cel es = cs at *
    clear hi hd hmv hmax hp HUP HD
    go_enter Tryd.func37, Tryd.ntmps37
    go_wp2_with fail
    refine HIS.out.mono ?_
    rintro e w1 ⟨rfl, b1⟩
    have HC1 := HCELL.out w1 b1
    have RD1 := Hid.mk7 (RDH.out.later b1)
    have BB1 := Hid.mk7 (BB.out.trans (b1.mono BB.out.size))
    clear r0 r1 HIS b1 HV RDH BB HCELL
    have r0 := RD1.out.c0
    have r1 := RD1.out.c1
    go_upto_region 4 with fail
    rw [HMAX.out]
    clear HMAX
    generalize (if base < at' then base else at') = q17
    go_wp2_with fail
    refine HC1.mono ?_
    rintro e w2 ⟨v2, rfl, hk2, b2⟩
    obtain ⟨a2, cap2, rfl, hcap2, hcells⟩ := hk2.row
    have HC := Hid.mk7 hcells
    have BB2 := Hid.mk7 (BB1.out.trans (b2.mono BB1.out.size))
    clear r0 r1 HC1 b2 RD1 BB1 hk2 hcells
    go_wp2
    go_loopw [9, 10] (fun nv iv wr => ∃ k n : Nat, k ≤ cs.length ∧ n ≤ k ∧ iv = .int .i64 (k : Nat) ∧ nv = .int .i64 (n : Nat) ∧ Hid (mvN p (cs.take k) = n) ∧ Hid (wr = w2)) (fun _ iv _ => cs.length - (intOf iv).toNat)
    case atStart => exact ⟨0, 0, Nat.zero_le _, Nat.le_refl _, rfl, rfl, rfl, rfl⟩
    case round =>
      obtain ⟨k, n, hk, hnk, rfl, rfl, HN, HW⟩ := hrel
      obtain rfl := HW.out
      clear HW
      by_cases hlt : k < cs.length
      · obtain ⟨⟨x, b⟩, hr⟩ : ∃ r, cs[k]? = some r := ⟨cs[k], List.getElem?_eq_getElem hlt⟩
        obtain ⟨g, off, rfl, q0, q1⟩ := HC.out k _ hr
        simp only at q0 q1
        have HS := Hid.mk7 (mvN_snoc (p := p) hr)
        have hx := HCI.out _ (List.mem_of_getElem? hr)
        simp only at hx
        clear hr q1
        by_cases h1 : 0 ≤ x
        · have d1 : decide (0 ≤ x) = true := decide_eq_true h1
          by_cases h2 : x < p
          · have d2 : decide (x < p) = true := decide_eq_true h2
            have HN2 : Hid (mvN p (cs.take (k + 1)) = k + 1) := by show _ = _; rw [HS.out, if_pos ⟨h1, h2⟩]
            clear HS
            go_wp2
            go_roundw
            case rel => exact ⟨k + 1, k + 1, by omega, by omega, by go_num, by go_num, HN2, Hid.mk7 trivial⟩
            case measure => simp [intOf]; omega
          · have d2 : decide (x < p) = false := decide_eq_false h2
            have HN2 : Hid (mvN p (cs.take (k + 1)) = n) := by show _ = _; rw [HS.out, if_neg (fun h => h2 h.2)]; exact HN.out
            clear HS
            go_wp2
            go_roundw
            case rel => exact ⟨k + 1, n, by omega, by omega, by go_num, rfl, HN2, Hid.mk7 trivial⟩
            case measure => simp [intOf]; omega
        · have d1 : decide (0 ≤ x) = false := decide_eq_false h1
          have HN2 : Hid (mvN p (cs.take (k + 1)) = n) := by show _ = _; rw [HS.out, if_neg (fun h => h1 h.1)]; exact HN.out
          clear HS
          go_wp2
          go_roundw
          case rel => exact ⟨k + 1, n, by omega, by omega, by go_num, rfl, HN2, Hid.mk7 trivial⟩
          case measure => simp [intOf]; omega
      · obtain rfl : k = cs.length := by omega
        have HE : Hid (mvN p cs = n) := by show _ = _; have := HN.out; rwa [List.take_length] at this
        clear HN
        cases after
        · go_wp2
          go_ret
          exact ⟨ret_intE (by rw [HE.out]), BB2.out⟩
        · have HF : Hid (n + own0 (cs.drop n) = frK p cs) := by show _ = _; have := HFR.out p; rwa [HE.out] at this
          go_wp2
          go_loopw [9] (fun nv wr => ∃ j : Nat, j ≤ cs.length ∧ nv = .int .i64 (j : Nat) ∧ Hid (j + own0 (cs.drop j) = frK p cs) ∧ Hid (Below w.heap.size w wr) ∧ Hid (∀ i c, cs[i]? = some c → ∃ g off, a2 = some ⟨g, off, none⟩ ∧ wr.cell? ⟨g, off + i * 2, none⟩ = some (.int .i64 c.1) ∧ wr.cell? ⟨g, off + i * 2 + 1, none⟩ = some (.int .u8 (c.2.toNat : Int)))) (fun nv _ => cs.length - (intOf nv).toNat)
          case atStart => exact ⟨n, hnk, rfl, HF, BB2, HC⟩
          case round =>
            obtain ⟨j, hj, rfl, HJ, HB, HCJ⟩ := hrel
            by_cases hlt2 : j < cs.length
            · obtain ⟨⟨x, b⟩, hr⟩ : ∃ r, cs[j]? = some r := ⟨cs[j], List.getElem?_eq_getElem hlt2⟩
              obtain ⟨g, off, rfl, q0, q1⟩ := HCJ.out j _ hr
              simp only at q0 q1
              have HS := Hid.mk7 (own0_step hr)
              clear hr q1
              by_cases h1 : x < 0
              · have d1 : decide (x < 0) = true := decide_eq_true h1
                have HJ2 : Hid (j + 1 + own0 (cs.drop (j + 1)) = frK p cs) := by
                  show _ = _
                  have e1 := HJ.out
                  rw [HS.out, if_pos h1] at e1
                  omega
                clear HS
                go_wp2
                go_roundw
                case rel => exact ⟨j + 1, by omega, by go_num, HJ2, HB, HCJ⟩
                case measure => simp [intOf]; omega
              · have d1 : decide (x < 0) = false := decide_eq_false h1
                have HE2 : Hid (((frK p cs : Nat) : Int) = (j : Nat)) := by
                  show _ = _
                  have e1 := HJ.out
                  rw [HS.out, if_neg h1] at e1
                  omega
                clear HS
                go_wp2
                go_ret
                exact ⟨ret_intE (by rw [HE2.out]), HB.out⟩
            · obtain rfl : j = cs.length := by omega
              have HE2 : Hid (((frK p cs : Nat) : Int) = ((cs.length : Nat) : Int)) := by
                show _ = _
                have e1 := HJ.out
                rw [List.drop_length] at e1
                simp only [own0] at e1
                omega
              go_wp2
              go_ret
              exact ⟨ret_intE (by rw [HE2.out]), HB.out⟩
  · have hi' : isB base es = false := by simpa using hi
    rw [hi'] at HIS
    have hmv : mvV base es at' after = 0 := by unfold mvV; rw [if_neg (by simpa using hi')]
    rw [hmv]
    go_enter Tryd.func37, Tryd.ntmps37
    go_wp2_with fail
    refine HIS.out.mono ?_
    rintro e w1 ⟨rfl, b1⟩
    go_wp2
    go_ret
    exact ⟨rfl, BB.out.trans (b1.mono BB.out.size)⟩
end Go.Proofs.YtafhogfbjklboaaDoor
namespace Go.Proofs.YtafhogfbjklboaaDoor
open Go.RowKit Go.Sort
set_option linter.unusedSimpArgs false
set_option linter.unusedVariables false

theorem mvV_no {base : Int} {es : List El} {at' : Int} {after : Bool} (hi : isB base es = false) : mvV base es at' after = 0 := by unfold mvV; rw [if_neg (by simp [hi])]
end Go.Proofs.YtafhogfbjklboaaDoor
