/- IntervalTwice walked. -/
import Derived.Test.YtfohfdldpanfaaaIvKnown
namespace Go.Proofs.Ytfohfdldpanfaaa
open Go.Shelf Go.RowKit Go.Lib Go.Sort
set_option linter.unusedSimpArgs false
set_option linter.unusedVariables false

/-- The first k of L, turned by T. -/
def trn (L : List Sg) (T : Nat) (k : Nat) : List Sg := (List.range k).map fun i => L.getD ((i + T) % L.length) (0, 0)
theorem trn_len (L : List Sg) (T k : Nat) : (trn L T k).length = k := by simp [trn]
theorem trn_snoc (L : List Sg) (T k : Nat) {r : Sg} (h : L[(k + T) % L.length]? = some r) : trn L T (k + 1) = trn L T k ++ [r] := by
  simp [trn, List.range_succ, h]
theorem trn_perm (L : List Sg) (T : Nat) : (trn L T L.length).Perm L := by
  by_cases hn : L.length = 0
  · obtain rfl := List.eq_nil_of_length_eq_zero hn; exact List.Perm.refl _
  have e : trn L T L.length = L.drop (T % L.length) ++ L.take (T % L.length) := by
    have hm := Nat.mod_lt T (show 0 < L.length by omega)
    apply List.ext_getElem
    · simp [trn_len]; omega
    intro i h1 h2
    have hi : i < L.length := by simpa [trn_len] using h1
    have ht : ∃ q, T = q * L.length + T % L.length := ⟨T / L.length, by rw [Nat.mul_comm]; exact (Nat.div_add_mod T L.length).symm⟩
    obtain ⟨q, hq⟩ := ht
    by_cases hs : i + T % L.length < L.length
    · have em : (i + T) % L.length = T % L.length + i := by
        rw [Nat.add_mod, Nat.mod_eq_of_lt hi, Nat.mod_eq_of_lt (by omega), Nat.add_comm]
      rw [List.getElem_append_left (by simp; omega)]
      simp [trn, em, List.getElem?_eq_getElem (show T % L.length + i < L.length by omega)]
    · have em : (i + T) % L.length = i + T % L.length - L.length := by
        rw [Nat.add_mod, Nat.mod_eq_of_lt hi, Nat.mod_eq_sub_mod (by omega), Nat.mod_eq_of_lt (by omega)]
      rw [List.getElem_append_right (by simp; omega)]
      simp [trn, em, List.getElem?_eq_getElem (show i + T % L.length - L.length < L.length by omega)]
      congr 1; omega
  rw [e]
  exact List.perm_append_comm.trans (by rw [List.take_append_drop])
set_option maxHeartbeats 4000000 in
set_option maxRecDepth 100000 in
theorem twice10_any {w : World} {v : Value} {L : List Sg} (h : SgAt w v L) (hl : L.length ≤ 17592186044416) (t : Int) (ht0 : 0 ≤ t) (ht1 : t ≤ 255) :
    Calls Try.prog 5 #[v, .int .u8 t] w fun e w' => e = .returned (.bool true) ∧ RowKit.Below w.heap.size w w' := by
  obtain ⟨i0, hi, hz0, hz1, hz2⟩ := info_parts Try.info_iv
  obtain ⟨T, rfl⟩ : ∃ T : Nat, t = (T : Int) := ⟨t.toNat, by omega⟩
  obtain ⟨a, cap, rfl, hcap, _, hcells⟩ := id h
  have H0 := Hid.mk7 h
  have HI := Hid.mk7 hi
  have HK := Hid.mk7 known10_any
  clear h hi hcells
  by_cases h40 : 40 < L.length
  · have hd : decide ((L.length : Int) > 40) = true := decide_eq_true (by omega)
    go_enter Try.func5, Try.ntmps5
    go_wp2_with fail
    refine (HK.out w).mono ?_
    rintro e w1 ⟨rfl, b1⟩
    go_wp2
    go_ret
    exact ⟨rfl, b1⟩
  · have hd : decide ((L.length : Int) > 40) = false := decide_eq_false (by omega)
    have hl40 : L.length ≤ 40 := by omega
    go_enter Try.func5, Try.ntmps5
    go_wp2_with fail
    refine (HK.out w).mono ?_
    rintro e w1 ⟨rfl, b1⟩
    have H1 := Hid.mk7 (H0.out.later b1)
    have G1 := Hid.mk7 b1
    clear b1 H0 HK
    go_wp2
    go_loopw [5, 6] (fun kv iv wr => ∃ k : Nat, k ≤ L.length ∧ iv = .int .i64 (k : Nat) ∧ Hid (OwnV wr w1.heap.size kv (trn L T k)) ∧ RowKit.Below w1.heap.size w1 wr) (fun _ iv _ => L.length - (intOf iv).toNat)
    case atStart => exact ⟨0, Nat.zero_le _, rfl, OwnV.nil _ _, RowKit.Below.refl _ _⟩
    case round =>
      obtain ⟨k, hk, rfl, HO, hb⟩ := hrel
      by_cases hlt : k < L.length
      · obtain ⟨p, hp⟩ : ∃ p, p = (k + T) % L.length := ⟨_, rfl⟩
        have hpl : p < L.length := by rw [hp]; exact Nat.mod_lt _ (by omega)
        have hpz : ((k : Int) + (T : Int)) % (L.length : Int) = (p : Int) := by rw [hp]; simp
        obtain ⟨⟨x, y⟩, hr⟩ : ∃ r, L[p]? = some r := ⟨L[p], List.getElem?_eq_getElem hpl⟩
        obtain ⟨_, _, e1, _, _, hc⟩ := H1.out
        cases e1
        obtain ⟨g, off, rfl, q0, q1⟩ := hc p _ hr
        have c0 := cell_later7 hb (Nat.le_refl _) q0
        have c1 := cell_later7 hb (Nat.le_refl _) q1
        simp only at c0 c1
        have HT : Hid (trn L T (k + 1) = trn L T k ++ [(x, y)]) := trn_snoc L T k (by rw [← hp]; exact hr)
        have hnz : (L.length : Int) ≠ 0 := by omega
        have hsz := hb.size
        obtain ⟨a', cap', e', hc', _⟩ := own_shapeV HO.out
        rw [trn_len] at e' hc'
        subst e'
        have HO1 : Hid (wr.ownsRow w1.heap.size 23 2 (.slice a' k cap') k (cs (trn L T k))) := by
          have := HO.out
          unfold OwnV at this
          rw [trn_len] at this
          exact this
        have hi := HI.out
        clear q0 q1 hr hp hc HO
        go_wp2_with (at_builtin; refine wpList_append_own _ rfl _ _ 30 rfl w1.heap.size 23 i0 (.agg #[.int .i64 0, .int .i64 0]) 2 16 Try.underlying30 hi hz0 hz1 hz2 rfl (by decide) _ _ _ rfl (World.ownsRow.alloc HO1.out _) ⟨_, 0, none⟩ 1 1 [.int .i64 x, .int .i64 y] rfl rfl (two_newV' (by simp) _ _ _) (fun u hu => by simp at hu; rcases hu with rfl | rfl <;> rfl) (by unfold maxLen; omega) (by omega) (by simp; omega) ?_)
        intro v' w3 hown' hgrow _
        have HO3 : Hid (OwnV w3 w1.heap.size v' (trn L T (k + 1))) := by
          show OwnV _ _ _ _
          unfold OwnV
          rw [trn_len, HT.out, cs_append, cs_one]
          exact hown'
        have HB3 : Hid (RowKit.Below w1.heap.size w1 w3) := (below_newV hb hsz _).grown hgrow (by simp; omega) (fun j hj => (World.ownsRow.lt HO1.out j hj).1)
        clear HO1 hown' hgrow
        go_wp2
        go_roundw
        case rel => exact ⟨k + 1, by omega, by go_num, HO3, HB3.out⟩
        case measure => simp [intOf]; omega
      · obtain rfl : k = L.length := by omega
        have HN : Hid (SgAt wr u5 (trn L T L.length)) := HO.out.row
        have H2 := Hid.mk7 (H1.out.later hb)
        have G2 : Hid (RowKit.Below w.heap.size w wr) := G1.out.trans (hb.mono G1.out.size)
        have HP : Hid (mrg (trn L T L.length) = mrg L) := mrg_perm (trn_perm L T)
        have HQ : Hid (mrg (mrg L) = mrg L) := mrg_mrg L
        have HML : Hid ((mrg L).length ≤ 40) := Nat.le_trans (mrg_len L) hl40
        clear HO G1 hb
        go_wp2_with fail
        refine (merge_any H2.out hl40).mono ?_
        rintro e w2 ⟨v2, rfl, m2, b2⟩
        have M2 := Hid.mk7 m2
        have HN2 := Hid.mk7 (HN.out.later b2)
        have G3 : Hid (RowKit.Below w.heap.size w w2) := G2.out.trans (b2.mono G2.out.size)
        clear m2 b2 HN H2 G2
        go_wp2_with fail
        refine (merge_any HN2.out (by rw [trn_len]; exact hl40)).mono ?_
        rintro e w3 ⟨v3, rfl, m3, b3⟩
        rw [HP.out] at m3
        have M3 := Hid.mk7 m3
        have N3 := Hid.mk7 (M2.out.later b3)
        have G4 : Hid (RowKit.Below w.heap.size w w3) := G3.out.trans (b3.mono G3.out.size)
        clear m3 b3 HN2 M2 G3
        go_wp2_with fail
        refine (merge_any N3.out HML.out).mono ?_
        rintro e w4 ⟨v4, rfl, m4, b4⟩
        rw [HQ.out] at m4
        have A4 := Hid.mk7 (N3.out.later b4)
        have B4 := Hid.mk7 (M3.out.later b4)
        have C4 := Hid.mk7 m4
        have G5 : Hid (RowKit.Below w.heap.size w w4) := G4.out.trans (b4.mono G4.out.size)
        clear m4 b4 M3 N3 G4 HP HQ
        generalize mrg L = M at *
        obtain ⟨aA, capA, rfl, hcA, _, cA⟩ := A4.out
        obtain ⟨aB, capB, rfl, hcB, _, cB⟩ := B4.out
        obtain ⟨aC, capC, rfl, hcC, _, cC⟩ := C4.out
        have CA := Hid.mk7 cA
        have CB := Hid.mk7 cB
        have CC := Hid.mk7 cC
        have hml := HML.out
        clear cA cB cC A4 B4 C4 H1
        go_wp2
        go_loopw [10] (fun iv wr => ∃ k : Nat, k ≤ M.length ∧ iv = .int .i64 (k : Nat) ∧ RowKit.Below w4.heap.size w4 wr) (fun iv _ => M.length - (intOf iv).toNat)
        case atStart => exact ⟨0, Nat.zero_le _, rfl, RowKit.Below.refl _ _⟩
        case round =>
          obtain ⟨k, hk, rfl, hb⟩ := hrel
          by_cases hlt : k < M.length
          · obtain ⟨⟨x, y⟩, hr⟩ : ∃ r, M[k]? = some r := ⟨M[k], List.getElem?_eq_getElem hlt⟩
            obtain ⟨gA, oA, rfl, p0, p1⟩ := CA.out k _ hr
            obtain ⟨gB, oB, rfl, q0, q1⟩ := CB.out k _ hr
            obtain ⟨gC, oC, rfl, r0, r1⟩ := CC.out k _ hr
            have c0 := cell_later7 hb (Nat.le_refl _) p0
            have c1 := cell_later7 hb (Nat.le_refl _) p1
            have d0 := cell_later7 hb (Nat.le_refl _) q0
            have d1 := cell_later7 hb (Nat.le_refl _) q1
            have e0 := cell_later7 hb (Nat.le_refl _) r0
            have e1 := cell_later7 hb (Nat.le_refl _) r1
            simp only at c0 c1 d0 d1 e0 e1
            clear p0 p1 q0 q1 r0 r1 hr
            go_wp2_with fail
            go_quiet (fail)
            go_wp2
            go_roundw
            case rel => exact ⟨k + 1, by omega, by go_num, below_drewN hb nq⟩
            case measure => simp [intOf]; omega
          · obtain rfl : k = M.length := by omega
            go_wp2
            go_ret
            exact ⟨rfl, G5.out.trans (hb.mono G5.out.size)⟩
end Go.Proofs.Ytfohfdldpanfaaa
