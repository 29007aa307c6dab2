/- The reference's Join. -/
import Derived.Test.YtalolaajcmndeaaDoorFacChgM
import Derived.Test.YtalolaajcmndeaaDoorDelCell
namespace Go.Proofs.YtalolaajcmndeaaDoor
open Go.RowKit Go.Sort
set_option linter.unusedSimpArgs false
set_option linter.unusedVariables false

/-- Both halves can be put together: by the steps that changes takes. -/
theorem chd_ind {base : Int} {L : List Int} {es : List El} (hi : isB base es = true) (hL : Ok8 L) (hlen : (L.length : Int) = base) : ∀ (n : Nat) (xs : List El) (ys : List Sg) (acc : List El) (a : Int) (k : Nat) (txt : List UInt8),
    xs.length + ys.length ≤ n → Cp base L es xs ys acc a k txt → ∃ l, Chd base L es l
  | n, [], ys, acc, a, k, txt, _, h => ⟨_, cp_end hi h⟩
  | 0, x :: xs, ys, acc, a, k, txt, hn, h => by simp at hn
  | n + 1, (f, t, T) :: xs, ys, acc, a, k, txt, hn, h => by
    by_cases hT : T = []
    · subst hT
      have hky := h.ky
      rw [Ky, if_pos rfl] at hky
      obtain ⟨rfl, hft, hk2⟩ := hky
      have htb := ky_le _ _ _ hk2
      have ha0 := h.a0
      obtain ⟨m, c, ys, rfl⟩ : ∃ m c qs, ys = (m, c) :: qs := by
        refine xp_cons_of fun e => ?_
        have h1 := h.ry
        rw [e] at h1
        have h2 := congrArg List.length h1
        simp at h2
        omega
      have hm1 : 1 ≤ m := h.py (m, c) (by simp)
      obtain ⟨ic, lc⟩ := xp_head_in (rs := ys) (c := c) hm1
      have hc0 : 0 ≤ c := by
        rw [h.ry] at ic
        exact (hL.2 c (List.mem_of_mem_drop ic)).1
      obtain ⟨n', hn'⟩ : ∃ n', n' = min (t - f) m := ⟨_, rfl⟩
      have h5 := cp_copy h (n := n') (tu := if 0 < c then f + n' else f) (by omega) (by omega) (by omega) (by omega) (by
        by_cases hc : 0 < c
        · exact Or.inl ⟨hc, if_pos hc⟩
        · exact Or.inr ⟨by omega, if_neg hc⟩)
      have e1 := lessE_len f t n' xs
      have e2 := less_len m c n' ys
      refine chd_ind hi hL hlen n _ _ _ _ _ _ ?_ h5
      simp only [List.length_cons] at hn
      rcases (show f + n' = t ∨ m = n' by omega) with h6 | h6
      · have := e1.2 h6; omega
      · have := e2.2 h6; omega
    · exact chd_ind hi hL hlen n _ _ _ _ _ _ (by simp only [List.length_cons] at hn; omega) (cp_text h hT)
theorem chd_ex {base : Int} {L : List Int} {es : List El} (hi : isB base es = true) (hcp : cpS es = base) (hL : Ok8 L) (hlen : (L.length : Int) = base) : ∃ l, Chd base L es l :=
  chd_ind hi hL hlen _ _ _ _ _ _ _ (Nat.le_refl _) (cp_start (ky_isB hi hcp) (dl_of hi).vl)
theorem fil_take {L : List Int} {cs : List Ce} {k : Nat} {c : Ce} (h : cs[k]? = some c) : fil L (cs.take (k + 1)) = fil L (cs.take k) ++ fil L [c] := by
  rw [take_snoc7 h, fil_append]
theorem fil_keep {L : List Int} {c : Ce} (h : c.1 < 0 ∨ L.getD c.1.toNat 0 = 0) : fil L [c] = [c] := by
  unfold fil
  rw [List.filter_cons_of_pos (by simpa using h)]; rfl
theorem fil_go {L : List Int} {c : Ce} (h1 : 0 ≤ c.1) (h2 : L.getD c.1.toNat 0 ≠ 0) : fil L [c] = [] := by
  unfold fil
  rw [List.filter_cons_of_neg (by simp only [Bool.or_eq_true, decide_eq_true_eq, not_or]; exact ⟨by omega, h2⟩)]; rfl
set_option maxHeartbeats 4000000 in
set_option maxRecDepth 100000 in
theorem rjoin_any {w : World} {v u : Value} {cs : List Ce} {L : List Int} (h : KAt w v cs) (hu : NumAt .i64 w u L) (hc : ∀ c ∈ cs, c.1 < 0 ∨ (0 ≤ c.1 ∧ c.1 < L.length)) (hl : cs.length ≤ 40000) (hL : L.length ≤ 20000) :
    Calls Tryd.prog 23 #[v, u] w fun e w' => ∃ v', e = .returned v' ∧ KAt w' v' (fil L cs) ∧ RowKit.Below w.heap.size w w' := by
  obtain ⟨i0, hi0, hz0, hz1, hz2⟩ := info_parts Tryd.info_ce
  have HI := Hid.mk7 hi0
  obtain ⟨a, cap, rfl, hcap, hcells⟩ := h
  obtain ⟨a2, cap2, rfl, hcap2, hcells2⟩ := hu
  have HC := Hid.mk7 hcells
  have HC2 := Hid.mk7 hcells2
  have HIN := Hid.mk7 hc
  clear hcells hcells2 hi0 hc
  go_enter Tryd.func23, Tryd.ntmps23
  go_wp2
  go_loopw [5, 6] (fun lv iv wr => ∃ k : Nat, k ≤ cs.length ∧ iv = .int .i64 (k : Nat) ∧ Hid (OwnK wr w.heap.size lv (fil L (cs.take k))) ∧ RowKit.Below w.heap.size w wr) (fun _ iv _ => cs.length - (intOf iv).toNat)
  case atStart => exact ⟨0, Nat.zero_le _, rfl, OwnK.nil _ _, RowKit.Below.refl _ _⟩
  case round =>
    obtain ⟨k, hk, rfl, HO, hb⟩ := hrel
    have hsz := hb.size
    by_cases hlt : k < cs.length
    · obtain ⟨⟨x, b⟩, hr⟩ : ∃ r, cs[k]? = some r := ⟨cs[k], List.getElem?_eq_getElem hlt⟩
      obtain ⟨g, off, rfl, q0, q1⟩ := HC.out k _ hr
      have c0 := cell_later7 hb (Nat.le_refl _) q0
      have c1 := cell_later7 hb (Nat.le_refl _) q1
      simp only at c0 c1
      have gl : g < wr.heap.size := World.block_lt_of_cell? wr ⟨g, _, none⟩ c0
      have HTK := Hid.mk7 (fil_take (L := L) hr)
      have hin := HIN.out (x, b) (List.mem_of_getElem? hr)
      simp only at hin
      have htl : (fil L (cs.take k)).length ≤ 40000 := by
        have : (fil L (cs.take k)).length ≤ (cs.take k).length := List.length_filter_le _ _
        rw [List.length_take] at this
        omega
      obtain ⟨C1, HC1⟩ : ∃ C1, Hid (fil L (cs.take k) = C1) := ⟨_, Hid.mk7 rfl⟩
      rw [HC1.out] at HO htl HTK
      clear q0 q1 hr
      by_cases hneg : x < 0
      · have d1 : decide (x < 0) = true := decide_eq_true hneg
        have HK := Hid.mk7 (fil_keep (L := L) (c := (x, b)) (Or.inl hneg))
        rw [HK.out] at HTK
        clear HK hin
        go_wp2_with (at_builtin; refine wpList_append_own _ rfl _ _ 33 rfl w.heap.size 37 i0 (.agg #[.int .i64 0, .int .u8 0]) 2 16 Tryd.underlying33 HI.out hz0 hz1 hz2 rfl (by decide) _ _ _ rfl (World.ownsRow.alloc HO.out _) ⟨_, 0, none⟩ 1 1 [.int .i64 x, .int .u8 (b.toNat : Int)] rfl rfl (two_newK _ _ _ _) (fun u hu => by simp at hu; rcases hu with rfl | rfl <;> rfl) (by unfold maxLen; omega) (by omega) (by simp; omega) ?_)
        intro v' w3 hown hgrow _
        have HO3 : Hid (OwnK w3 w.heap.size v' (fil L (cs.take (k + 1)))) := by
          rw [HTK.out]
          unfold OwnK
          rw [List.length_append, k2_append, k2_one]
          exact hown
        have hb3 := (hb.alloc hsz (.cells #[.int .i64 x, .int .u8 (b.toNat : Int)] 37)).grown hgrow (by simp; omega) (fun j hj => (HO.out.lt hj).1)
        clear hown hgrow HO hb c0 c1
        go_wp2
        go_roundw
        case rel => exact ⟨k + 1, by omega, by go_num, HO3, hb3⟩
        case measure => simp [intOf]; omega
      · have d1 : decide (x < 0) = false := decide_eq_false hneg
        obtain ⟨m, rfl⟩ : ∃ m : Nat, x = (m : Int) := ⟨x.toNat, by omega⟩
        have hm : m < L.length := by omega
        obtain ⟨z, hz⟩ : ∃ z, L[m]? = some z := ⟨L[m], List.getElem?_eq_getElem hm⟩
        obtain ⟨g2, off2, rfl, q2⟩ := HC2.out m _ hz
        have e2 := cell_later7 hb (Nat.le_refl _) q2
        have gl2 : g2 < wr.heap.size := World.block_lt_of_cell? wr ⟨g2, _, none⟩ e2
        have hgd : L.getD m 0 = z := by rw [List.getD_eq_getElem?_getD, hz]; rfl
        clear q2 hz hin
        by_cases hz0' : z = 0
        · subst hz0'
          have HK := Hid.mk7 (fil_keep (L := L) (c := ((m : Int), b)) (Or.inr (by rw [show (((m : Int), b) : Ce).1.toNat = m from by simp]; exact hgd)))
          rw [HK.out] at HTK
          clear HK hgd
          go_wp2_with (at_builtin; refine wpList_append_own _ rfl _ _ 33 rfl w.heap.size 37 i0 (.agg #[.int .i64 0, .int .u8 0]) 2 16 Tryd.underlying33 HI.out hz0 hz1 hz2 rfl (by decide) _ _ _ rfl (World.ownsRow.alloc HO.out _) ⟨_, 0, none⟩ 1 1 [.int .i64 (m : Int), .int .u8 (b.toNat : Int)] rfl rfl (two_newK _ _ _ _) (fun u hu => by simp at hu; rcases hu with rfl | rfl <;> rfl) (by unfold maxLen; omega) (by omega) (by simp; omega) ?_)
          intro v' w3 hown hgrow _
          have HO3 : Hid (OwnK w3 w.heap.size v' (fil L (cs.take (k + 1)))) := by
            rw [HTK.out]
            unfold OwnK
            rw [List.length_append, k2_append, k2_one]
            exact hown
          have hb3 := (hb.alloc hsz (.cells #[.int .i64 (m : Int), .int .u8 (b.toNat : Int)] 37)).grown hgrow (by simp; omega) (fun j hj => (HO.out.lt hj).1)
          clear hown hgrow HO hb c0 c1
          go_wp2
          go_roundw
          case rel => exact ⟨k + 1, by omega, by go_num, HO3, hb3⟩
          case measure => simp [intOf]; omega
        · have HK := Hid.mk7 (fil_go (L := L) (c := ((m : Int), b)) (by simp only; omega) (by rw [show (((m : Int), b) : Ce).1.toNat = m from by simp, hgd]; exact hz0'))
          rw [HK.out, List.append_nil] at HTK
          have f1 : (z == 0) = false := by simpa using hz0'
          have f2 : decide (z = 0) = false := decide_eq_false hz0'
          have HO2 : Hid (OwnK wr w.heap.size u5 (fil L (cs.take (k + 1)))) := by rw [HTK.out]; exact HO.out
          clear HK hgd HO
          go_wp2
          go_roundw
          case rel => exact ⟨k + 1, by omega, by go_num, HO2, hb⟩
          case measure => simp [intOf]; omega
    · obtain rfl : k = cs.length := by omega
      have HE : Hid (KAt wr u5 (fil L cs)) := by have := HO.out.row; rw [List.take_length] at this; exact this
      clear HO
      go_wp2
      go_ret
      exact ⟨_, rfl, HE.out, hb⟩
end Go.Proofs.YtalolaajcmndeaaDoor
