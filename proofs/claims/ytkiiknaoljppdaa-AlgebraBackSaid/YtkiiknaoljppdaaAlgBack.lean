/- AlgebraBack walked. -/
import Derived.Test.YtkiiknaoljppdaaAlgBackM
import Derived.Test.YtkiiknaoljppdaaAlgTwo
namespace Go.Proofs.Ytkiiknaoljppdaa
open Go.RowKit Go.Sort
set_option linter.unusedSimpArgs false
set_option linter.unusedVariables false

theorem drop_cons {α : Type} {l : List α} {k : Nat} {x : α} (h : l[k]? = some x) : l.drop k = x :: l.drop (k + 1) := by
  have hlt := (List.getElem?_eq_some_iff.1 h).1
  rw [List.drop_eq_getElem_cons hlt]; congr 1; rw [List.getElem?_eq_getElem hlt] at h; exact Option.some.inj h
set_option maxHeartbeats 8000000 in
set_option maxRecDepth 100000 in
theorem back8_any (bs : List Bool) (zs : List Int) (vb va : Value) (w : World) (hvb : BoolAt w vb bs) (hva : NumAt .u8 w va zs) (hzs : ∀ z ∈ zs, 0 ≤ z ∧ z ≤ 255) (hl : bs.length ≤ 140737488355328) (hl2 : zs.length ≤ 140737488355328) :
    Calls Try.prog 4 #[vb, va] w fun e w' => e = .returned (.bool true) ∧ Below w.heap.size w w' := by
  obtain ⟨a, cap, rfl, hcap, hcells⟩ := hvb
  obtain ⟨a2, cap2, rfl, hcap2, hcells2⟩ := hva
  have HC := Hid.mk7 hcells
  have HC2 := Hid.mk7 hcells2
  have HZS := Hid.mk7 hzs
  clear hcells hcells2 hzs
  by_cases h1 : 150 < bs.length
  · go_enter Try.func4, Try.ntmps4
    go_wp2_with fail
    refine (known8_any w).mono ?_
    rintro e w1 ⟨rfl, b1⟩
    go_wp2
    go_ret
    exact ⟨rfl, b1⟩
  by_cases h2 : zs.length < bs.length
  · go_enter Try.func4, Try.ntmps4
    go_wp2_with fail
    refine (known8_any w).mono ?_
    rintro e w1 ⟨rfl, b1⟩
    go_wp2
    go_ret
    exact ⟨rfl, b1⟩
  obtain ⟨l, hlm⟩ : ∃ l, zs.map (· % 5) = l := ⟨_, rfl⟩
  have HLL : Hid (bs.length ≤ l.length) := by show _ ≤ _; rw [← hlm]; simp; omega
  have HLI : Hid (∀ c ∈ l, In8 c) := by
    intro c hc
    rw [← hlm] at hc
    obtain ⟨z, hz, rfl⟩ := List.mem_map.1 hc
    have := HZS.out z hz
    unfold In8

    omega
  have HLM := Hid.mk7 hlm
  clear hlm
  go_enter Try.func4, Try.ntmps4
  go_wp2_with fail
  refine (known8_any w).mono ?_
  rintro e w1 ⟨rfl, b1⟩
  go_wp2
  go_loopw [5, 6, 7] (fun qv pv iv wr => ∃ (k : Nat) (P : List Int), k ≤ bs.length ∧ iv = .int .i64 (k : Nat) ∧ P.length ≤ k ∧ Hid (pf bs l = P ++ pf (bs.drop k) (l.drop k)) ∧ Hid (Two wr w.heap.size qv pv ((bs.take k).map b2i) P) ∧ Below w.heap.size w wr) (fun _ _ iv _ => bs.length - (intOf iv).toNat)
  case atStart => exact ⟨0, [], Nat.zero_le _, rfl, Nat.le_refl _, rfl, Two.nil _ _, b1⟩
  case round =>
    obtain ⟨k, P, hk, rfl, hPk, HP, HW, hb⟩ := hrel
    by_cases hlt : k < bs.length
    · obtain ⟨b, hbk⟩ : ∃ r, bs[k]? = some r := ⟨bs[k], List.getElem?_eq_getElem hlt⟩
      obtain ⟨z, hz⟩ : ∃ r, zs[k]? = some r := ⟨zs[k], List.getElem?_eq_getElem (by omega)⟩
      obtain ⟨g, off, rfl, q0⟩ := HC.out k _ hbk
      obtain ⟨g2, off2, rfl, q1⟩ := HC2.out k _ hz
      have c0 := cell_later7 hb (Nat.le_refl _) q0
      have c1 := cell_later7 hb (Nat.le_refl _) q1
      have hgl2 : g2 < w.heap.size := World.block_lt_of_cell? w ⟨g2, _, none⟩ q1
      have hzb := HZS.out z (List.mem_of_getElem? hz)
      obtain ⟨A, hA, hA3⟩ : ∃ A : Nat, z % 5 = (A : Int) ∧ A < 5 := ⟨(z % 5).toNat, by omega, by omega⟩
      have hlk : l[k]? = some (A : Int) := by rw [← HLM.out, List.getElem?_map, hz]; simp [hA]
      have HX := Hid.mk7 (take_map_succ b2i hbk)
      have hLN : ((bs.take k).map b2i).length = k := by simp; omega
      rw [drop_cons hbk, drop_cons hlk] at HP
      have hsz := hb.size
      have HC3 := Hid.mk7 q1
      clear hbk hz q0 q1 hlk
      generalize (bs.take k).map b2i = X at *
      cases b
      · go_wp2_with (at_builtin; refine wpList_append_int rfl _ _ rfl w.heap.size _ X rfl (HW.out.later ((Below.refl _ _).alloc (Nat.le_refl _) _)).1 ⟨_, 0, none⟩ 0 rfl (cell_one8 _ _ _ 0 _ rfl) rfl (by omega) (by simp; omega) ?_)
        intro v' w3 hown' hgrow hblk
        have HW3 := Hid.mk7 ((HW.out.later ((Below.refl _ _).alloc (Nat.le_refl _) _)).left hown' hgrow (by simpa using hblk))
        have hb3 : Below w.heap.size w w3 := (hb.alloc hb.size _).grown hgrow (by simp; omega) (fun t ht => (ownI_lt HW.out.1 ht).1)
        have c3 := cell_later7 hb3 (Nat.le_refl _) HC3.out
        have hsz3 := hb3.size
        clear hown' hgrow hblk HW c0 c1
        go_wp2_with (at_builtin; refine wpList_append_int rfl _ _ rfl w.heap.size _ P rfl (HW3.out.later ((Below.refl _ _).alloc (Nat.le_refl _) _)).2.1 ⟨_, 0, none⟩ (A : Int) rfl (cell_one8 _ _ _ 0 _ rfl) rfl (by omega) (by simp; omega) ?_)
        intro v4 w4 hown4 hgrow4 hblk4
        have HW4 := Hid.mk7 ((HW3.out.later ((Below.refl _ _).alloc (Nat.le_refl _) _)).right hown4 hgrow4 (by simpa using hblk4))
        have hb4 : Below w.heap.size w w4 := (hb3.alloc hb3.size _).grown hgrow4 (by simp; omega) (fun t ht => (ownI_lt HW3.out.2.1 ht).1)
        have HP4 : Hid (pf bs l = (P ++ [(A : Int)]) ++ pf (bs.drop (k + 1)) (l.drop (k + 1))) := by show _ = _; rw [HP.out, List.append_assoc]; rfl
        have HW5 : Hid (Two w4 w.heap.size v' v4 ((bs.take (k + 1)).map b2i) (P ++ [(A : Int)])) := by rw [HX.out]; exact HW4.out
        clear hown4 hgrow4 hblk4 HW3 HW4 HP HX c3 hA
        go_wp2
        go_roundw
        case rel => exact ⟨k + 1, _, by omega, by go_num, by simp; omega, HP4, HW5, hb4⟩
        case measure => simp [intOf]; omega
      · go_wp2_with (at_builtin; refine wpList_append_int rfl _ _ rfl w.heap.size _ X rfl (HW.out.later ((Below.refl _ _).alloc (Nat.le_refl _) _)).1 ⟨_, 0, none⟩ 1 rfl (cell_one8 _ _ _ 0 _ rfl) rfl (by omega) (by simp; omega) ?_)
        intro v' w3 hown' hgrow hblk
        have HW3 := Hid.mk7 ((HW.out.later ((Below.refl _ _).alloc (Nat.le_refl _) _)).left hown' hgrow (by simpa using hblk))
        have hb3 : Below w.heap.size w w3 := (hb.alloc hb.size _).grown hgrow (by simp; omega) (fun t ht => (ownI_lt HW.out.1 ht).1)
        have HP4 : Hid (pf bs l = P ++ pf (bs.drop (k + 1)) (l.drop (k + 1))) := HP.out
        have HW5 : Hid (Two w3 w.heap.size v' u6 ((bs.take (k + 1)).map b2i) P) := by rw [HX.out]; exact HW3.out
        clear hown' hgrow hblk HW HW3 HP HX c0 c1 hA
        go_wp2
        go_roundw
        case rel => exact ⟨k + 1, _, by omega, by go_num, by omega, HP4, HW5, hb3⟩
        case measure => simp [intOf]; omega
    · obtain rfl : k = bs.length := by omega
      have hP2 : pf bs l = P := by have := HP.out; rw [List.drop_length] at this; simpa [pf] using this
      subst hP2
      obtain ⟨n, hn⟩ : ∃ n, bs.length = n := ⟨_, rfl⟩
      have hw0 := HW.out
      rw [List.take_length] at hw0
      have Q0 := Hid.mk7 hw0.1.num
      have P0 := Hid.mk7 hw0.2.1.num
      have hn150 : n ≤ 150 := by omega
      have OQ : Hid (Ok8 (bs.map b2i) ∧ (bs.map b2i).length = n) := ⟨ok8_bools bs (by omega), by simp [hn]⟩
      have OP : Hid (Ok8 (pf bs l)) := ⟨by omega, fun c hc => HLI.out c (pf_mem hc)⟩
      have HPL : Hid ((pf bs l).length ≤ n) := by show _ ≤ _; omega
      have HPZ : Hid ((pf bs l).length = zrc (bs.map b2i)) := pf_len bs l HLL.out
      have HS : Hid (tog sF (expd (pf bs l) (bs.map b2i)) (bs.map b2i) = pf bs l) := back_shrink bs l HLL.out HLI.out
      have OU : Hid (Ok8 (expd (pf bs l) (bs.map b2i)) ∧ (expd (pf bs l) (bs.map b2i)).length = n) := ⟨ok8_expd OP.out OQ.out.1, by rw [expd_len]; exact OQ.out.2⟩
      have HUS : Hid ((szc (expd (pf bs l) (bs.map b2i)) : Int) = (szc (pf bs l) : Int)) := by show _ = _; rw [back_size bs l HLL.out]
      have HO1 : Hid (tog uF (bs.map b2i) (notL (bs.map b2i)) = List.replicate n 1) := by show _ = _; rw [back_ones, hn]
      have HO2 : Hid (tog xF (bs.map b2i) (bs.map b2i) = List.replicate n 0) := by show _ = _; rw [back_zero8, hn]
      have ON : Hid (Ok8 (notL (bs.map b2i)) ∧ (notL (bs.map b2i)).length = n) := ⟨ok8_not OQ.out.1, by simp [notL, hn]⟩
      have hSn : szc (pf bs l) ≤ n := Nat.le_trans (szc_le _) HPL.out
      clear hw0 HP HW HLI HLL HLM
      generalize bs.map b2i = Q at *
      generalize pf bs l = P at *
      obtain ⟨U, hU⟩ : ∃ U, expd P Q = U := ⟨_, rfl⟩
      rw [hU] at HS OU HUS
      have HUU := Hid.mk7 hU
      clear hU
      go_wp2_with fail
      refine (made_ok P0.out OP.out (Nat.le_trans (rle_len _) (by have := HPL.out; omega))).mono ?_
      rintro e w2 ⟨x, rfl, hx, b2⟩
      have Q2 := Hid.mk7 (Q0.out.later b2)
      have X2 := Hid.mk7 hx
      have g2 := hb.trans (b2.mono hb.size)
      obtain ⟨xb, xv, rfl, _⟩ := id X2.out
      clear P0 Q0 hb b2 hx
      go_wp2_with fail
      refine (made_ok Q2.out OQ.out.1 (Nat.le_trans (rle_len _) (by rw [OQ.out.2]; omega))).mono ?_
      rintro e w3 ⟨y, rfl, hy, b3⟩
      have X3 := Hid.mk7 (X2.out.later b3)
      have Y3 := Hid.mk7 hy
      have g3 := g2.trans (b3.mono g2.size)
      obtain ⟨yb, yv, rfl, _⟩ := id Y3.out
      clear Q2 X2 g2 b3 hy
      go_wp2_with fail
      refine (expand_ok X3.out Y3.out OP.out OQ.out.1 HPZ.out HUU.out (by rw [OU.out.2]; omega)).mono ?_
      rintro e w4 ⟨u, rfl, hu, b4⟩
      have X4 := Hid.mk7 (X3.out.later b4)
      have Y4 := Hid.mk7 (Y3.out.later b4)
      have U4 := Hid.mk7 hu
      have g4 := g3.trans (b4.mono g3.size)
      clear X3 Y3 g3 b4 hu
      go_wp2_with fail
      refine (shrink_ok U4.out Y4.out OU.out.1 OQ.out.1 (by rw [OU.out.2, OQ.out.2]) HS.out (by have := HPL.out; omega)).mono ?_
      rintro e w5 ⟨v, rfl, hv, b5⟩
      have X5 := Hid.mk7 (X4.out.later b5)
      have Y5 := Hid.mk7 (Y4.out.later b5)
      have U5 := Hid.mk7 (U4.out.later b5)
      have V5 := Hid.mk7 hv
      have g5 := g4.trans (b5.mono g4.size)
      clear X4 Y4 U4 g4 b5 hv
      go_wp2_with fail
      refine (not_ok Y5.out OQ.out.1 (by rw [OQ.out.2]; omega) rfl).mono ?_
      rintro e w6 ⟨m, rfl, hm, b6⟩
      have X6 := Hid.mk7 (X5.out.later b6)
      have Y6 := Hid.mk7 (Y5.out.later b6)
      have U6 := Hid.mk7 (U5.out.later b6)
      have V6 := Hid.mk7 (V5.out.later b6)
      have M6 := Hid.mk7 hm
      have g6 := g5.trans (b6.mono g5.size)
      clear X5 Y5 U5 V5 g5 b6 hm
      go_wp2_with fail
      refine (union_ok Y6.out M6.out OQ.out.1 ON.out.1 (by rw [OQ.out.2, ON.out.2]) HO1.out (by simp; omega)).mono ?_
      rintro e w7 ⟨t, rfl, ht, b7⟩
      have X7 := Hid.mk7 (X6.out.later b7)
      have Y7 := Hid.mk7 (Y6.out.later b7)
      have U7 := Hid.mk7 (U6.out.later b7)
      have V7 := Hid.mk7 (V6.out.later b7)
      have W7 := Hid.mk7 ht
      have g7 := g6.trans (b7.mono g6.size)
      clear M6 X6 Y6 U6 V6 g6 b7 ht
      go_wp2_with fail
      refine (xor_ok Y7.out Y7.out OQ.out.1 OQ.out.1 rfl HO2.out (by simp; omega)).mono ?_
      rintro e w8 ⟨z, rfl, hz, b8⟩
      have X8 := Hid.mk7 (X7.out.later b8)
      have U8 := Hid.mk7 (U7.out.later b8)
      have V8 := Hid.mk7 (V7.out.later b8)
      have W8 := Hid.mk7 (W7.out.later b8)
      have Z8 := Hid.mk7 hz
      have g8 := g7.trans (b8.mono g7.size)
      clear Y7 X7 U7 V7 W7 g7 b8 hz
      go_wp2_with fail
      refine (same_yes V8.out X8.out (by have := HPL.out; omega)).mono ?_
      rintro e w9 ⟨rfl, b9⟩
      have X9 := Hid.mk7 (X8.out.later b9)
      have U9 := Hid.mk7 (U8.out.later b9)
      have W9 := Hid.mk7 (W8.out.later b9)
      have Z9 := Hid.mk7 (Z8.out.later b9)
      have g9 := g8.trans (b9.mono g8.size)
      clear V8 X8 U8 W8 Z8 g8 b9
      go_wp2_with fail
      refine (size_is W9.out (by simp; omega) (by rw [szc_ones])).mono ?_
      rintro e w10 ⟨rfl, b10⟩
      have X10 := Hid.mk7 (X9.out.later b10)
      have U10 := Hid.mk7 (U9.out.later b10)
      have Z10 := Hid.mk7 (Z9.out.later b10)
      have g10 := g9.trans (b10.mono g9.size)
      clear W9 X9 U9 Z9 g9 b10
      go_wp2_with fail
      refine (empty_yes Z10.out (by simp; omega) (szc_zeros n)).mono ?_
      rintro e w11 ⟨rfl, b11⟩
      have X11 := Hid.mk7 (X10.out.later b11)
      have U11 := Hid.mk7 (U10.out.later b11)
      have g11 := g10.trans (b11.mono g10.size)
      clear Z10 X10 U10 g10 b11
      go_wp2_with fail
      refine (size_is U11.out (by rw [OU.out.2]; omega) HUS.out).mono ?_
      rintro e w12 ⟨rfl, b12⟩
      have X12 := Hid.mk7 (X11.out.later b12)
      have g12 := g11.trans (b12.mono g11.size)
      clear U11 X11 g11 b12
      go_wp2_with fail
      refine (size_is X12.out (by have := HPL.out; omega) rfl).mono ?_
      rintro e w13 ⟨rfl, b13⟩
      have g13 := g12.trans (b13.mono g12.size)
      clear X12 g12 b13
      go_wp2
      go_ret
      exact ⟨rfl, g13⟩
end Go.Proofs.Ytkiiknaoljppdaa
