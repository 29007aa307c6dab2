/- AlgebraWays walked. -/
import Derived.Test.YtkiiknaoljppdabAlgWaysM
import Derived.Test.YtkiiknaoljppdabAlgTwoB
namespace Go.Proofs.Ytkiiknaoljppdab
open Go.RowKit Go.Sort
set_option linter.unusedSimpArgs false
set_option linter.unusedVariables false

theorem drop_cons {α : Type} {l : List α} {k : Nat} {x : α} (h : l[k]? = some x) : l.drop k = x :: l.drop (k + 1) := by
  have hlt := (List.getElem?_eq_some_iff.1 h).1
  rw [List.drop_eq_getElem_cons hlt]; congr 1; rw [List.getElem?_eq_getElem hlt] at h; exact Option.some.inj h
set_option maxHeartbeats 8000000 in
set_option maxRecDepth 100000 in
theorem ways8_any (xs bs cs : List Bool) (va vb vc : Value) (w : World) (ha : BoolAt w va xs) (hb0 : BoolAt w vb bs) (hc : BoolAt w vc cs) (hl : xs.length ≤ 140737488355328) (hl2 : bs.length ≤ 140737488355328) (hl3 : cs.length ≤ 140737488355328) :
    Calls Try.prog 3 #[va, vb, vc] w fun e w' => e = .returned (.bool true) ∧ Below w.heap.size w w' := by
  have HCC := Hid.mk7 hc
  obtain ⟨aa, capa, rfl, hcapa, hcellsa⟩ := ha
  obtain ⟨ab, capb, rfl, hcapb, hcellsb⟩ := hb0
  obtain ⟨ac, capc, rfl, hcapc, hcellsc⟩ := hc
  have HA := Hid.mk7 hcellsa
  have HB := Hid.mk7 hcellsb
  have HC := Hid.mk7 hcellsc
  clear hcellsa hcellsb hcellsc
  by_cases h1 : 60 < cs.length
  · go_enter Try.func3, Try.ntmps3
    go_wp2_with fail
    refine (known8_any w).mono ?_
    rintro e w1 ⟨rfl, b1⟩
    go_wp2
    go_ret
    exact ⟨rfl, b1⟩
  by_cases h2 : bs.length < cs.length
  · go_enter Try.func3, Try.ntmps3
    go_wp2_with fail
    refine (known8_any w).mono ?_
    rintro e w1 ⟨rfl, b1⟩
    go_wp2
    go_ret
    exact ⟨rfl, b1⟩
  by_cases h3 : xs.length < cs.length
  · go_enter Try.func3, Try.ntmps3
    go_wp2_with fail
    refine (known8_any w).mono ?_
    rintro e w1 ⟨rfl, b1⟩
    go_wp2
    go_ret
    exact ⟨rfl, b1⟩
  go_enter Try.func3, Try.ntmps3
  go_wp2_with fail
  refine (known8_any w).mono ?_
  rintro e w1 ⟨rfl, b1⟩
  go_wp2
  go_loopw [7, 8, 9] (fun yv xv iv wr => ∃ (k : Nat) (Y X : List Bool), k ≤ cs.length ∧ iv = .int .i64 (k : Nat) ∧ Y.length ≤ k ∧ X.length ≤ k ∧ Hid (pb cs bs = Y ++ pb (cs.drop k) (bs.drop k)) ∧ Hid (pb (pb cs bs) (pb cs xs) = X ++ pb (pb (cs.drop k) (bs.drop k)) (pb (cs.drop k) (xs.drop k))) ∧ Hid (TwoB wr w.heap.size yv xv Y X) ∧ Below w.heap.size w wr) (fun _ _ iv _ => cs.length - (intOf iv).toNat)
  case atStart => exact ⟨0, [], [], Nat.zero_le _, rfl, Nat.le_refl _, Nat.le_refl _, rfl, rfl, TwoB.nil _ _, b1⟩
  case round =>
    obtain ⟨k, Y, X, hk, rfl, hYk, hXk, HY, HX, HW, hb⟩ := hrel
    by_cases hlt : k < cs.length
    · obtain ⟨c, hck⟩ : ∃ r, cs[k]? = some r := ⟨cs[k], List.getElem?_eq_getElem hlt⟩
      obtain ⟨b, hbk⟩ : ∃ r, bs[k]? = some r := ⟨bs[k], List.getElem?_eq_getElem (by omega)⟩
      obtain ⟨x, hxk⟩ : ∃ r, xs[k]? = some r := ⟨xs[k], List.getElem?_eq_getElem (by omega)⟩
      obtain ⟨g, off, rfl, q0⟩ := HC.out k _ hck
      obtain ⟨g2, off2, rfl, q1⟩ := HB.out k _ hbk
      obtain ⟨g3, off3, rfl, q2⟩ := HA.out k _ hxk
      have c0 := cell_later7 hb (Nat.le_refl _) q0
      have c1 := cell_later7 hb (Nat.le_refl _) q1
      have Q1 := Hid.mk7 q1
      have Q2 := Hid.mk7 q2
      rw [drop_cons hck, drop_cons hbk] at HY HX
      rw [drop_cons hxk] at HX
      have hsz := hb.size
      clear hck hbk hxk q0 q1 q2
      cases c
      · go_wp2_with (at_builtin; refine wpList_append_bool rfl _ _ rfl w.heap.size _ Y rfl (HW.out.later ((Below.refl _ _).alloc (Nat.le_refl _) _)).1 ⟨_, 0, none⟩ b rfl (cell_one8 _ _ _ 0 _ rfl) rfl (by omega) (by simp; omega) ?_)
        intro v' w3 hown' hgrow hblk
        have HW3 := Hid.mk7 ((HW.out.later ((Below.refl _ _).alloc (Nat.le_refl _) _)).left hown' hgrow (by simpa using hblk))
        have hb3 : Below w.heap.size w w3 := (hb.alloc hb.size _).grown hgrow (by simp; omega) (fun t ht => (ownB_lt HW.out.1 ht).1)
        have c3 := cell_later7 hb3 (Nat.le_refl _) Q1.out
        have c4 := cell_later7 hb3 (Nat.le_refl _) Q2.out
        have hsz3 := hb3.size
        have HY4 : Hid (pb cs bs = (Y ++ [b]) ++ pb (cs.drop (k + 1)) (bs.drop (k + 1))) := by show _ = _; rw [HY.out, List.append_assoc]; rfl
        clear hown' hgrow hblk HW c0 c1 HY
        cases b
        · go_wp2_with (at_builtin; refine wpList_append_bool rfl _ _ rfl w.heap.size _ X rfl (HW3.out.later ((Below.refl _ _).alloc (Nat.le_refl _) _)).2.1 ⟨_, 0, none⟩ x rfl (cell_one8 _ _ _ 0 _ rfl) rfl (by omega) (by simp; omega) ?_)
          intro v4 w4 hown4 hgrow4 hblk4
          have HW4 := Hid.mk7 ((HW3.out.later ((Below.refl _ _).alloc (Nat.le_refl _) _)).right hown4 hgrow4 (by simpa using hblk4))
          have hb4 : Below w.heap.size w w4 := (hb3.alloc hb3.size _).grown hgrow4 (by simp; omega) (fun t ht => (ownB_lt HW3.out.2.1 ht).1)
          have HX4 : Hid (pb (pb cs bs) (pb cs xs) = (X ++ [x]) ++ pb (pb (cs.drop (k + 1)) (bs.drop (k + 1))) (pb (cs.drop (k + 1)) (xs.drop (k + 1)))) := by show _ = _; rw [HX.out, List.append_assoc]; rfl
          clear hown4 hgrow4 hblk4 HW3 HX c3 c4
          go_wp2
          go_roundw
          case rel => exact ⟨k + 1, _, _, by omega, by go_num, by simp; omega, by simp; omega, HY4, HX4, HW4, hb4⟩
          case measure => simp [intOf]; omega
        · have HX4 : Hid (pb (pb cs bs) (pb cs xs) = X ++ pb (pb (cs.drop (k + 1)) (bs.drop (k + 1))) (pb (cs.drop (k + 1)) (xs.drop (k + 1)))) := HX.out
          clear HX
          go_wp2
          go_roundw
          case rel => exact ⟨k + 1, _, _, by omega, by go_num, by simp; omega, by omega, HY4, HX4, HW3, hb3⟩
          case measure => simp [intOf]; omega
      · have HY4 : Hid (pb cs bs = Y ++ pb (cs.drop (k + 1)) (bs.drop (k + 1))) := HY.out
        have HX4 : Hid (pb (pb cs bs) (pb cs xs) = X ++ pb (pb (cs.drop (k + 1)) (bs.drop (k + 1))) (pb (cs.drop (k + 1)) (xs.drop (k + 1)))) := HX.out
        clear HX HY
        go_wp2
        go_roundw
        case rel => exact ⟨k + 1, _, _, by omega, by go_num, by omega, by omega, HY4, HX4, HW, hb⟩
        case measure => simp [intOf]; omega
    · obtain rfl : k = cs.length := by omega
      have hY2 : pb cs bs = Y := by have := HY.out; rw [List.drop_length] at this; simpa [pb] using this
      have hX2 : pb (pb cs bs) (pb cs xs) = X := by have := HX.out; rw [List.drop_length] at this; simpa [pb] using this
      have hn60 : cs.length ≤ 60 := by omega
      have hYl : Y.length = zrc (cs.map b2i) := by rw [← hY2]; exact pb_len cs bs (by omega)
      have hXl : X.length = zrc (Y.map b2i) := by
        rw [← hX2, ← hY2]
        refine pb_len (pb cs bs) (pb cs xs) ?_
        rw [pb_len cs bs (by omega), pb_len cs xs (by omega)]
        exact Nat.le_refl _
      have hweq := ways_eq cs bs xs (by omega) (by omega)
      have hwz := ways_zrc cs bs (by omega)
      rw [hX2, hY2] at hweq
      rw [hY2] at hwz
      have OP : Hid (Ok8 (X.map b2i)) := ok8_bools X (by omega)
      have OQ : Hid (Ok8 (Y.map b2i)) := ok8_bools Y (by omega)
      have OR : Hid (Ok8 (cs.map b2i)) := ok8_bools cs (by omega)
      have LP : Hid ((X.map b2i).length = zrc (Y.map b2i)) := by show _ = _; rw [len_b2i]; exact hXl
      have LQ : Hid ((Y.map b2i).length = zrc (cs.map b2i)) := by show _ = _; rw [len_b2i]; exact hYl
      have hYn : Y.length ≤ 60 := by omega
      have LQ6 : Hid ((Y.map b2i).length ≤ 60) := by show _ ≤ _; rw [len_b2i]; exact hYn
      have LR6 : Hid ((cs.map b2i).length ≤ 60) := by show _ ≤ _; rw [len_b2i]; exact hn60
      have OU : Hid (Ok8 (expd (X.map b2i) (Y.map b2i)) ∧ (expd (X.map b2i) (Y.map b2i)).length = zrc (cs.map b2i)) := ⟨ok8_expd OP.out OQ.out, by rw [expd_len]; exact LQ.out⟩
      have OV : Hid ((expd (expd (X.map b2i) (Y.map b2i)) (cs.map b2i)).length ≤ 60) := by show _ ≤ _; rw [expd_len]; exact LR6.out
      have OW : Hid (Ok8 (expd (Y.map b2i) (cs.map b2i)) ∧ (expd (Y.map b2i) (cs.map b2i)).length = (cs.map b2i).length) := ⟨ok8_expd OQ.out OR.out, by rw [expd_len]⟩
      have OA : Hid (Ok8 (tog uF (expd (Y.map b2i) (cs.map b2i)) (cs.map b2i)) ∧ (tog uF (expd (Y.map b2i) (cs.map b2i)) (cs.map b2i)).length ≤ 60) := ⟨ok8_tog OW.out.1 OR.out uF_in, Nat.le_trans (tog_len _ _ _) (by rw [OW.out.2]; exact LR6.out)⟩
      have HZ : Hid ((X.map b2i).length = zrc (tog uF (expd (Y.map b2i) (cs.map b2i)) (cs.map b2i))) := by show _ = _; rw [hwz]; exact LP.out
      have HE : Hid (expd (X.map b2i) (tog uF (expd (Y.map b2i) (cs.map b2i)) (cs.map b2i)) = expd (expd (X.map b2i) (Y.map b2i)) (cs.map b2i)) := hweq
      have HOFX : Hid (∀ (W : World) (v : Value), BoolAt W v X → Calls Try.prog 5 #[v] W fun e w' => ∃ p, e = .returned p ∧ Sub w' p (X.map b2i) ∧ Below W.heap.size W w') := fun W v h => of_bools h (by omega)
      have HOFY : Hid (∀ (W : World) (v : Value), BoolAt W v Y → Calls Try.prog 5 #[v] W fun e w' => ∃ p, e = .returned p ∧ Sub w' p (Y.map b2i) ∧ Below W.heap.size W w') := fun W v h => of_bools h (by omega)
      have HOFC : Hid (∀ (W : World) (v : Value), BoolAt W v cs → Calls Try.prog 5 #[v] W fun e w' => ∃ p, e = .returned p ∧ Sub w' p (cs.map b2i) ∧ Below W.heap.size W w') := fun W v h => of_bools h (by omega)
      have Y0 := Hid.mk7 HW.out.1.row
      have X0 := Hid.mk7 HW.out.2.1.row
      have C0 := Hid.mk7 (HCC.out.later hb)
      clear HW HY HX hY2 hX2 hweq hwz hYl hXl HA HB HC HCC
      generalize X.map b2i = P at *
      generalize Y.map b2i = Q at *
      generalize cs.map b2i = R at *
      go_wp2_with fail
      refine (HOFX.out _ _ X0.out).mono ?_
      rintro e w2 ⟨p, rfl, hp, b2⟩
      have Y2 := Hid.mk7 (Y0.out.later b2)
      have C2 := Hid.mk7 (C0.out.later b2)
      have P2 := Hid.mk7 hp
      have g2 := hb.trans (b2.mono hb.size)
      obtain ⟨pb1, pv, rfl, _⟩ := id P2.out
      clear X0 Y0 C0 hb b2 hp
      go_wp2_with fail
      refine (HOFY.out _ _ Y2.out).mono ?_
      rintro e w3 ⟨q, rfl, hq, b3⟩
      have C3 := Hid.mk7 (C2.out.later b3)
      have P3 := Hid.mk7 (P2.out.later b3)
      have Q3 := Hid.mk7 hq
      have g3 := g2.trans (b3.mono g2.size)
      obtain ⟨qb, qv, rfl, _⟩ := id Q3.out
      clear Y2 C2 P2 g2 b3 hq
      go_wp2_with fail
      refine (HOFC.out _ _ C3.out).mono ?_
      rintro e w4 ⟨r, rfl, hr, b4⟩
      have P4 := Hid.mk7 (P3.out.later b4)
      have Q4 := Hid.mk7 (Q3.out.later b4)
      have R4 := Hid.mk7 hr
      have g4 := g3.trans (b4.mono g3.size)
      obtain ⟨rb, rv, rfl, _⟩ := id R4.out
      clear C3 P3 Q3 g3 b4 hr
      go_wp2_with fail
      refine (expand_ok P4.out Q4.out OP.out OQ.out LP.out rfl (by rw [expd_len]; have := LQ6.out; omega)).mono ?_
      rintro e w5 ⟨u, rfl, hu, b5⟩
      have P5 := Hid.mk7 (P4.out.later b5)
      have Q5 := Hid.mk7 (Q4.out.later b5)
      have R5 := Hid.mk7 (R4.out.later b5)
      have U5 := Hid.mk7 hu
      have g5 := g4.trans (b5.mono g4.size)
      clear P4 Q4 R4 g4 b5 hu
      go_wp2_with fail
      refine (expand_ok U5.out R5.out OU.out.1 OR.out OU.out.2 rfl (by have := OV.out; omega)).mono ?_
      rintro e w6 ⟨v, rfl, hv, b6⟩
      have P6 := Hid.mk7 (P5.out.later b6)
      have Q6 := Hid.mk7 (Q5.out.later b6)
      have R6 := Hid.mk7 (R5.out.later b6)
      have V6 := Hid.mk7 hv
      have g6 := g5.trans (b6.mono g5.size)
      clear U5 P5 Q5 R5 g5 b6 hv
      go_wp2_with fail
      refine (expand_ok Q6.out R6.out OQ.out OR.out LQ.out rfl (by rw [OW.out.2]; have := LR6.out; omega)).mono ?_
      rintro e w7 ⟨t, rfl, ht, b7⟩
      have P7 := Hid.mk7 (P6.out.later b7)
      have R7 := Hid.mk7 (R6.out.later b7)
      have V7 := Hid.mk7 (V6.out.later b7)
      have W7 := Hid.mk7 ht
      have g7 := g6.trans (b7.mono g6.size)
      clear Q6 P6 R6 V6 g6 b7 ht
      go_wp2_with fail
      refine (union_ok W7.out R7.out OW.out.1 OR.out OW.out.2 rfl (by have := OA.out.2; omega)).mono ?_
      rintro e w8 ⟨l, rfl, hlA, b8⟩
      have P8 := Hid.mk7 (P7.out.later b8)
      have V8 := Hid.mk7 (V7.out.later b8)
      have A8 := Hid.mk7 hlA
      have g8 := g7.trans (b8.mono g7.size)
      clear W7 R7 P7 V7 g7 b8 hlA
      go_wp2_with fail
      refine (expand_ok P8.out A8.out OP.out OA.out.1 HZ.out HE.out (by have := OV.out; omega)).mono ?_
      rintro e w9 ⟨z, rfl, hz, b9⟩
      have V9 := Hid.mk7 (V8.out.later b9)
      have Z9 := Hid.mk7 hz
      have g9 := g8.trans (b9.mono g8.size)
      clear A8 P8 V8 g8 b9 hz
      go_wp2_with fail
      refine (same_yes Z9.out V9.out (by have := OV.out; omega)).mono ?_
      rintro e w10 ⟨rfl, b10⟩
      have g10 := g9.trans (b10.mono g9.size)
      clear Z9 V9 g9 b10
      go_wp2
      go_ret
      exact ⟨rfl, g10⟩
end Go.Proofs.Ytkiiknaoljppdab
