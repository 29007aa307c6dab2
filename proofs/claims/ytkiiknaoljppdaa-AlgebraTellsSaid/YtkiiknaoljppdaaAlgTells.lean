/- AlgebraTells walked. -/
import Derived.Test.YtkiiknaoljppdaaAlgRow
namespace Go.Proofs.Ytkiiknaoljppdaa
open Go.RowKit Go.Sort
set_option linter.unusedSimpArgs false
set_option linter.unusedVariables false

/-- What a call tells: that they aren't as long, that there are too many, or this row. -/
def Res (bad : Prop) (O : List Int) (w : World) (u : Value) (ev : Int) : Prop := (bad ∧ ev = 80 ∧ u = .pointer none) ∨ (¬ bad ∧ 200 < (rle O).length ∧ ev = 70 ∧ u = .pointer none) ∨ (¬ bad ∧ (rle O).length ≤ 200 ∧ ev = 0 ∧ Sub w u O)
def ResR (bad : Prop) (O : List Int) (w : World) (l : Value) (f : Int) : Prop := (bad ∧ f = 80) ∨ (¬ bad ∧ 200 < (rle O).length ∧ f = 70) ∨ (¬ bad ∧ (rle O).length ≤ 200 ∧ f = 0 ∧ NumAt .i64 w l O)
theorem Res.later {bad : Prop} {O : List Int} {w w' : World} {u : Value} {ev : Int} (h : Res bad O w u ev) (hb : Below w.heap.size w w') : Res bad O w' u ev :=
  h.imp id fun h => h.imp id fun h => ⟨h.1, h.2.1, h.2.2.1, h.2.2.2.later hb⟩
theorem ResR.later {bad : Prop} {O : List Int} {w w' : World} {l : Value} {f : Int} (h : ResR bad O w l f) (hb : Below w.heap.size w w') : ResR bad O w' l f :=
  h.imp id fun h => h.imp id fun h => ⟨h.1, h.2.1, h.2.2.1, h.2.2.2.later hb⟩
theorem told8_any {bad : Prop} {O : List Int} {w : World} {u l : Value} {ev f : Int} (h1 : Res bad O w u ev) (h2 : ResR bad O w l f) (hO : O.length ≤ 20000) :
    Calls Try.prog 15 #[u, .int .i64 ev, l, .int .i64 f] w fun e w' => e = .returned (.bool true) ∧ Below w.heap.size w w' := by
  rcases h1 with ⟨b1, rfl, rfl⟩ | ⟨b1, m1, rfl, rfl⟩ | ⟨b1, m1, rfl, s1⟩ <;> rcases h2 with ⟨b2, rfl⟩ | ⟨b2, m2, rfl⟩ | ⟨b2, m2, rfl, s2⟩
  · exact told8_err l 80 (Or.inr rfl)
  · exact absurd b1 b2
  · exact absurd b1 b2
  · exact absurd b2 b1
  · exact told8_err l 70 (Or.inl rfl)
  · omega
  · exact absurd b2 b1
  · omega
  · exact told8_ok s1 s2 hO
theorem res_of {O : List Int} {bad : Prop} {e : Ending} {w w' : World} (hb : ¬ bad) (h : Out8 O e w' ∧ Below w.heap.size w w') : ∃ u ev, e = .returned (.tuple #[u, .int .i64 ev]) ∧ Res bad O w' u ev ∧ Below w.heap.size w w' := by
  rcases h with ⟨⟨hm, rfl⟩ | ⟨hm, p, rfl, hs⟩, b⟩
  · exact ⟨_, _, rfl, Or.inr (Or.inl ⟨hb, hm, rfl, rfl⟩), b⟩
  · exact ⟨_, _, rfl, Or.inr (Or.inr ⟨hb, hm, rfl, hs⟩), b⟩
theorem res_bad {O : List Int} {bad : Prop} {e : Ending} {w w' : World} (hb : bad) (h : e = .returned (.tuple #[.pointer none, .int .i64 80]) ∧ Below w.heap.size w w') : ∃ u ev, e = .returned (.tuple #[u, .int .i64 ev]) ∧ Res bad O w' u ev ∧ Below w.heap.size w w' :=
  ⟨_, _, h.1, Or.inl ⟨hb, rfl, rfl⟩, h.2⟩
theorem resr_of {O : List Int} {bad : Prop} {e : Ending} {w w' : World} (hb : ¬ bad) (h : (200 < (rle O).length ∧ e = .returned (.tuple #[.slice none 0 0, .int .i64 70]) ∨ (rle O).length ≤ 200 ∧ ∃ t, e = .returned (.tuple #[t, .int .i64 0]) ∧ NumAt .i64 w' t O) ∧ Below w.heap.size w w') : ∃ l f, e = .returned (.tuple #[l, .int .i64 f]) ∧ ResR bad O w' l f ∧ Below w.heap.size w w' := by
  rcases h with ⟨⟨hm, rfl⟩ | ⟨hm, t, rfl, hs⟩, b⟩
  · exact ⟨_, _, rfl, Or.inr (Or.inl ⟨hb, hm, rfl⟩), b⟩
  · exact ⟨_, _, rfl, Or.inr (Or.inr ⟨hb, hm, rfl, hs⟩), b⟩
theorem resr_bad {O : List Int} {bad : Prop} {e : Ending} {w w' : World} (hb : bad) (h : e = .returned (.tuple #[.slice none 0 0, .int .i64 80]) ∧ Below w.heap.size w w') : ∃ l f, e = .returned (.tuple #[l, .int .i64 f]) ∧ ResR bad O w' l f ∧ Below w.heap.size w w' :=
  ⟨_, _, h.1, Or.inl ⟨hb, rfl⟩, h.2⟩
theorem union_res {w : World} {p q : Value} {L M : List Int} (hp : Sub w p L) (hq : Sub w q M) (hL : Ok8 L) (hM : Ok8 M) :
    Calls Try.prog 13 #[p, q] w fun e w' => ∃ u ev, e = .returned (.tuple #[u, .int .i64 ev]) ∧ Res (L.length ≠ M.length) (tog uF L M) w' u ev ∧ Below w.heap.size w w' := by
  by_cases h : L.length = M.length
  · exact (union_any hp hq hL hM h).mono fun e w' k => res_of (fun n => n h) k
  · exact (union_len hp hq hL hM h).mono fun e w' k => res_bad h k
theorem minus_res {w : World} {p q : Value} {L M : List Int} (hp : Sub w p L) (hq : Sub w q M) (hL : Ok8 L) (hM : Ok8 M) :
    Calls Try.prog 16 #[p, q] w fun e w' => ∃ u ev, e = .returned (.tuple #[u, .int .i64 ev]) ∧ Res (L.length ≠ M.length) (tog mF L M) w' u ev ∧ Below w.heap.size w w' := by
  by_cases h : L.length = M.length
  · exact (minus_any hp hq hL hM h).mono fun e w' k => res_of (fun n => n h) k
  · exact (minus_len hp hq hL hM h).mono fun e w' k => res_bad h k
theorem xor_res {w : World} {p q : Value} {L M : List Int} (hp : Sub w p L) (hq : Sub w q M) (hL : Ok8 L) (hM : Ok8 M) :
    Calls Try.prog 17 #[p, q] w fun e w' => ∃ u ev, e = .returned (.tuple #[u, .int .i64 ev]) ∧ Res (L.length ≠ M.length) (tog xF L M) w' u ev ∧ Below w.heap.size w w' := by
  by_cases h : L.length = M.length
  · exact (xor_any hp hq hL hM h).mono fun e w' k => res_of (fun n => n h) k
  · exact (xor_len hp hq hL hM h).mono fun e w' k => res_bad h k
theorem shrink_res {w : World} {p q : Value} {L M : List Int} (hp : Sub w p L) (hq : Sub w q M) (hL : Ok8 L) (hM : Ok8 M) :
    Calls Try.prog 20 #[p, q] w fun e w' => ∃ u ev, e = .returned (.tuple #[u, .int .i64 ev]) ∧ Res (L.length ≠ M.length) (tog sF L M) w' u ev ∧ Below w.heap.size w w' := by
  by_cases h : L.length = M.length
  · exact (shrink_any hp hq hL hM h).mono fun e w' k => res_of (fun n => n h) k
  · exact (shrink_len hp hq hL hM h).mono fun e w' k => res_bad h k
theorem expand_res {w : World} {p q : Value} {L M : List Int} (hp : Sub w p L) (hq : Sub w q M) (hL : Ok8 L) (hM : Ok8 M) :
    Calls Try.prog 18 #[p, q] w fun e w' => ∃ u ev, e = .returned (.tuple #[u, .int .i64 ev]) ∧ Res (L.length ≠ zrc M) (expd L M) w' u ev ∧ Below w.heap.size w w' := by
  by_cases h : L.length = zrc M
  · exact (expand_any hp hq hL hM h).mono fun e w' k => res_of (fun n => n h) k
  · exact (expand_len hp hq hL hM h).mono fun e w' k => res_bad h k
theorem refTwo0_res {w : World} {p q : Value} {L M : List Int} (hp : NumAt .i64 w p L) (hq : NumAt .i64 w q M) (hL : Ok8 L) (hM : Ok8 M) :
    Calls Try.prog 14 #[.int .i64 0, p, q] w fun e w' => ∃ l f, e = .returned (.tuple #[l, .int .i64 f]) ∧ ResR (L.length ≠ M.length) (tog uF L M) w' l f ∧ Below w.heap.size w w' := by
  by_cases h : L.length = M.length
  · exact (refTwo0_any hp hq hL hM h).mono fun e w' k => resr_of (fun n => n h) k
  · exact (refTwo_len 0 hp hq hL.1 hM.1 h).mono fun e w' k => resr_bad h k
theorem refTwo1_res {w : World} {p q : Value} {L M : List Int} (hp : NumAt .i64 w p L) (hq : NumAt .i64 w q M) (hL : Ok8 L) (hM : Ok8 M) :
    Calls Try.prog 14 #[.int .i64 1, p, q] w fun e w' => ∃ l f, e = .returned (.tuple #[l, .int .i64 f]) ∧ ResR (L.length ≠ M.length) (tog mF L M) w' l f ∧ Below w.heap.size w w' := by
  by_cases h : L.length = M.length
  · exact (refTwo1_any hp hq hL hM h).mono fun e w' k => resr_of (fun n => n h) k
  · exact (refTwo_len 1 hp hq hL.1 hM.1 h).mono fun e w' k => resr_bad h k
theorem refTwo2_res {w : World} {p q : Value} {L M : List Int} (hp : NumAt .i64 w p L) (hq : NumAt .i64 w q M) (hL : Ok8 L) (hM : Ok8 M) :
    Calls Try.prog 14 #[.int .i64 2, p, q] w fun e w' => ∃ l f, e = .returned (.tuple #[l, .int .i64 f]) ∧ ResR (L.length ≠ M.length) (tog xF L M) w' l f ∧ Below w.heap.size w w' := by
  by_cases h : L.length = M.length
  · exact (refTwo2_any hp hq hL hM h).mono fun e w' k => resr_of (fun n => n h) k
  · exact (refTwo_len 2 hp hq hL.1 hM.1 h).mono fun e w' k => resr_bad h k
theorem refShrink_res {w : World} {p q : Value} {L M : List Int} (hp : NumAt .i64 w p L) (hq : NumAt .i64 w q M) (hL : Ok8 L) (hM : Ok8 M) :
    Calls Try.prog 21 #[p, q] w fun e w' => ∃ l f, e = .returned (.tuple #[l, .int .i64 f]) ∧ ResR (L.length ≠ M.length) (tog sF L M) w' l f ∧ Below w.heap.size w w' := by
  by_cases h : L.length = M.length
  · exact (refShrink_any hp hq hL hM h).mono fun e w' k => resr_of (fun n => n h) k
  · exact (refShrink_len hp hq hL.1 hM.1 h).mono fun e w' k => resr_bad h k
theorem refExpand_res {w : World} {p q : Value} {L M : List Int} (hp : NumAt .i64 w p L) (hq : NumAt .i64 w q M) (hL : Ok8 L) (hM : Ok8 M) :
    Calls Try.prog 19 #[p, q] w fun e w' => ∃ l f, e = .returned (.tuple #[l, .int .i64 f]) ∧ ResR (L.length ≠ zrc M) (expd L M) w' l f ∧ Below w.heap.size w w' := by
  refine (refExpand_any hp hq hL.1 hM.1).mono ?_
  rintro e w' ⟨⟨h, rfl⟩ | ⟨h, hm, rfl⟩ | ⟨h, hm, t, rfl, hs⟩, b⟩
  · exact ⟨_, _, rfl, Or.inl ⟨h, rfl⟩, b⟩
  · exact ⟨_, _, rfl, Or.inr (Or.inl ⟨fun n => n h, hm, rfl⟩), b⟩
  · exact ⟨_, _, rfl, Or.inr (Or.inr ⟨fun n => n h, hm, rfl, hs⟩), b⟩
theorem ok8_row {zs : List Int} (h : ∀ z ∈ zs, 0 ≤ z ∧ z ≤ 255) (hl : zs.length ≤ 300) : Ok8 (zs.map rw8) := by
  refine ⟨by simp; omega, fun c hc => ?_⟩
  obtain ⟨z, hz, rfl⟩ := List.mem_map.1 hc
  have := h z hz
  have h1 : 0 ≤ z % 103 * (z % 2) := Int.mul_nonneg (by omega) (by omega)
  unfold rw8 f18
  omega
set_option maxHeartbeats 16000000 in
set_option maxRecDepth 100000 in
theorem tells8_any (xs ys : List Int) (s : ByteArray) (va vb : Value) (w : World) (hva : NumAt .u8 w va xs) (hvb : NumAt .u8 w vb ys) (hxs : ∀ z ∈ xs, 0 ≤ z ∧ z ≤ 255) (hys : ∀ z ∈ ys, 0 ≤ z ∧ z ≤ 255) (hl : xs.length ≤ 140737488355328) (hl2 : ys.length ≤ 140737488355328) (hs0 : s.size ≤ maxLen) :
    Calls Try.prog 3 #[va, vb, .string s] w fun e w' => e = .returned (.bool true) ∧ Below w.heap.size w w' := by
  have hs : s.size ≤ 9223372036854775807 := hs0
  have A0 := Hid.mk7 hva
  have B0 := Hid.mk7 hvb
  obtain ⟨a, cap, rfl, hcap, _⟩ := hva
  obtain ⟨a2, cap2, rfl, hcap2, _⟩ := hvb
  clear hs0
  by_cases h1 : 300 < xs.length
  · go_enter Try.func3, Try.ntmps3
    go_wp2_with fail
    refine (known8_any w).mono ?_
    rintro e w1 ⟨rfl, b1⟩
    go_wp2
    go_ret
    exact ⟨rfl, b1⟩
  by_cases h2 : 300 < ys.length
  · go_enter Try.func3, Try.ntmps3
    go_wp2_with fail
    refine (known8_any w).mono ?_
    rintro e w1 ⟨rfl, b1⟩
    go_wp2
    go_ret
    exact ⟨rfl, b1⟩
  by_cases h3 : 300 < s.size
  · go_enter Try.func3, Try.ntmps3
    go_wp2_with fail
    refine (known8_any w).mono ?_
    rintro e w1 ⟨rfl, b1⟩
    go_wp2
    go_ret
    exact ⟨rfl, b1⟩
  have OP : Hid (Ok8 (xs.map rw8)) := ok8_row hxs (by omega)
  have OQ : Hid (Ok8 (ys.map rw8)) := ok8_row hys (by omega)
  have LP : Hid ((xs.map rw8).length ≤ 300) := by show _ ≤ _; simp; omega
  have LQ : Hid ((ys.map rw8).length ≤ 300) := by show _ ≤ _; simp; omega
  have HRA : Hid (∀ W, NumAt .u8 W (.slice a xs.length cap) xs → Calls Try.prog 10 #[.slice a xs.length cap] W fun e w' => ∃ t, e = .returned t ∧ NumAt .i64 w' t (xs.map rw8) ∧ Below W.heap.size W w') := fun W h => row8_any h hxs (by omega)
  have HRB : Hid (∀ W, NumAt .u8 W (.slice a2 ys.length cap2) ys → Calls Try.prog 10 #[.slice a2 ys.length cap2] W fun e w' => ∃ t, e = .returned t ∧ NumAt .i64 w' t (ys.map rw8) ∧ Below W.heap.size W w') := fun W h => row8_any h hys (by omega)
  clear hxs hys
  generalize xs.map rw8 = P at *
  generalize ys.map rw8 = Q at *
  go_enter Try.func3, Try.ntmps3
  go_wp2_with fail
  refine (known8_any w).mono ?_
  rintro e w1 ⟨rfl, b1⟩
  have A1 := Hid.mk7 (A0.out.later b1)
  have B1 := Hid.mk7 (B0.out.later b1)
  have g1 := b1
  clear A0 B0 b1
  go_wp2_with fail
  refine (HRA.out _ A1.out).mono ?_
  rintro e w2 ⟨p, rfl, hp, b2⟩
  have B2 := Hid.mk7 (B1.out.later b2)
  have P2 := Hid.mk7 hp
  have g2 := g1.trans (b2.mono g1.size)
  clear A1 B1 g1 b2 hp
  go_wp2_with fail
  refine (HRB.out _ B2.out).mono ?_
  rintro e w3 ⟨q, rfl, hq, b3⟩
  have P3 := Hid.mk7 (P2.out.later b3)
  have Q3 := Hid.mk7 hq
  have g3 := g2.trans (b3.mono g2.size)
  clear B2 P2 g2 b3 hq
  clear HRA HRB
  have MQ : Hid (∀ W v, NumAt .i64 W v Q → Calls Try.prog 11 #[v] W fun e w' => ∃ p, e = .returned p ∧ (200 < (rle Q).length ∧ p = .pointer none ∨ (rle Q).length ≤ 200 ∧ Sub w' p Q) ∧ Below W.heap.size W w') := fun W v h => (made_any h OQ.out).mono fun e w' k => by
    rcases k with ⟨⟨hn, rfl⟩ | ⟨hn, p, rfl, hs⟩, b⟩
    · exact ⟨_, rfl, Or.inl ⟨hn, rfl⟩, b⟩
    · exact ⟨_, rfl, Or.inr ⟨hn, hs⟩, b⟩
  by_cases hmp : 200 < (rle P).length
  · skip
    have MP : Hid (∀ W v, NumAt .i64 W v P → Calls Try.prog 11 #[v] W fun e w' => e = .returned (.pointer none) ∧ Below W.heap.size W w') := fun W v h => (made_any h OP.out).mono fun e w' k => by
      rcases k with ⟨⟨_, rfl⟩ | ⟨hn, _⟩, b⟩
      · exact ⟨rfl, b⟩
      · omega
    go_wp2_with fail
    refine (MP.out _ _ P3.out).mono ?_
    rintro e w4 ⟨rfl, b4⟩
    have P4 := Hid.mk7 (P3.out.later b4)
    have Q4 := Hid.mk7 (Q3.out.later b4)
    have g4 := g3.trans (b4.mono g3.size)
    clear P3 Q3 g3 b4
    go_wp2_with fail
    refine (MQ.out _ _ Q4.out).mono ?_
    rintro e w5 ⟨y, rfl, _, b5⟩
    have P5 := Hid.mk7 (P4.out.later b5)
    have g5 := g4.trans (b5.mono g4.size)
    clear Q4 P4 g4 b5
    go_wp2_with fail
    refine (refsegs_any P5.out (by have := LP.out; omega)).mono ?_
    rintro e w6 ⟨v, rfl, ho, b6⟩
    have g6 := g5.trans (b6.mono g5.size)
    obtain ⟨av, cv, rfl, _⟩ := own_shape ho
    have hrl : (rle P).length ≤ 300 := Nat.le_trans (rle_len P) LP.out
    clear ho
    clear P5 g5 b6
    go_wp2
    go_ret
    exact ⟨rfl, g6⟩
  · skip
    by_cases hmq : 200 < (rle Q).length
    · skip
      have MQ2 : Hid (∀ W v, NumAt .i64 W v Q → Calls Try.prog 11 #[v] W fun e w' => e = .returned (.pointer none) ∧ Below W.heap.size W w') := fun W v h => (made_any h OQ.out).mono fun e w' k => by
        rcases k with ⟨⟨_, rfl⟩ | ⟨hn, _⟩, b⟩
        · exact ⟨rfl, b⟩
        · omega
      go_wp2_with fail
      refine (made_ok P3.out OP.out (by omega)).mono ?_
      rintro e w4 ⟨x, rfl, hx, b4⟩
      have P4 := Hid.mk7 (P3.out.later b4)
      have Q4 := Hid.mk7 (Q3.out.later b4)
      have X4 := Hid.mk7 hx
      have g4 := g3.trans (b4.mono g3.size)
      obtain ⟨xb, xv, rfl, _⟩ := id X4.out
      clear P3 Q3 g3 b4 hx
      go_wp2_with fail
      refine (MQ2.out _ _ Q4.out).mono ?_
      rintro e w5 ⟨rfl, b5⟩
      have P5 := Hid.mk7 (P4.out.later b5)
      have Q5 := Hid.mk7 (Q4.out.later b5)
      have g5 := g4.trans (b5.mono g4.size)
      clear P4 Q4 g4 b5
      go_wp2_with fail
      refine (refsegs_any P5.out (by have := LP.out; omega)).mono ?_
      rintro e w6 ⟨v, rfl, ho, b6⟩
      have Q6 := Hid.mk7 (Q5.out.later b6)
      have g6 := g5.trans (b6.mono g5.size)
      obtain ⟨av, cv, rfl, _⟩ := own_shape ho
      clear ho
      clear P5 Q5 g5 b6
      go_wp2_with fail
      refine (refsegs_any Q6.out (by have := LQ.out; omega)).mono ?_
      rintro e w7 ⟨v2, rfl, ho, b7⟩
      have g7 := g6.trans (b7.mono g6.size)
      obtain ⟨av2, cv2, rfl, _⟩ := own_shape ho
      have hrl : (rle Q).length ≤ 300 := Nat.le_trans (rle_len Q) LQ.out
      clear ho
      clear Q6 g6 b7
      go_wp2
      go_ret
      exact ⟨ret_bool7 (by rw [Bool.or_eq_true]; exact Or.inr (decide_eq_true (by omega))), g7⟩
    · skip
      go_wp2_with fail
      refine (made_ok P3.out OP.out (by omega)).mono ?_
      rintro e w4 ⟨x, rfl, hx, b4⟩
      have P4 := Hid.mk7 (P3.out.later b4)
      have Q4 := Hid.mk7 (Q3.out.later b4)
      have X4 := Hid.mk7 hx
      have g4 := g3.trans (b4.mono g3.size)
      obtain ⟨xb, xv, rfl, _⟩ := id X4.out
      clear P3 Q3 g3 b4 hx
      go_wp2_with fail
      refine (made_ok Q4.out OQ.out (by omega)).mono ?_
      rintro e w5 ⟨y, rfl, hy, b5⟩
      have P5 := Hid.mk7 (P4.out.later b5)
      have Q5 := Hid.mk7 (Q4.out.later b5)
      have X5 := Hid.mk7 (X4.out.later b5)
      have Y5 := Hid.mk7 hy
      have g5 := g4.trans (b5.mono g4.size)
      obtain ⟨yb, yv, rfl, _⟩ := id Y5.out
      clear P4 Q4 X4 g4 b5 hy
      clear MQ
      go_wp2_with fail
      refine (union_res X5.out Y5.out OP.out OQ.out).mono ?_
      rintro e w6 ⟨u, ev, rfl, hu, b6⟩
      have P6 := Hid.mk7 (P5.out.later b6)
      have Q6 := Hid.mk7 (Q5.out.later b6)
      have X6 := Hid.mk7 (X5.out.later b6)
      have Y6 := Hid.mk7 (Y5.out.later b6)
      have U6 := Hid.mk7 hu
      have g6 := g5.trans (b6.mono g5.size)
      clear P5 Q5 X5 Y5 g5 b6 hu
      go_wp2_with fail
      refine (refTwo0_res P6.out Q6.out OP.out OQ.out).mono ?_
      rintro e w7 ⟨l, f, rfl, hR, b7⟩
      have P7 := Hid.mk7 (P6.out.later b7)
      have Q7 := Hid.mk7 (Q6.out.later b7)
      have X7 := Hid.mk7 (X6.out.later b7)
      have Y7 := Hid.mk7 (Y6.out.later b7)
      have U7 := Hid.mk7 (U6.out.later b7)
      have R7 := Hid.mk7 hR
      have g7 := g6.trans (b7.mono g6.size)
      clear P6 Q6 X6 Y6 U6 g6 b7 hR
      go_wp2_with fail
      refine (told8_any U7.out R7.out (Nat.le_trans (tog_len _ _ _) (by have := LP.out; omega))).mono ?_
      rintro e w8 ⟨rfl, b8⟩
      have P8 := Hid.mk7 (P7.out.later b8)
      have Q8 := Hid.mk7 (Q7.out.later b8)
      have X8 := Hid.mk7 (X7.out.later b8)
      have Y8 := Hid.mk7 (Y7.out.later b8)
      have g8 := g7.trans (b8.mono g7.size)
      clear U7 R7 P7 Q7 X7 Y7 g7 b8
      go_wp2_with fail
      refine (minus_res X8.out Y8.out OP.out OQ.out).mono ?_
      rintro e w9 ⟨u, ev, rfl, hu, b9⟩
      have P9 := Hid.mk7 (P8.out.later b9)
      have Q9 := Hid.mk7 (Q8.out.later b9)
      have X9 := Hid.mk7 (X8.out.later b9)
      have Y9 := Hid.mk7 (Y8.out.later b9)
      have U9 := Hid.mk7 hu
      have g9 := g8.trans (b9.mono g8.size)
      clear P8 Q8 X8 Y8 g8 b9 hu
      go_wp2_with fail
      refine (refTwo1_res P9.out Q9.out OP.out OQ.out).mono ?_
      rintro e w10 ⟨l, f, rfl, hR, b10⟩
      have P10 := Hid.mk7 (P9.out.later b10)
      have Q10 := Hid.mk7 (Q9.out.later b10)
      have X10 := Hid.mk7 (X9.out.later b10)
      have Y10 := Hid.mk7 (Y9.out.later b10)
      have U10 := Hid.mk7 (U9.out.later b10)
      have R10 := Hid.mk7 hR
      have g10 := g9.trans (b10.mono g9.size)
      clear P9 Q9 X9 Y9 U9 g9 b10 hR
      go_wp2_with fail
      refine (told8_any U10.out R10.out (Nat.le_trans (tog_len _ _ _) (by have := LP.out; omega))).mono ?_
      rintro e w11 ⟨rfl, b11⟩
      have P11 := Hid.mk7 (P10.out.later b11)
      have Q11 := Hid.mk7 (Q10.out.later b11)
      have X11 := Hid.mk7 (X10.out.later b11)
      have Y11 := Hid.mk7 (Y10.out.later b11)
      have g11 := g10.trans (b11.mono g10.size)
      clear U10 R10 P10 Q10 X10 Y10 g10 b11
      go_wp2_with fail
      refine (xor_res X11.out Y11.out OP.out OQ.out).mono ?_
      rintro e w12 ⟨u, ev, rfl, hu, b12⟩
      have P12 := Hid.mk7 (P11.out.later b12)
      have Q12 := Hid.mk7 (Q11.out.later b12)
      have X12 := Hid.mk7 (X11.out.later b12)
      have Y12 := Hid.mk7 (Y11.out.later b12)
      have U12 := Hid.mk7 hu
      have g12 := g11.trans (b12.mono g11.size)
      clear P11 Q11 X11 Y11 g11 b12 hu
      go_wp2_with fail
      refine (refTwo2_res P12.out Q12.out OP.out OQ.out).mono ?_
      rintro e w13 ⟨l, f, rfl, hR, b13⟩
      have P13 := Hid.mk7 (P12.out.later b13)
      have Q13 := Hid.mk7 (Q12.out.later b13)
      have X13 := Hid.mk7 (X12.out.later b13)
      have Y13 := Hid.mk7 (Y12.out.later b13)
      have U13 := Hid.mk7 (U12.out.later b13)
      have R13 := Hid.mk7 hR
      have g13 := g12.trans (b13.mono g12.size)
      clear P12 Q12 X12 Y12 U12 g12 b13 hR
      go_wp2_with fail
      refine (told8_any U13.out R13.out (Nat.le_trans (tog_len _ _ _) (by have := LP.out; omega))).mono ?_
      rintro e w14 ⟨rfl, b14⟩
      have P14 := Hid.mk7 (P13.out.later b14)
      have Q14 := Hid.mk7 (Q13.out.later b14)
      have X14 := Hid.mk7 (X13.out.later b14)
      have Y14 := Hid.mk7 (Y13.out.later b14)
      have g14 := g13.trans (b14.mono g13.size)
      clear U13 R13 P13 Q13 X13 Y13 g13 b14
      go_wp2_with fail
      refine (expand_res X14.out Y14.out OP.out OQ.out).mono ?_
      rintro e w15 ⟨u, ev, rfl, hu, b15⟩
      have P15 := Hid.mk7 (P14.out.later b15)
      have Q15 := Hid.mk7 (Q14.out.later b15)
      have X15 := Hid.mk7 (X14.out.later b15)
      have Y15 := Hid.mk7 (Y14.out.later b15)
      have U15 := Hid.mk7 hu
      have g15 := g14.trans (b15.mono g14.size)
      clear P14 Q14 X14 Y14 g14 b15 hu
      go_wp2_with fail
      refine (refExpand_res P15.out Q15.out OP.out OQ.out).mono ?_
      rintro e w16 ⟨l, f, rfl, hR, b16⟩
      have P16 := Hid.mk7 (P15.out.later b16)
      have Q16 := Hid.mk7 (Q15.out.later b16)
      have X16 := Hid.mk7 (X15.out.later b16)
      have Y16 := Hid.mk7 (Y15.out.later b16)
      have U16 := Hid.mk7 (U15.out.later b16)
      have R16 := Hid.mk7 hR
      have g16 := g15.trans (b16.mono g15.size)
      clear P15 Q15 X15 Y15 U15 g15 b16 hR
      go_wp2_with fail
      refine (told8_any U16.out R16.out (by rw [expd_len]; have := LQ.out; omega)).mono ?_
      rintro e w17 ⟨rfl, b17⟩
      have P17 := Hid.mk7 (P16.out.later b17)
      have Q17 := Hid.mk7 (Q16.out.later b17)
      have X17 := Hid.mk7 (X16.out.later b17)
      have Y17 := Hid.mk7 (Y16.out.later b17)
      have g17 := g16.trans (b17.mono g16.size)
      clear U16 R16 P16 Q16 X16 Y16 g16 b17
      go_wp2_with fail
      refine (shrink_res X17.out Y17.out OP.out OQ.out).mono ?_
      rintro e w18 ⟨u, ev, rfl, hu, b18⟩
      have P18 := Hid.mk7 (P17.out.later b18)
      have Q18 := Hid.mk7 (Q17.out.later b18)
      have X18 := Hid.mk7 (X17.out.later b18)
      have Y18 := Hid.mk7 (Y17.out.later b18)
      have U18 := Hid.mk7 hu
      have g18 := g17.trans (b18.mono g17.size)
      clear P17 Q17 X17 Y17 g17 b18 hu
      go_wp2_with fail
      refine (refShrink_res P18.out Q18.out OP.out OQ.out).mono ?_
      rintro e w19 ⟨l, f, rfl, hR, b19⟩
      have P19 := Hid.mk7 (P18.out.later b19)
      have Q19 := Hid.mk7 (Q18.out.later b19)
      have X19 := Hid.mk7 (X18.out.later b19)
      have Y19 := Hid.mk7 (Y18.out.later b19)
      have U19 := Hid.mk7 (U18.out.later b19)
      have R19 := Hid.mk7 hR
      have g19 := g18.trans (b19.mono g18.size)
      clear P18 Q18 X18 Y18 U18 g18 b19 hR
      go_wp2_with fail
      refine (told8_any U19.out R19.out (Nat.le_trans (tog_len _ _ _) (by have := LP.out; omega))).mono ?_
      rintro e w20 ⟨rfl, b20⟩
      have P20 := Hid.mk7 (P19.out.later b20)
      have Q20 := Hid.mk7 (Q19.out.later b20)
      have X20 := Hid.mk7 (X19.out.later b20)
      have Y20 := Hid.mk7 (Y19.out.later b20)
      have g20 := g19.trans (b20.mono g19.size)
      clear U19 R19 P19 Q19 X19 Y19 g19 b20
      by_cases hsz : P.length = s.size
      · skip
        obtain ⟨dt, hdt⟩ : ∃ dt : ByteArray, (⟨(del P s.data.toList).toArray⟩ : ByteArray) = dt := ⟨_, rfl⟩
        have HD1 : Hid (∀ W p, Sub W p P → Calls Try.prog 22 #[p, .string s] W fun e w' => e = .returned (.tuple #[.string dt, .int .i64 0]) ∧ Below W.heap.size W w') := fun W p h => by have := delete_any s h OP.out hsz; rw [hdt] at this; exact this
        have HD2 : Hid (∀ W p, NumAt .i64 W p P → Calls Try.prog 23 #[p, .string s] W fun e w' => e = .returned (.tuple #[.string dt, .bool true]) ∧ Below W.heap.size W w') := fun W p h => by have := refDelete_any s h (by have := LP.out; omega) hsz; rw [hdt] at this; exact this
        clear hdt hsz
        go_wp2_with fail
        refine (HD1.out _ _ X20.out).mono ?_
        rintro e w21 ⟨rfl, b21⟩
        have P21 := Hid.mk7 (P20.out.later b21)
        have X21 := Hid.mk7 (X20.out.later b21)
        have g21 := g20.trans (b21.mono g20.size)
        clear P20 X20 g20 b21
        go_wp2_with fail
        refine (HD2.out _ _ P21.out).mono ?_
        rintro e w22 ⟨rfl, b22⟩
        have P22 := Hid.mk7 (P21.out.later b22)
        have X22 := Hid.mk7 (X21.out.later b22)
        have g22 := g21.trans (b22.mono g21.size)
        clear P21 X21 g21 b22
        go_wp2_with fail
        refine (not_any X22.out OP.out (by omega)).mono ?_
        rintro e w23 ⟨m, rfl, hm, b23⟩
        have P23 := Hid.mk7 (P22.out.later b23)
        have M23 := Hid.mk7 hm
        have g23 := g22.trans (b23.mono g22.size)
        clear X22 P22 g22 b23 hm
        go_wp2_with fail
        refine (refNot_any P23.out (by have := LP.out; omega)).mono ?_
        rintro e w24 ⟨t, rfl, ht, b24⟩
        have M24 := Hid.mk7 (M23.out.later b24)
        have N24 := Hid.mk7 ht
        have g24 := g23.trans (b24.mono g23.size)
        clear P23 M23 g23 b24 ht
        go_wp2_with fail
        refine (is_true M24.out N24.out (by have := LP.out; unfold notL; simp; omega)).mono ?_
        rintro e w25 ⟨rfl, b25⟩
        have g25 := g24.trans (b25.mono g24.size)
        clear M24 N24 g24 b25
        go_wp2
        go_ret
        exact ⟨rfl, g25⟩
      · skip
        have HD1 : Hid (∀ W p, Sub W p P → Calls Try.prog 22 #[p, .string s] W fun e w' => e = .returned (.tuple #[.string ⟨#[]⟩, .int .i64 80]) ∧ Below W.heap.size W w') := fun W p h => delete_len s h (by have := LP.out; omega) (by omega) hsz
        have HD2 : Hid (∀ W p, NumAt .i64 W p P → Calls Try.prog 23 #[p, .string s] W fun e w' => e = .returned (.tuple #[.string ⟨#[]⟩, .bool false]) ∧ Below W.heap.size W w') := fun W p h => refDelete_len s h (by have := LP.out; omega) (by omega) hsz
        clear hsz
        go_wp2_with fail
        refine (HD1.out _ _ X20.out).mono ?_
        rintro e w21 ⟨rfl, b21⟩
        have P21 := Hid.mk7 (P20.out.later b21)
        have X21 := Hid.mk7 (X20.out.later b21)
        have g21 := g20.trans (b21.mono g20.size)
        clear P20 X20 g20 b21
        go_wp2_with fail
        refine (HD2.out _ _ P21.out).mono ?_
        rintro e w22 ⟨rfl, b22⟩
        have P22 := Hid.mk7 (P21.out.later b22)
        have X22 := Hid.mk7 (X21.out.later b22)
        have g22 := g21.trans (b22.mono g21.size)
        clear P21 X21 g21 b22
        go_wp2_with fail
        refine (not_any X22.out OP.out (by omega)).mono ?_
        rintro e w23 ⟨m, rfl, hm, b23⟩
        have P23 := Hid.mk7 (P22.out.later b23)
        have M23 := Hid.mk7 hm
        have g23 := g22.trans (b23.mono g22.size)
        clear X22 P22 g22 b23 hm
        go_wp2_with fail
        refine (refNot_any P23.out (by have := LP.out; omega)).mono ?_
        rintro e w24 ⟨t, rfl, ht, b24⟩
        have M24 := Hid.mk7 (M23.out.later b24)
        have N24 := Hid.mk7 ht
        have g24 := g23.trans (b24.mono g23.size)
        clear P23 M23 g23 b24 ht
        go_wp2_with fail
        refine (is_true M24.out N24.out (by have := LP.out; unfold notL; simp; omega)).mono ?_
        rintro e w25 ⟨rfl, b25⟩
        have g25 := g24.trans (b25.mono g24.size)
        clear M24 N24 g24 b25
        go_wp2
        go_ret
        exact ⟨rfl, g25⟩
end Go.Proofs.Ytkiiknaoljppdaa
