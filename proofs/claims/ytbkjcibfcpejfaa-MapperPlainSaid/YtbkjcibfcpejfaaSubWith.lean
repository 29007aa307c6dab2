/- Has, With. -/
import Derived.Test.YtbkjcibfcpejfaaSubAddP
namespace Go.Proofs.Ytbkjcibfcpejfaa
open Go.RowKit Go.Sort
set_option linter.unusedSimpArgs false
set_option linter.unusedVariables false

set_option maxHeartbeats 800000 in
theorem has_any {w : World} {p : Value} {L : List Int} (at' : Int) (h : Sub w p L) (hl : L.length ≤ 1073741824) (ha : at' ≤ 1099511627776) :
    Calls Try.prog 21 #[p, .int .i64 at'] w fun e w' => e = .returned (.bool (decide (0 < cnt L at'))) ∧ Below w.heap.size w w' := by
  have HC := Hid.mk7 (count_any at' h hl ha)
  clear h
  go_enter Try.func21, Try.ntmps21
  go_wp2_with fail
  refine HC.out.mono ?_
  rintro e w1 ⟨rfl, b1⟩
  go_wp2
  go_ret
  exact ⟨rfl, b1⟩
set_option maxHeartbeats 800000 in
theorem with_range {w : World} {p : Value} {L : List Int} (fr to c : Int) (h : Sub w p L) (hl : L.length ≤ 20000) (hr : ¬ (0 ≤ fr ∧ fr ≤ to ∧ to ≤ L.length)) :
    Calls Try.prog 23 #[p, .int .i64 fr, .int .i64 to, .int .i64 c] w fun e w' => e = .returned (.tuple #[.pointer none, .int .i64 10]) ∧ Below w.heap.size w w' := by
  have HL := Hid.mk7 (len_any7 h (by omega))
  clear h
  generalize L.length = n at *
  by_cases h1 : fr < 0
  · have d : decide (fr < 0) = true := decide_eq_true h1
    clear hr
    go_enter Try.func23, Try.ntmps23
    go_wp2_with fail
    refine HL.out.mono ?_
    rintro e w1 ⟨rfl, b1⟩
    go_wp2
    go_ret2
    exact ⟨rfl, b1⟩
  · have d : decide (fr < 0) = false := decide_eq_false h1
    by_cases h2 : to < fr
    · have d2 : decide (to < fr) = true := decide_eq_true h2
      clear hr
      go_enter Try.func23, Try.ntmps23
      go_wp2_with fail
      refine HL.out.mono ?_
      rintro e w1 ⟨rfl, b1⟩
      go_wp2
      go_ret2
      exact ⟨rfl, b1⟩
    · have d2 : decide (to < fr) = false := decide_eq_false h2
      have h3 : (n : Int) < to := by omega
      have d3 : decide ((n : Int) < to) = true := decide_eq_true h3
      clear hr
      go_enter Try.func23, Try.ntmps23
      go_wp2_with fail
      refine HL.out.mono ?_
      rintro e w1 ⟨rfl, b1⟩
      go_wp2
      go_ret2
      exact ⟨rfl, b1⟩
set_option maxHeartbeats 800000 in
theorem with_form {w : World} {p : Value} {L : List Int} (fr to c : Int) (h : Sub w p L) (hl : L.length ≤ 20000) (hr : 0 ≤ fr ∧ fr ≤ to ∧ to ≤ L.length) (hc : c < 0 ∨ 100 < c) :
    Calls Try.prog 23 #[p, .int .i64 fr, .int .i64 to, .int .i64 c] w fun e w' => e = .returned (.tuple #[.pointer none, .int .i64 12]) ∧ Below w.heap.size w w' := by
  have HL := Hid.mk7 (len_any7 h (by omega))
  have HI : Hid (∀ W, Calls Try.prog 31 #[.int .i64 c] W fun e w' => e = .returned (.bool false) ∧ w' = W) := fun W => isCount_no c W hc
  clear h
  generalize L.length = n at *
  obtain ⟨h1, h2, h3⟩ := hr
  have d : decide (fr < 0) = false := decide_eq_false (by omega)
  have d2 : decide (to < fr) = false := decide_eq_false (by omega)
  have d3 : decide ((n : Int) < to) = false := decide_eq_false (by omega)
  clear hc
  go_enter Try.func23, Try.ntmps23
  go_wp2_with fail
  refine HL.out.mono ?_
  rintro e w1 ⟨rfl, b1⟩
  go_wp2_with fail
  refine (HI.out _).mono ?_
  rintro e w2 ⟨rfl, rfl⟩
  go_wp2
  go_ret2
  exact ⟨rfl, b1⟩

/-- These places have that count. -/
def put (L : List Int) (fr to : Nat) (c : Int) : List Int := cut L 0 fr ++ List.replicate (to - fr) c ++ cut L to L.length
theorem put_length (L : List Int) (fr to : Nat) (c : Int) (h1 : fr ≤ to) (h2 : to ≤ L.length) : (put L fr to c).length = L.length := by simp [put, cut]; omega
theorem own_grown {w0 w w' : World} {v : Value} (hb : Below w0.heap.size w0 w) (hg : w.grownBy w' v.ownBlock) {rs : List Sg} (ho : Own w w0.heap.size v rs) : Below w0.heap.size w0 w' :=
  hb.grown hg hb.size (fun j hj => (ho.lt _ hj).1)
set_option maxHeartbeats 1600000 in
set_option maxRecDepth 100000 in
theorem with_runs {w : World} {p : Value} {L : List Int} (fr to : Nat) (c : Int) (h : Sub w p L) (hl : L.length ≤ 20000) (h1 : fr ≤ to) (h2 : to ≤ L.length) (hc0 : 0 ≤ c) (hc1 : c ≤ 100) :
    Calls Try.prog 23 #[p, .int .i64 (fr : Nat), .int .i64 (to : Nat), .int .i64 c] w fun e w' => (200 < (rle (put L fr to c)).length ∧ e = .returned (.tuple #[.pointer none, .int .i64 70]) ∨ (rle (put L fr to c)).length ≤ 200 ∧ ∃ p', e = .returned (.tuple #[p', .int .i64 0]) ∧ Sub w' p' (put L fr to c)) ∧ Below w.heap.size w w' := by
  have HL := Hid.mk7 (len_any7 h (by omega))
  have HI : Hid (∀ W, Calls Try.prog 31 #[.int .i64 c] W fun e w' => e = .returned (.bool true) ∧ w' = W) := fun W => isCount_yes c W hc0 hc1
  obtain ⟨b, v, rfl, hp, hrow⟩ := h
  have HR := Hid.mk7 hrow
  have d : decide ((fr : Int) < 0) = false := decide_eq_false (by omega)
  have d2 : decide ((to : Int) < (fr : Int)) = false := decide_eq_false (by omega)
  have d2' : decide (to < fr) = false := decide_eq_false (by omega)
  have d3 : decide ((L.length : Int) < (to : Int)) = false := decide_eq_false (by omega)
  have d3' : decide (L.length < to) = false := decide_eq_false (by omega)
  have HP := Hid.mk7 hp
  have HPUT : Hid ((put L fr to c).length = L.length) := put_length L fr to c h1 h2
  have HCE : Hid (put L fr to c = cut L 0 fr ++ List.replicate (to - fr) c ++ cut L to L.length) := rfl
  have hl1 : (cut L 0 fr).length ≤ 20000 := by simp [cut]; omega
  have hl2 : (cut L 0 fr ++ List.replicate (to - fr) c).length ≤ 20000 := by simp [cut]; omega
  have HA1 : Hid (∀ W, Below w.heap.size w W → Calls Try.prog 32 #[.slice none 0 0, v, .int .i64 0, .int .i64 (fr : Nat)] W fun e w' => ∃ v', e = .returned v' ∧ Own w' w.heap.size v' (rle (cut L 0 fr)) ∧ Below w.heap.size w w') := fun W b => by
    have := addPart_any w [] L 0 fr W (.slice none 0 0) v b HR.out (Own.nil _ _) (Nat.zero_le _) (by omega) (by simp; omega)
    rw [List.nil_append] at this
    exact this
  have HA2 : Hid (∀ W v1, Below w.heap.size w W → Own W w.heap.size v1 (rle (cut L 0 fr)) → Calls Try.prog 30 #[v1, .agg #[.int .i64 ((to : Int) - (fr : Int)), .int .i64 c]] W fun e w' => ∃ v', e = .returned v' ∧ Own w' w.heap.size v' (rle (cut L 0 fr ++ List.replicate (to - fr) c)) ∧ Below w.heap.size w w') := fun W v1 b ho => by
    refine (add_any w.heap.size v1 (cut L 0 fr) ((to : Int) - (fr : Int)) c W b.size (by omega) (by omega) (by omega) ho).mono ?_
    rintro e w' ⟨v', rfl, o', g'⟩
    rw [show ((to : Int) - (fr : Int)).toNat = to - fr from by omega] at o'
    exact ⟨v', rfl, o', own_grown b g' ho⟩
  have HA3 : Hid (∀ W v1, Below w.heap.size w W → Own W w.heap.size v1 (rle (cut L 0 fr ++ List.replicate (to - fr) c)) → Calls Try.prog 32 #[v1, v, .int .i64 (to : Nat), .int .i64 (L.length : Nat)] W fun e w' => ∃ v', e = .returned v' ∧ Own w' w.heap.size v' (rle (put L fr to c)) ∧ Below w.heap.size w w') := fun W v1 b ho =>
    addPart_any w (cut L 0 fr ++ List.replicate (to - fr) c) L to L.length W v1 v b HR.out ho h2 (Nat.le_refl _) (by omega)
  have HRL : Hid ((rle (put L fr to c)).length ≤ 20000) := Nat.le_trans (rle_len _) (by rw [HPUT.out]; exact hl)
  clear hrow hp HPUT HCE
  generalize put L fr to c = M at *
  go_enter Try.func23, Try.ntmps23
  go_wp2_with fail
  refine HL.out.mono ?_
  rintro e w1 ⟨rfl, b1⟩
  go_wp2_with fail
  refine (HI.out _).mono ?_
  rintro e w2 ⟨rfl, rfl⟩
  have c1 := cell_later7 b1 (Nat.le_refl _) HP.out
  go_wp2_with fail
  refine (HA1.out _ b1).mono ?_
  rintro e w3 ⟨v3, rfl, o3, b3⟩
  have O3 := Hid.mk7 o3
  clear c1 b1 o3 HA1 HL HI
  go_wp2_with fail
  refine (HA2.out _ v3 b3 O3.out).mono ?_
  rintro e w4 ⟨v4, rfl, o4, b4⟩
  have O4 := Hid.mk7 o4
  clear b3 O3 o4 HA2
  have c1 := cell_later7 b4 (Nat.le_refl _) HP.out
  go_wp2_with fail
  refine (HA3.out _ v4 b4 O4.out).mono ?_
  rintro e w5 ⟨v5, rfl, o5, b5⟩
  have O5 := Hid.mk7 o5.row
  obtain ⟨a5, cap5, rfl, _⟩ := own_shape o5
  clear b4 O4 o5 HA3 c1
  have hrl := HRL.out
  generalize hm : (rle M).length = m at *
  have HM := Hid.mk7 hm
  clear hm
  by_cases hmany : 200 < m
  · go_wp2
    go_ret2
    exact ⟨Or.inl ⟨by rw [HM.out]; exact hmany, rfl⟩, b5⟩
  · go_wp2
    go_ret2
    exact ⟨Or.inr ⟨by rw [HM.out]; omega, _, rfl, sub_new (B := 0) O5.out⟩, below_new7 b5 _⟩
theorem with_many {w : World} {p : Value} {L : List Int} (fr to : Nat) (c : Int) (h : Sub w p L) (hl : L.length ≤ 20000) (h1 : fr ≤ to) (h2 : to ≤ L.length) (hc0 : 0 ≤ c) (hc1 : c ≤ 100) (hm : 200 < (rle (put L fr to c)).length) :
    Calls Try.prog 23 #[p, .int .i64 (fr : Nat), .int .i64 (to : Nat), .int .i64 c] w fun e w' => e = .returned (.tuple #[.pointer none, .int .i64 70]) ∧ Below w.heap.size w w' := by
  refine (with_runs fr to c h hl h1 h2 hc0 hc1).mono ?_
  rintro e w' ⟨⟨_, he⟩ | ⟨hn, _⟩, b⟩
  · exact ⟨he, b⟩
  · omega
theorem with_ok {w : World} {p : Value} {L : List Int} (fr to : Nat) (c : Int) (h : Sub w p L) (hl : L.length ≤ 20000) (h1 : fr ≤ to) (h2 : to ≤ L.length) (hc0 : 0 ≤ c) (hc1 : c ≤ 100) (hm : (rle (put L fr to c)).length ≤ 200) :
    Calls Try.prog 23 #[p, .int .i64 (fr : Nat), .int .i64 (to : Nat), .int .i64 c] w fun e w' => ∃ p', e = .returned (.tuple #[p', .int .i64 0]) ∧ Sub w' p' (put L fr to c) ∧ Below w.heap.size w w' := by
  refine (with_runs fr to c h hl h1 h2 hc0 hc1).mono ?_
  rintro e w' ⟨⟨hn, _⟩ | ⟨_, p', he, hs⟩, b⟩
  · omega
  · exact ⟨p', he, hs, b⟩
end Go.Proofs.Ytbkjcibfcpejfaa
