/- within, ordered, valid, sizeOf, fault. -/
import Derived.Test.YtalolaajcmndeaaDoorDelApply
namespace Go.Proofs.YtalolaajcmndeaaDoor
open Go.RowKit Go.Sort
set_option linter.unusedSimpArgs false
set_option linter.unusedVariables false

def wthE (base : Int) (e : El) : Bool := decide (0 ≤ e.1 ∧ e.1 ≤ e.2.1 ∧ e.2.1 ≤ base)
def wthB (base : Int) (l : List El) : Bool := l.all (wthE base)
def ordE (a b : El) : Bool := decide (a.2.1 ≤ b.1 ∧ b.1 ≠ a.1)
def ordB : List El → Bool
  | [] => true
  | [_] => true
  | a :: b :: l => ordE a b && ordB (b :: l)
def vldB (l : List El) : Bool := l.all fun e => vld e.2.2
/-- The first error, but for too many. -/
def flt (base : Int) (l : List El) : Int :=
  if (decide (0 ≤ base ∧ base ≤ 20000) && wthB base l) = false then 10
  else if ordB l = false then 180
  else if vldB l = false then 12
  else if 20000 < sz8 base l then 13 else 0
theorem all_take {α : Type} {p : α → Bool} {l : List α} {k : Nat} {e : α} (h : l[k]? = some e) : (l.take (k + 1)).all p = ((l.take k).all p && p e) := by
  rw [take_snoc7 h]; simp
theorem all_bad {α : Type} {p : α → Bool} {l : List α} {k : Nat} {e : α} (h : l[k]? = some e) (hp : p e = false) : l.all p = false := by
  rw [List.all_eq_false]
  exact ⟨e, List.mem_of_getElem? h, by simp [hp]⟩
set_option maxHeartbeats 1000000 in
set_option maxRecDepth 100000 in
theorem within_anyE {w : World} {v : Value} {l : List El} (base : Int) (h : ElAt w v l) (hl : l.length ≤ 281474976710656) :
    Calls Tryd.prog 67 #[.int .i64 base, v] w fun e w' => e = .returned (.bool (wthB base l)) ∧ Below w.heap.size w w' := by
  obtain ⟨a, cap, rfl, hcap, _, hcells⟩ := h
  have HC := Hid.mk7 hcells
  clear hcells
  go_enter Tryd.func67, Tryd.ntmps67
  go_wp2
  go_loopw [9] (fun iv wr => ∃ k : Nat, k ≤ l.length ∧ iv = .int .i64 (k : Nat) ∧ Hid ((l.take k).all (wthE base) = true) ∧ Below w.heap.size w wr) (fun iv _ => l.length - (intOf iv).toNat)
  case atStart => exact ⟨0, Nat.zero_le _, rfl, rfl, Below.refl _ _⟩
  case round =>
    obtain ⟨k, hk, rfl, HA, hb⟩ := hrel
    by_cases hlt : k < l.length
    · obtain ⟨⟨f, t, T⟩, hr⟩ : ∃ r, l[k]? = some r := ⟨l[k], List.getElem?_eq_getElem hlt⟩
      obtain ⟨g, off, rfl, q0, q1, q2⟩ := HC.out k _ hr
      have c0 := cell_later7 hb (Nat.le_refl _) q0
      have c1 := cell_later7 hb (Nat.le_refl _) q1
      have c2 := cell_later7 hb (Nat.le_refl _) q2
      simp only at c0 c1 c2
      have HT := Hid.mk7 (all_take (p := wthE base) hr)
      have HBAD := Hid.mk7 (all_bad (p := wthE base) hr)
      have hb2 := below_newE hb (.cells #[.int .i64 f, .int .i64 t, .string (cacc T)] 56)
      clear q0 q1 q2 hr
      generalize cacc T = s at *
      by_cases h1 : f < 0
      · have d1 : decide (f < 0) = true := decide_eq_true h1
        have HF : Hid (wthB base l = false) := HBAD.out (by unfold wthE; exact decide_eq_false (by simp only; omega))
        go_wp2
        go_ret
        exact ⟨ret_boolE HF.out.symm, hb2⟩
      · have d1 : decide (f < 0) = false := decide_eq_false h1
        by_cases h2 : t < f
        · have d2 : decide (t < f) = true := decide_eq_true h2
          have HF : Hid (wthB base l = false) := HBAD.out (by unfold wthE; exact decide_eq_false (by simp only; omega))
          go_wp2
          go_ret
          exact ⟨ret_boolE HF.out.symm, hb2⟩
        · have d2 : decide (t < f) = false := decide_eq_false h2
          by_cases h3 : base < t
          · have d3 : decide (base < t) = true := decide_eq_true h3
            have HF : Hid (wthB base l = false) := HBAD.out (by unfold wthE; exact decide_eq_false (by simp only; omega))
            go_wp2
            go_ret
            exact ⟨ret_boolE HF.out.symm, hb2⟩
          · have d3 : decide (base < t) = false := decide_eq_false h3
            have HA2 : Hid ((l.take (k + 1)).all (wthE base) = true) := by
              show _ = _
              rw [HT.out, HA.out, Bool.true_and]
              unfold wthE
              exact decide_eq_true (by simp only; omega)
            go_wp2
            go_roundw
            case rel => exact ⟨k + 1, by omega, by go_num, HA2, hb2⟩
            case measure => simp [intOf]; omega
    · obtain rfl : k = l.length := by omega
      have HF : Hid (wthB base l = true) := by have := HA.out; rw [List.take_length] at this; exact this
      go_wp2
      go_ret
      exact ⟨ret_boolE HF.out.symm, hb⟩
set_option maxHeartbeats 1000000 in
set_option maxRecDepth 100000 in
theorem valid_anyE {w : World} {v : Value} {l : List El} (h : ElAt w v l) (hsm : Sm l 281474976710656) (hl : l.length ≤ 281474976710656) (tb : Nat × Nat) (hT : Tab w tb) :
    Calls Tryd.prog 69 #[v] w fun e w' => e = .returned (.bool (vldB l)) ∧ Below w.heap.size w w' := by
  obtain ⟨a, cap, rfl, hcap, _, hcells⟩ := h
  have HC := Hid.mk7 hcells
  have HS := Hid.mk7 hsm
  have HT := Hid.mk7 hT
  clear hcells hsm hT
  go_enter Tryd.func69, Tryd.ntmps69
  go_wp2
  go_loopw [7] (fun iv wr => ∃ k : Nat, k ≤ l.length ∧ iv = .int .i64 (k : Nat) ∧ Hid ((l.take k).all (fun e => vld e.2.2) = true) ∧ Below w.heap.size w wr) (fun iv _ => l.length - (intOf iv).toNat)
  case atStart => exact ⟨0, Nat.zero_le _, rfl, rfl, Below.refl _ _⟩
  case round =>
    obtain ⟨k, hk, rfl, HA, hb⟩ := hrel
    by_cases hlt : k < l.length
    · obtain ⟨⟨f, t, T⟩, hr⟩ : ∃ r, l[k]? = some r := ⟨l[k], List.getElem?_eq_getElem hlt⟩
      obtain ⟨g, off, rfl, q0, q1, q2⟩ := HC.out k _ hr
      have c0 := cell_later7 hb (Nat.le_refl _) q0
      have c1 := cell_later7 hb (Nat.le_refl _) q1
      have c2 := cell_later7 hb (Nat.le_refl _) q2
      simp only at c0 c1 c2
      have HT2 := Hid.mk7 (all_take (p := fun e : El => vld e.2.2) hr)
      have HBAD := Hid.mk7 (all_bad (p := fun e : El => vld e.2.2) hr)
      have hb2 := below_newE hb (.cells #[.int .i64 f, .int .i64 t, .string (cacc T)] 56)
      have hs := HS.out _ (List.mem_of_getElem? hr)
      have HV := Hid.mk7 (valid_any (cacc T) (wr.alloc (.cells #[.int .i64 f, .int .i64 t, .string (cacc T)] 56)) tb (by rw [cacc_size]; unfold maxLen; simp only at hs; omega) (HT.out.later hb2))
      rw [cacc_toList] at HV
      clear q0 q1 q2 hr
      generalize cacc T = s at *
      by_cases h1 : vld T = true
      · rw [h1] at HV
        have HA2 : Hid ((l.take (k + 1)).all (fun e => vld e.2.2) = true) := by show _ = _; rw [HT2.out, HA.out, Bool.true_and]; exact h1
        go_wp2_with fail
        refine HV.out.mono ?_
        rintro e w3 ⟨rfl, b3⟩
        have hb3 := hb2.trans (b3.mono hb2.size)
        clear HV b3 hb2 hb c0 c1 c2
        go_wp2
        go_roundw
        case rel => exact ⟨k + 1, by omega, by go_num, HA2, hb3⟩
        case measure => simp [intOf]; omega
      · have h1' : vld T = false := by simpa using h1
        rw [h1'] at HV
        have HF : Hid (vldB l = false) := HBAD.out h1'
        go_wp2_with fail
        refine HV.out.mono ?_
        rintro e w3 ⟨rfl, b3⟩
        go_wp2
        go_ret
        exact ⟨ret_boolE HF.out.symm, hb2.trans (b3.mono hb2.size)⟩
    · obtain rfl : k = l.length := by omega
      have HF : Hid (vldB l = true) := by have := HA.out; rw [List.take_length] at this; exact this
      go_wp2
      go_ret
      exact ⟨ret_boolE HF.out.symm, hb⟩
theorem sz8_append (base : Int) (a b : List El) : sz8 base (a ++ b) = sz8 base a + (b.map fun e => (e.2.2.length : Int) - (e.2.1 - e.1)).sum := by
  simp [sz8]; omega
set_option maxHeartbeats 1000000 in
set_option maxRecDepth 100000 in
theorem sizeOf_any {w : World} {v : Value} {l : List El} (base : Int) (h : ElAt w v l) (hsm : Sm l 281474976710656) (hbd : Bd l) (hl : l.length ≤ 1000) (hb0 : 0 ≤ base ∧ base ≤ 20000) :
    Calls Tryd.prog 70 #[.int .i64 base, v] w fun e w' => e = .returned (.int .i64 (sz8 base l)) ∧ Below w.heap.size w w' := by
  obtain ⟨a, cap, rfl, hcap, _, hcells⟩ := h
  have HC := Hid.mk7 hcells
  have HS := Hid.mk7 hsm
  have HB := Hid.mk7 hbd
  clear hcells hsm hbd
  go_enter Tryd.func70, Tryd.ntmps70
  go_wp2
  go_loopw [5, 11] (fun nv iv wr => ∃ (k : Nat) (n : Int), k ≤ l.length ∧ iv = .int .i64 (k : Nat) ∧ nv = .int .i64 n ∧ Hid (n = sz8 base (l.take k)) ∧ -20000 * (k : Int) ≤ n ∧ n ≤ 20000 + 281474976710656 * (k : Int) ∧ Below w.heap.size w wr) (fun _ iv _ => l.length - (intOf iv).toNat)
  case atStart => exact ⟨0, base, Nat.zero_le _, rfl, rfl, by show _ = _; simp [sz8], by omega, by omega, Below.refl _ _⟩
  case round =>
    obtain ⟨k, n, hk, rfl, rfl, HN, hn0, hn1, hb⟩ := hrel
    by_cases hlt : k < l.length
    · obtain ⟨⟨f, t, T⟩, hr⟩ : ∃ r, l[k]? = some r := ⟨l[k], List.getElem?_eq_getElem hlt⟩
      obtain ⟨g, off, rfl, q0, q1, q2⟩ := HC.out k _ hr
      have c0 := cell_later7 hb (Nat.le_refl _) q0
      have c1 := cell_later7 hb (Nat.le_refl _) q1
      have c2 := cell_later7 hb (Nat.le_refl _) q2
      simp only at c0 c1 c2
      have hd := HB.out _ (List.mem_of_getElem? hr)
      have hs := HS.out _ (List.mem_of_getElem? hr)
      simp only at hd hs
      have HN2 : Hid (n + ((T.length : Int) - (t - f)) = sz8 base (l.take (k + 1))) := by show _ = _; rw [HN.out, take_snoc7 hr, sz8_append]; simp
      have hb2 := below_newE hb (.cells #[.int .i64 f, .int .i64 t, .string (cacc T)] 56)
      have hsz : (cacc T).size = T.length := cacc_size T
      clear q0 q1 q2 hr
      generalize cacc T = s at *
      generalize T.length = m at *
      subst hsz
      go_wp2
      go_roundw
      case rel => exact ⟨k + 1, n + ((s.size : Int) - (t - f)), by omega, by go_num, by go_num, HN2, by omega, by omega, hb2⟩
      case measure => simp [intOf]; omega
    · obtain rfl : k = l.length := by omega
      have HE : Hid (sz8 base l = n) := by show _ = _; rw [HN.out, List.take_length]
      go_wp2
      go_ret
      exact ⟨ret_intE HE.out.symm, hb⟩
end Go.Proofs.YtalolaajcmndeaaDoor
