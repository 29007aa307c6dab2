/- Plain mathematics of counts: texts as rows of numbers, counted. -/
import Derived.Test.YtfgefdkkjfjjjabGreatDoorTxt
namespace Go.Proofs.YtfgefdkkjfjjjabGreatDoor

/-- Units of a code point. -/
def un (c : Int) : Int := if 65535 < c then 2 else 1
/-- Line ends of a code point. -/
def ln (c : Int) : Int := if c = 10 then 1 else 0
def kB (cs : List Int) : Int := ((flat cs).length : Int)
def kP (cs : List Int) : Int := (cs.length : Int)
def kU : List Int → Int
  | [] => 0
  | c :: cs => un c + kU cs
def kL : List Int → Int
  | [] => 0
  | c :: cs => ln c + kL cs

theorem kU_cons (c : Int) (cs : List Int) : kU (c :: cs) = un c + kU cs := rfl
theorem kL_cons (c : Int) (cs : List Int) : kL (c :: cs) = ln c + kL cs := rfl
theorem un_range (c : Int) : 1 ≤ un c ∧ un c ≤ 2 := by unfold un; split <;> omega
theorem ln_range (c : Int) : 0 ≤ ln c ∧ ln c ≤ 1 := by unfold ln; split <;> omega
theorem kB_append (a b : List Int) : kB (a ++ b) = kB a + kB b := by unfold kB; rw [flat_append, List.length_append]; omega
theorem kP_append (a b : List Int) : kP (a ++ b) = kP a + kP b := by unfold kP; rw [List.length_append]; omega
theorem kU_append (a b : List Int) : kU (a ++ b) = kU a + kU b := by
  induction a with
  | nil => simp [kU]
  | cons c cs ih => rw [List.cons_append, kU_cons, kU_cons, ih]; omega
theorem kL_append (a b : List Int) : kL (a ++ b) = kL a + kL b := by
  induction a with
  | nil => simp [kL]
  | cons c cs ih => rw [List.cons_append, kL_cons, kL_cons, ih]; omega
theorem kB_one (c : Int) : kB [c] = ((enc c).length : Int) := by simp [kB, flat]
theorem kP_one (c : Int) : kP [c] = 1 := rfl
theorem kU_one (c : Int) : kU [c] = un c := by simp [kU]
theorem kL_one (c : Int) : kL [c] = ln c := by simp [kL]
/-- What each count lies between. -/
theorem k_range (cs : List Int) : 0 ≤ kP cs ∧ kP cs ≤ kU cs ∧ kU cs ≤ 2 * kP cs ∧ 0 ≤ kL cs ∧ kL cs ≤ kP cs ∧ kP cs ≤ kB cs ∧ kB cs ≤ 4 * kP cs := by
  induction cs with
  | nil => simp [kP, kU, kL, kB, flat]
  | cons c cs ih =>
    have h1 := un_range c
    have h2 := ln_range c
    have h3 := enc_length c
    have eB : kB (c :: cs) = ((enc c).length : Int) + kB cs := by rw [show c :: cs = [c] ++ cs from rfl, kB_append, kB_one]
    have eP : kP (c :: cs) = 1 + kP cs := by rw [show c :: cs = [c] ++ cs from rfl, kP_append, kP_one]
    rw [eB, eP, kU_cons, kL_cons]
    omega

/-- The count of a kind, of four numbers. -/
def get4 (k b p u l : Int) : Int := if k = 0 then b else if k = 1 then p else if k = 2 then u else if k = 3 then l else 0
/-- The count of a kind, of a text. -/
def kG (k : Int) (cs : List Int) : Int := get4 k (kB cs) (kP cs) (kU cs) (kL cs)
theorem get4_add (k b p u l b' p' u' l' : Int) : get4 k (b + b') (p + p') (u + u') (l + l') = get4 k b p u l + get4 k b' p' u' l' := by
  unfold get4; repeat' split
  all_goals omega
theorem kG_append (k : Int) (a b : List Int) : kG k (a ++ b) = kG k a + kG k b := by
  unfold kG; rw [kB_append, kP_append, kU_append, kL_append, get4_add]
theorem kG_nil (k : Int) : kG k [] = 0 := by
  unfold kG get4; simp [kB, kP, kU, kL, flat]
theorem kG_range (k : Int) (cs : List Int) : 0 ≤ kG k cs ∧ kG k cs ≤ 4 * kP cs := by
  have := k_range cs
  unfold kG get4; repeat' split
  all_goals omega
end Go.Proofs.YtfgefdkkjfjjjabGreatDoor
