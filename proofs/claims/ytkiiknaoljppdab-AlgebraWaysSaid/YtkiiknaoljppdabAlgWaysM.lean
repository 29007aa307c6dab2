/- AlgebraWays: plain mathematics. -/
import Derived.Test.YtkiiknaoljppdabAlgLawM
namespace Go.Proofs.Ytkiiknaoljppdab
open Go.RowKit Go.Sort
set_option linter.unusedSimpArgs false
set_option linter.unusedVariables false

/-- Bools at places that aren't in the first. -/
def pb : List Bool → List Bool → List Bool
  | c :: cs, b :: bs => if c then pb cs bs else b :: pb cs bs
  | _, _ => []
theorem pb_len : ∀ (cs bs : List Bool), cs.length ≤ bs.length → (pb cs bs).length = zrc (cs.map b2i)
  | [], l, _ => rfl
  | _ :: _, [], h => by simp at h
  | c :: cs, b :: bs, h => by
    have ih := pb_len cs bs (by simpa using h)
    have e : zrc (b2i c :: cs.map b2i) = (if c then 0 else 1) + zrc (cs.map b2i) := by
      have := zrc_append [b2i c] (cs.map b2i)
      rw [show [b2i c] ++ cs.map b2i = b2i c :: cs.map b2i from rfl] at this
      rw [this]; cases c <;> rfl
    rw [List.map_cons, e]
    show (if c then pb cs bs else b :: pb cs bs).length = _
    cases c <;> simp <;> omega
theorem zip_cons8 {f : Int → Int → Int} {a b : Int} {L M : List Int} (h : f a b ≠ -1) : tog f (a :: L) (b :: M) = f a b :: tog f L M := by
  rw [zip_rec, if_neg h]; rfl
theorem expd_c0 (a : Int) (A B : List Int) : expd (a :: A) (0 :: B) = a :: expd A B := rfl
theorem expd_c1 (A B : List Int) : expd A (1 :: B) = 0 :: expd A B := rfl
/-- First b's places, then c's, or both at once. -/
theorem ways_eq : ∀ (cs bs xs : List Bool), cs.length ≤ bs.length → cs.length ≤ xs.length →
    expd ((pb (pb cs bs) (pb cs xs)).map b2i) (tog uF (expd ((pb cs bs).map b2i) (cs.map b2i)) (cs.map b2i)) = expd (expd ((pb (pb cs bs) (pb cs xs)).map b2i) ((pb cs bs).map b2i)) (cs.map b2i)
  | [], _, _, _, _ => rfl
  | _ :: _, [], _, h, _ => by simp at h
  | _ :: _, _ :: _, [], _, h => by simp at h
  | c :: cs, b :: bs, x :: xs, h1, h2 => by
    have ih := ways_eq cs bs xs (by simpa using h1) (by simpa using h2)
    cases c
    · show expd ((pb (b :: pb cs bs) (x :: pb cs xs)).map b2i) (tog uF (expd (b2i b :: (pb cs bs).map b2i) (0 :: cs.map b2i)) (0 :: cs.map b2i)) = expd (expd ((pb (b :: pb cs bs) (x :: pb cs xs)).map b2i) (b2i b :: (pb cs bs).map b2i)) (0 :: cs.map b2i)
      rw [expd_c0, zip_cons8 (by cases b <;> decide)]
      cases b
      · show expd (b2i x :: (pb (pb cs bs) (pb cs xs)).map b2i) (0 :: _) = expd (expd (b2i x :: (pb (pb cs bs) (pb cs xs)).map b2i) (0 :: (pb cs bs).map b2i)) (0 :: cs.map b2i)
        rw [expd_c0, expd_c0, expd_c0, ih]
      · show expd ((pb (pb cs bs) (pb cs xs)).map b2i) (1 :: _) = expd (expd ((pb (pb cs bs) (pb cs xs)).map b2i) (1 :: (pb cs bs).map b2i)) (0 :: cs.map b2i)
        rw [expd_c1, expd_c1, expd_c0, ih]
    · show expd ((pb (pb cs bs) (pb cs xs)).map b2i) (tog uF (expd ((pb cs bs).map b2i) (1 :: cs.map b2i)) (1 :: cs.map b2i)) = expd (expd ((pb (pb cs bs) (pb cs xs)).map b2i) ((pb cs bs).map b2i)) (1 :: cs.map b2i)
      rw [expd_c1, zip_cons8 (by decide)]
      show expd ((pb (pb cs bs) (pb cs xs)).map b2i) (1 :: _) = _
      rw [expd_c1, expd_c1, ih]
/-- How many places are in neither. -/
theorem ways_zrc : ∀ (cs bs : List Bool), cs.length ≤ bs.length → zrc (tog uF (expd ((pb cs bs).map b2i) (cs.map b2i)) (cs.map b2i)) = zrc ((pb cs bs).map b2i)
  | [], _, _ => rfl
  | _ :: _, [], h => by simp at h
  | c :: cs, b :: bs, h => by
    have ih := ways_zrc cs bs (by simpa using h)
    have e : ∀ (a : Int) (L : List Int), zrc (a :: L) = (if a = 0 then 1 else 0) + zrc L := fun a L => by
      have := zrc_append [a] L
      rw [show [a] ++ L = a :: L from rfl] at this
      rw [this]
      by_cases ha : a = 0
      · subst ha; rfl
      · simp [zrc, ha]
    cases c
    · show zrc (tog uF (expd (b2i b :: (pb cs bs).map b2i) (0 :: cs.map b2i)) (0 :: cs.map b2i)) = zrc (b2i b :: (pb cs bs).map b2i)
      rw [expd_c0, zip_cons8 (by cases b <;> decide), e, e, ih]
      cases b <;> rfl
    · show zrc (tog uF (expd ((pb cs bs).map b2i) (1 :: cs.map b2i)) (1 :: cs.map b2i)) = zrc ((pb cs bs).map b2i)
      rw [expd_c1, zip_cons8 (by decide), e, ih, if_neg (by decide), Nat.zero_add]
end Go.Proofs.Ytkiiknaoljppdab
