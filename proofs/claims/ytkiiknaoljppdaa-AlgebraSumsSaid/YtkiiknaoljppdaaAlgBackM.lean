/- AlgebraBack: plain mathematics. -/
import Derived.Test.YtkiiknaoljppdaaAlgLawN
namespace Go.Proofs.Ytkiiknaoljppdaa
open Go.RowKit Go.Sort
set_option linter.unusedSimpArgs false
set_option linter.unusedVariables false

/-- Numbers at places that aren't so. -/
def pf : List Bool → List Int → List Int
  | b :: bs, x :: l => if b then pf bs l else x :: pf bs l
  | _, _ => []
theorem pf_len : ∀ (bs : List Bool) (l : List Int), bs.length ≤ l.length → (pf bs l).length = zrc (bs.map b2i)
  | [], l, _ => rfl
  | _ :: _, [], h => by simp at h
  | b :: bs, x :: l, h => by
    have ih := pf_len bs l (by simpa using h)
    have e : zrc (b2i b :: bs.map b2i) = (if b then 0 else 1) + zrc (bs.map b2i) := by
      have := zrc_append [b2i b] (bs.map b2i)
      rw [show [b2i b] ++ bs.map b2i = b2i b :: bs.map b2i from rfl] at this
      rw [this]; cases b <;> rfl
    rw [List.map_cons, e]
    show (if b then pf bs l else x :: pf bs l).length = _
    cases b <;> simp <;> omega
theorem pf_mem : ∀ {bs : List Bool} {l : List Int} {c : Int}, c ∈ pf bs l → c ∈ l
  | [], l, c, h => by simp [pf] at h
  | _ :: _, [], c, h => by simp [pf] at h
  | b :: bs, x :: l, c, h => by
    have h' : c ∈ (if b then pf bs l else x :: pf bs l) := h
    cases b
    · rcases List.mem_cons.1 h' with rfl | h'
      · simp
      · exact List.mem_cons_of_mem _ (pf_mem h')
    · exact List.mem_cons_of_mem _ (pf_mem h')
theorem back_shrink : ∀ (bs : List Bool) (l : List Int), bs.length ≤ l.length → (∀ c ∈ l, In8 c) → tog sF (expd (pf bs l) (bs.map b2i)) (bs.map b2i) = pf bs l
  | [], l, _, _ => rfl
  | _ :: _, [], h, _ => by simp at h
  | b :: bs, x :: l, h, hi => by
    have ih := back_shrink bs l (by simpa using h) fun c hc => hi c (List.mem_cons_of_mem _ hc)
    have hx := hi x (by simp)
    unfold In8 at hx
    rw [List.map_cons]
    cases b
    · show tog sF (expd (x :: pf bs l) (0 :: bs.map b2i)) (0 :: bs.map b2i) = x :: pf bs l
      show tog sF (if (0 : Int) = 0 then x :: expd (pf bs l) (bs.map b2i) else _) (0 :: bs.map b2i) = _
      rw [if_pos rfl, zip_rec, ih]
      have e : sF x 0 = x := by unfold sF; rw [if_neg (by omega)]
      rw [e, if_neg (by omega)]; rfl
    · show tog sF (expd (pf bs l) (1 :: bs.map b2i)) (1 :: bs.map b2i) = pf bs l
      show tog sF (if (1 : Int) = 0 then _ else 0 :: expd (pf bs l) (bs.map b2i)) (1 :: bs.map b2i) = _
      rw [if_neg (by decide), zip_rec, ih]
      rfl
theorem szc_cons (a : Int) (L : List Int) : szc (a :: L) = (if 0 < a then 1 else 0) + szc L := by
  have := szc_append [a] L
  rw [show [a] ++ L = a :: L from rfl] at this
  rw [this]
  congr 1
  have h := szc_rep 1 a
  simpa using h
theorem back_size : ∀ (bs : List Bool) (l : List Int), bs.length ≤ l.length → szc (expd (pf bs l) (bs.map b2i)) = szc (pf bs l)
  | [], l, _ => rfl
  | _ :: _, [], h => by simp at h
  | b :: bs, x :: l, h => by
    have ih := back_size bs l (by simpa using h)
    rw [List.map_cons]
    cases b
    · show szc (if (0 : Int) = 0 then x :: expd (pf bs l) (bs.map b2i) else _) = szc (x :: pf bs l)
      rw [if_pos rfl, szc_cons, szc_cons, ih]
    · show szc (if (1 : Int) = 0 then _ else 0 :: expd (pf bs l) (bs.map b2i)) = szc (pf bs l)
      rw [if_neg (by decide), szc_cons, ih]; simp
theorem back_ones : ∀ (bs : List Bool), tog uF (bs.map b2i) (notL (bs.map b2i)) = List.replicate bs.length 1
  | [] => rfl
  | b :: bs => by
    rw [List.map_cons]
    show tog uF (b2i b :: bs.map b2i) ((if b2i b = 0 then 1 else 0) :: notL (bs.map b2i)) = _
    rw [zip_cons (by cases b <;> decide), back_ones bs, List.length_cons, List.replicate_succ]
    congr 1
    cases b <;> decide
theorem back_zero8 : ∀ (bs : List Bool), tog xF (bs.map b2i) (bs.map b2i) = List.replicate bs.length 0
  | [] => rfl
  | b :: bs => by
    rw [List.map_cons, zip_cons (by cases b <;> decide), back_zero8 bs, List.length_cons, List.replicate_succ]
    congr 1
    cases b <;> decide
theorem szc_ones (n : Nat) : szc (List.replicate n 1) = n := by rw [szc_rep]; simp
theorem szc_zeros (n : Nat) : szc (List.replicate n 0) = 0 := by rw [szc_rep]; simp
theorem empty_yes {w : World} {p : Value} {L : List Int} (h : Sub w p L) (hl : L.length ≤ 20000) (hz : szc L = 0) : Calls Try.prog 29 #[p] w fun e w' => e = .returned (.bool true) ∧ Below w.heap.size w w' := by
  have := empty_any7 h (by omega)
  rw [hz] at this
  exact this
end Go.Proofs.Ytkiiknaoljppdaa
