/- Layer 8's laws on rows of 0 and 1: plain mathematics. -/
import Derived.Test.YtbkjcibfcpejfaaAlgLawM
namespace Go.Proofs.Ytbkjcibfcpejfaa
open Go.RowKit Go.Sort
set_option linter.unusedSimpArgs false
set_option linter.unusedVariables false

theorem zip_cons {f : Int → Int → Int} {a b : Int} {L M : List Int} (h : f a b ≠ -1) : tog f (a :: L) (b :: M) = f a b :: tog f L M := by
  rw [zip_rec, if_neg h]; rfl
theorem bools_u3 : ∀ (xs bs cs : List Bool), xs.length = bs.length → bs.length = cs.length → tog uF (tog uF (xs.map b2i) (bs.map b2i)) (cs.map b2i) = tog uF (xs.map b2i) (tog uF (bs.map b2i) (cs.map b2i))
  | [], [], [], _, _ => rfl
  | [], [], _ :: _, _, h => by simp at h
  | [], _ :: _, _, h, _ => by simp at h
  | _ :: _, [], _, h, _ => by simp at h
  | _ :: _, _ :: _, [], _, h => by simp at h
  | a :: xs, b :: bs, c :: cs, h1, h2 => by
    have ih := bools_u3 xs bs cs (by simpa using h1) (by simpa using h2)
    rw [List.map_cons, List.map_cons, List.map_cons, zip_cons (by cases a <;> cases b <;> decide), zip_cons (by cases a <;> cases b <;> cases c <;> decide), zip_cons (by cases a <;> cases b <;> cases c <;> decide), zip_cons (by cases a <;> cases b <;> cases c <;> decide), ih]
    congr 1
    cases a <;> cases b <;> cases c <;> decide
theorem bools_x2 : ∀ (xs bs : List Bool), xs.length = bs.length → tog xF (tog xF (xs.map b2i) (bs.map b2i)) (bs.map b2i) = xs.map b2i
  | [], [], _ => rfl
  | [], _ :: _, h => by simp at h
  | _ :: _, [], h => by simp at h
  | a :: xs, b :: bs, h => by
    have ih := bools_x2 xs bs (by simpa using h)
    rw [List.map_cons, List.map_cons, zip_cons (by cases a <;> cases b <;> decide), zip_cons (by cases a <;> cases b <;> decide), ih]
    congr 1
    cases a <;> cases b <;> decide
theorem bools_um : ∀ (xs bs : List Bool), xs.length = bs.length → tog mF (tog uF (xs.map b2i) (bs.map b2i)) (bs.map b2i) = xs.map b2i
  | [], [], _ => rfl
  | [], _ :: _, h => by simp at h
  | _ :: _, [], h => by simp at h
  | a :: xs, b :: bs, h => by
    have ih := bools_um xs bs (by simpa using h)
    rw [List.map_cons, List.map_cons, zip_cons (by cases a <;> cases b <;> decide), zip_cons (by cases a <;> cases b <;> decide), ih]
    congr 1
    cases a <;> cases b <;> decide
theorem bools_nn (xs : List Bool) : notL (notL (xs.map b2i)) = xs.map b2i := by
  unfold notL
  rw [List.map_map, List.map_map]
  refine List.map_congr_left fun a _ => ?_
  cases a <;> decide
theorem bools_sz : ∀ (xs : List Bool), szc (xs.map b2i) + szc (notL (xs.map b2i)) = xs.length
  | [] => rfl
  | a :: xs => by
    have ih := bools_sz xs
    have e1 : szc (b2i a :: xs.map b2i) = (if a then 1 else 0) + szc (xs.map b2i) := by
      have := szc_append [b2i a] (xs.map b2i)
      rw [show [b2i a] ++ xs.map b2i = b2i a :: xs.map b2i from rfl] at this
      rw [this]; cases a <;> rfl
    have e2 : szc (notL (b2i a :: xs.map b2i)) = (if a then 0 else 1) + szc (notL (xs.map b2i)) := by
      have := szc_append (notL [b2i a]) (notL (xs.map b2i))
      rw [show notL [b2i a] ++ notL (xs.map b2i) = notL (b2i a :: xs.map b2i) from rfl] at this
      rw [this]; cases a <;> rfl
    rw [List.map_cons, e1, e2, List.length_cons]
    cases a <;> simp <;> omega
theorem tog_len_eq {f : Int → Int → Int} {L M : List Int} (hL : ∀ c ∈ L, In8 c) (hM : ∀ c ∈ M, In8 c) (h : L.length = M.length) (hf : ∀ a b, In8 a → In8 b → f a b ≠ -1) : (tog f L M).length = L.length := by
  rw [tog_zip fun a ha b hb => hf a b (hL a ha) (hM b hb)]; simp [h]
theorem uF_ne (a b : Int) (ha : In8 a) (hb : In8 b) : uF a b ≠ -1 := by unfold uF In8 at *; omega
theorem mF_ne (a b : Int) (ha : In8 a) (hb : In8 b) : mF a b ≠ -1 := by unfold mF In8 at *; omega
theorem xF_ne (a b : Int) (ha : In8 a) (hb : In8 b) : xF a b ≠ -1 := by unfold xF; split <;> omega
theorem size_is {w : World} {p : Value} {L : List Int} {z : Int} (h : Sub w p L) (hl : L.length ≤ 20000) (hz : (szc L : Int) = z) : Calls Try.prog 20 #[p] w fun e w' => e = .returned (.int .i64 z) ∧ Below w.heap.size w w' := by
  have := size_any7 h (by omega)
  rw [hz] at this
  exact this
end Go.Proofs.Ytbkjcibfcpejfaa
