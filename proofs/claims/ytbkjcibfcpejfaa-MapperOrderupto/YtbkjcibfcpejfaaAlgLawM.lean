/- Layer 8's laws: what the calls come to, and plain mathematics. -/
import Derived.Test.YtbkjcibfcpejfaaAlgKnown
namespace Go.Proofs.Ytbkjcibfcpejfaa
open Go.RowKit Go.Sort
set_option linter.unusedSimpArgs false
set_option linter.unusedVariables false

theorem out_ok {O O' : List Int} {e : Ending} {w w' : World} (h : Out8 O e w' ∧ Below w.heap.size w w') (hO : O = O') (hr : O'.length ≤ 200) : ∃ p, e = .returned (.tuple #[p, .int .i64 0]) ∧ Sub w' p O' ∧ Below w.heap.size w w' := by
  subst hO
  have := rle_len O
  rcases h.1 with ⟨hm, _⟩ | ⟨_, p, he, hs⟩
  · omega
  · exact ⟨p, he, hs, h.2⟩
theorem zip_rec (f : Int → Int → Int) (a b : Int) (L M : List Int) : tog f (a :: L) (b :: M) = (if f a b = -1 then [] else [f a b]) ++ tog f L M := by
  have := tog_append f (A := [a]) (B := [b]) (C := L) (D := M) rfl
  rw [show [a] ++ L = a :: L from rfl, show [b] ++ M = b :: M from rfl] at this
  rw [this]
  congr 1
  have h := tog_rep f 1 a b
  simpa using h
theorem len_b2i (bs : List Bool) : (bs.map b2i).length = bs.length := by simp
theorem ok8_zeros (n : Nat) (h : n ≤ 20000) : Ok8 (List.replicate n 0) := ⟨by simpa using h, fun c hc => by rw [List.eq_of_mem_replicate hc]; decide⟩
theorem ok8_ones (n : Nat) (h : n ≤ 20000) : Ok8 (List.replicate n 1) := ⟨by simpa using h, fun c hc => by rw [List.eq_of_mem_replicate hc]; decide⟩
theorem not_zeros (n : Nat) : notL (List.replicate n 0) = List.replicate n 1 := by simp [notL]
theorem expd_all : ∀ (L : List Int), expd L (List.replicate L.length 0) = L
  | [] => rfl
  | a :: L => by
    rw [List.length_cons, List.replicate_succ]
    show (if (0 : Int) = 0 then a :: expd L (List.replicate L.length 0) else _) = _
    rw [if_pos rfl, expd_all L]
theorem shrink_none : ∀ (L : List Int), (∀ c ∈ L, In8 c) → tog sF L (List.replicate L.length 0) = L
  | [], _ => rfl
  | a :: L, h => by
    rw [List.length_cons, List.replicate_succ, zip_rec, shrink_none L fun c hc => h c (List.mem_cons_of_mem _ hc)]
    have ha := h a (by simp)
    unfold In8 at ha
    have e : sF a 0 = a := by unfold sF; rw [if_neg (by omega)]
    rw [e, if_neg (by omega)]; rfl
theorem shrink_every : ∀ (L : List Int), tog sF L (List.replicate L.length 1) = []
  | [] => rfl
  | a :: L => by
    rw [List.length_cons, List.replicate_succ, zip_rec, shrink_every L]
    rfl
theorem union_none : ∀ (L : List Int), (∀ c ∈ L, In8 c) → tog uF L (List.replicate L.length 0) = L
  | [], _ => rfl
  | a :: L, h => by
    rw [List.length_cons, List.replicate_succ, zip_rec, union_none L fun c hc => h c (List.mem_cons_of_mem _ hc)]
    have ha := h a (by simp)
    unfold In8 at ha
    have e : uF a 0 = a := by unfold uF; omega
    rw [e, if_neg (by omega)]; rfl
theorem del_all : ∀ (bs : List UInt8), del (List.replicate bs.length 0) bs = bs
  | [] => rfl
  | b :: bs => by
    rw [List.length_cons, List.replicate_succ]
    show (if (0 : Int) = 0 then b :: del (List.replicate bs.length 0) bs else _) = _
    rw [if_pos rfl, del_all bs]
theorem del_none : ∀ (bs : List UInt8), del (List.replicate bs.length 1) bs = []
  | [] => rfl
  | b :: bs => by
    rw [List.length_cons, List.replicate_succ]
    show (if (1 : Int) = 0 then _ else del (List.replicate bs.length 1) bs) = _
    rw [if_neg (by decide), del_none bs]
end Go.Proofs.Ytbkjcibfcpejfaa
