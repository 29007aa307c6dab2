/- algebra's Expand. -/
import Derived.Test.YtbkjcibfcpejfaaAlgOps
namespace Go.Proofs.Ytbkjcibfcpejfaa
open Go.RowKit Go.Sort
set_option linter.unusedSimpArgs false
set_option linter.unusedVariables false

/-- Of the places of B that are 0, one behind the other, as often as A says; the others 0 times. -/
def expd : List Int → List Int → List Int
  | _, [] => []
  | A, b :: B => if b = 0 then A.headD 0 :: expd A.tail B else 0 :: expd A B
def zrc (l : List Int) : Nat := (l.filter fun c => decide (c = 0)).length
theorem zrc_append (a b : List Int) : zrc (a ++ b) = zrc a + zrc b := by simp [zrc]
theorem zrc_rep0 (n : Nat) : zrc (List.replicate n 0) = n := by
  unfold zrc
  rw [List.filter_eq_self.2 (fun a ha => by rw [List.eq_of_mem_replicate ha]; rfl)]; simp
theorem zrc_rep (n : Nat) {c : Int} (h : c ≠ 0) : zrc (List.replicate n c) = 0 := by
  unfold zrc
  rw [List.filter_eq_nil_iff.2 (fun a ha => by rw [List.eq_of_mem_replicate ha]; simpa using h)]; rfl
theorem zrc_szc : ∀ {l : List Int}, (∀ c ∈ l, In8 c) → zrc l + szc l = l.length
  | [], _ => rfl
  | c :: l, h => by
    have ih := zrc_szc (l := l) fun x hx => h x (List.mem_cons_of_mem _ hx)
    have hc := h c (by simp)
    unfold In8 at hc
    unfold zrc szc at *
    by_cases e : c = 0
    · subst e; simp; omega
    · have : 0 < c := by omega
      simp [e, this]; omega
theorem expd_zero (n : Nat) (c : Int) (A B : List Int) : expd (List.replicate n c ++ A) (List.replicate n 0 ++ B) = List.replicate n c ++ expd A B := by
  induction n with
  | zero => rfl
  | succ n ih =>
    rw [List.replicate_succ, List.replicate_succ]
    show (if (0 : Int) = 0 then (c :: (List.replicate n c ++ A)).headD 0 :: expd (c :: (List.replicate n c ++ A)).tail (List.replicate n 0 ++ B) else _) = _
    rw [if_pos rfl]
    show c :: expd (List.replicate n c ++ A) (List.replicate n 0 ++ B) = _
    rw [ih]; rfl
theorem expd_pos (n : Nat) {c : Int} (h : c ≠ 0) (A B : List Int) : expd A (List.replicate n c ++ B) = List.replicate n 0 ++ expd A B := by
  induction n with
  | zero => rfl
  | succ n ih =>
    rw [List.replicate_succ]
    show (if c = 0 then _ else 0 :: expd A (List.replicate n c ++ B)) = _
    rw [if_neg h, ih]; rfl
theorem expd_len : ∀ (A B : List Int), (expd A B).length = B.length
  | _, [] => rfl
  | A, b :: B => by
    show (if b = 0 then A.headD 0 :: expd A.tail B else 0 :: expd A B).length = _
    split <;> simp [expd_len]
theorem expd_mem : ∀ {A B : List Int} {c : Int}, c ∈ expd A B → c ∈ A ∨ c = 0
  | _, [], c, h => by simp [expd] at h
  | A, b :: B, c, h => by
    have h' : c ∈ (if b = 0 then A.headD 0 :: expd A.tail B else 0 :: expd A B) := h
    split at h'
    · rcases List.mem_cons.1 h' with rfl | h'
      · cases A with
        | nil => exact Or.inr rfl
        | cons a A => exact Or.inl (by simp)
      · rcases expd_mem h' with h | h
        · exact Or.inl (List.mem_of_mem_tail h)
        · exact Or.inr h
    · rcases List.mem_cons.1 h' with rfl | h'
      · exact Or.inr rfl
      · exact expd_mem h'
theorem ok8_expd {A B : List Int} (hA : Ok8 A) (hB : Ok8 B) : Ok8 (expd A B) := by
  refine ⟨by rw [expd_len]; exact hB.1, fun c hc => ?_⟩
  rcases expd_mem hc with h | rfl
  · exact hA.2 c h
  · decide
/-- One piece, of places that aren't in b. -/
theorem expd_part0 {m1 c1 m2 n : Int} {xs ys : List Sg} (hn : 0 ≤ n) (h1 : n ≤ m1) (h2 : n ≤ m2) :
    expd (xp ((m1, c1) :: xs)) (xp ((m2, 0) :: ys)) = List.replicate n.toNat c1 ++ expd (xp (less m1 c1 n xs)) (xp (less m2 0 n ys)) := by
  rw [xp_part hn h1, xp_part hn h2, expd_zero]
theorem expd_part1 {m2 c2 : Int} {A : List Int} {ys : List Sg} (h : c2 ≠ 0) : expd A (xp ((m2, c2) :: ys)) = List.replicate m2.toNat 0 ++ expd A (xp ys) := expd_pos _ h A (xp ys)
theorem segs_tl2 {w : World} {p : Value} {L : List Int} (h : Sub w p L) (hl : L.length ≤ 20000) : Calls Try.prog 27 #[p] w fun e w' => ∃ v g, e = .returned v ∧ Tl w' w.heap.size g v (rle L) ∧ g < w'.heap.size ∧ Below w.heap.size w w' := by
  have h0 : 0 < w.heap.size := by
    obtain ⟨b, v, _, hc, _⟩ := h
    have := World.block_lt_of_cell? w _ hc
    omega
  refine (segs_tl h hl).mono ?_
  rintro e w' ⟨v, g, rfl, t, hg, b⟩
  by_cases hL : L = []
  · subst hL
    exact ⟨v, 0, rfl, ⟨fun h => absurd rfl h, t.2⟩, Nat.lt_of_lt_of_le h0 b.size, b⟩
  · exact ⟨v, g, rfl, t, hg hL, b⟩
structure Te (L M : List Int) (w : World) (B1 B2 B3 gx gy : Nat) (wr : World) (rv xv yv : Value) (xs ys : List Sg) (done : List Int) : Prop where
  tm : Tm w B1 B2 B3 gx gy wr rv xv yv xs ys done
  eq : expd L M = done ++ expd (xp xs) (xp ys)
  len : (xp xs).length = zrc (xp ys)
  px : ∀ r ∈ xs, 1 ≤ r.1
  py : ∀ r ∈ ys, 1 ≤ r.1
  mx : ∀ c ∈ xp xs, In8 c
  my : ∀ c ∈ xp ys, In8 c
  lx : (xp xs).length ≤ 20000
  ly : (xp ys).length ≤ M.length
theorem te_done {L M done A B : List Int} (hM : Ok8 M) (h : expd L M = done ++ expd A B) : done.length ≤ 20000 := by
  have := congrArg List.length h
  rw [List.length_append, expd_len] at this
  have := hM.1
  omega
end Go.Proofs.Ytbkjcibfcpejfaa
