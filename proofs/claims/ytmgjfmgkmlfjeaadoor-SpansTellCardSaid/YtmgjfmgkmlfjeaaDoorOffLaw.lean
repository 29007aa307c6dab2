/- What the laws on places ask: plain mathematics (layer 14; written ahead of its code). -/
import Derived.Test.YtmgjfmgkmlfjeaaDoorOffMath
namespace Go.Proofs.YtmgjfmgkmlfjeaaDoor
set_option linter.unusedSimpArgs false
set_option linter.unusedVariables false

/-- A byte that both keep is kept by both at once. -/
theorem two_kept {A B preA postA preB postB : List Ce} {x : Int} (hA : A = preA ++ (x, 0) :: postA) (hB : B = preB ++ (((preA.length : Nat) : Int), 0) :: postB) : twoC A B = twoC A preB ++ (x, 0) :: twoC A postB := by
  have h1 : A.getD preA.length (0, 0) = (x, 0) := by
    rw [hA, List.getD_eq_getElem?_getD, List.getElem?_append_right (Nat.le_refl _), Nat.sub_self]; rfl
  rw [hB, twoC_append]
  congr 1
  show (if ((preA.length : Nat) : Int) < 0 then _ else A.getD ((preA.length : Nat) : Int).toNat (0, 0)) :: twoC A postB = _
  rw [if_neg (by omega), Int.toNat_natCast, h1]
/-- A place that is kept by both ends where both together move it. -/
theorem frK_two {ba bb : Int} {A B : List Ce} {x : Int} (hx : 0 ≤ x) (uA : Up ba 0 A) (uB : Up bb 0 B) (uC : Up ba 0 (twoC A B)) (kA : ∃ c ∈ A, c.1 = x) (kB : ∃ c ∈ B, c.1 = ((frK x A : Nat) : Int)) :
    frK x (twoC A B) = frK (frK x A : Nat) B := by
  obtain ⟨preA, postA, hA⟩ := kept_split A x hx uA kA
  have e1 : frK x A = preA.length := by rw [hA]; rw [hA] at uA; exact (kept_at hx uA).1
  rw [e1] at kB ⊢
  obtain ⟨preB, postB, hB⟩ := kept_split B ((preA.length : Nat) : Int) (by omega) uB kB
  have e2 : frK ((preA.length : Nat) : Int) B = preB.length := by rw [hB]; rw [hB] at uB; exact (kept_at (by omega) uB).1
  have hC := two_kept hA hB
  rw [hC] at uC
  rw [e2, hC, (kept_at hx uC).1, twoC_len]
theorem rng_mem13 {f t x : Int} (h1 : f ≤ x) (h2 : x < t) : ((x, 0) : Ce) ∈ rng f t := by
  rw [rng_split (f := f) (m := x) (t := t) h1 (by omega), rng_cons (f := x) (t := t) h2]
  simp
/-- One text put in at a place. -/
theorem ins_kept {k p x : Int} {T : List UInt8} (h0 : 0 ≤ x) (hp0 : 0 ≤ p) (hp : p ≤ k) (hx : x < k) : ∃ c ∈ bce k 0 [(p, p, T)], c.1 = x := by
  rw [bce_one_change]
  by_cases h : x < p
  · exact ⟨(x, 0), by simp [rng_mem13 h0 h], rfl⟩
  · exact ⟨(x, 0), by simp [rng_mem13 (show p ≤ x by omega) hx], rfl⟩
theorem mvN_ins {k p x : Int} {T : List UInt8} (hp0 : 0 ≤ p) (hp : p ≤ k) (h0 : 0 ≤ x) (hx : x ≤ k) : (mvN x (bce k 0 [(p, p, T)]) : Int) = if p < x then x + (T.length : Nat) else x := by
  rw [bce_one_change, mvN_append, mvN_append, mvN_own, mvN_rng _ 0 p rfl (Int.le_refl _), mvN_rng _ p k rfl hp0]
  simp only [rng_len, own_len]
  by_cases h : p < x
  · rw [if_pos h, if_neg (show ¬ (min x k - p).toNat = 0 by omega), if_neg (by omega)]
    omega
  · rw [if_neg h, if_pos (show (min x k - p).toNat = 0 by omega), if_pos rfl]
    omega
theorem frK_ins {k p x : Int} {T : List UInt8} (hp0 : 0 ≤ p) (hp : p ≤ k) (h0 : 0 ≤ x) (hx : x ≤ k) : (frK x (bce k 0 [(p, p, T)]) : Int) = if p ≤ x then x + (T.length : Nat) else x := by
  rw [bce_one_change, frK_append, frK_append, frK_own, frK_rng _ 0 p rfl (Int.le_refl _), frK_rng _ p k rfl hp0]
  simp only [rng_len, own_len]
  by_cases h : p ≤ x
  · rw [if_pos h, if_neg (by omega), if_neg (by omega)]
    omega
  · rw [if_neg h, if_pos (by omega)]
    omega
/-- A part taken away. -/
theorem bce_cut (k a b : Int) : bce k 0 [(a, b, [])] = rng 0 a ++ rng b k := by simp [bce, ownT]
theorem mvN_cut {k a b x : Int} (ha : 0 ≤ a) (hab : a ≤ b) (hb : b ≤ k) (h0 : 0 ≤ x) (hx : x ≤ k) : (mvN x (bce k 0 [(a, b, [])]) : Int) = if a < x then max a (x - (b - a)) else x := by
  rw [bce_cut, mvN_append, mvN_rng _ 0 a rfl (Int.le_refl _), mvN_rng _ b k rfl (by omega)]
  simp only [rng_len]
  by_cases h : (min x k - b).toNat = 0
  · rw [if_pos h]
    split <;> omega
  · rw [if_neg h, if_pos (by omega)]
    omega
theorem frK_cut {k a b x : Int} (ha : 0 ≤ a) (hab : a ≤ b) (hb : b ≤ k) (h0 : 0 ≤ x) (hx : x ≤ k) : (frK x (bce k 0 [(a, b, [])]) : Int) = if a < x then max a (x - (b - a)) else x := by
  rw [bce_cut, frK_append, frK_rng _ 0 a rfl (Int.le_refl _), frK_rng _ b k rfl (by omega)]
  simp only [rng_len]
  by_cases h : (min x a - 0).toNat < (a - 0).toNat
  · rw [if_pos h]
    split <;> omega
  · rw [if_neg h]
    split <;> omega
/-- An interval that no change meets is kept whole. -/
theorem bce_whole {n a b : Int} (hab : a < b) (hb : b ≤ n) : ∀ (l : List El) (s : Int), Chs n s l → s ≤ a → (∀ e ∈ l, e.2.1 ≤ a ∨ b ≤ e.1) → ∃ pre post, bce n s l = pre ++ (rng a b ++ post)
  | [], s, hc, hs, _ => by
    refine ⟨rng s a, rng b n, ?_⟩
    show rng s n = _
    rw [rng_split (f := s) (m := a) (t := n) hs (by omega), rng_split (f := a) (m := b) (t := n) (by omega) hb]
  | (f, t, T) :: l, s, hc, hs, hw => by
    obtain ⟨h1, h2, h3, h4⟩ := hc
    rcases hw (f, t, T) (by simp) with h | h
    · simp only at h
      obtain ⟨pre, post, e⟩ := bce_whole hab hb l t h4 h (fun e he => hw e (by simp [he]))
      exact ⟨rng s f ++ (ownT T ++ pre), post, by simp only [bce, e, List.append_assoc]⟩
    · simp only at h
      refine ⟨rng s a, rng b f ++ (ownT T ++ bce n t l), ?_⟩
      simp only [bce]
      rw [rng_split (f := s) (m := a) (t := f) hs (by omega), rng_split (f := a) (m := b) (t := f) (by omega) h]
      simp only [List.append_assoc]
/-- .. and is found where it went. -/
theorem apl_run {a b : Int} {pre post : List Ce} {s : List UInt8} (h0 : 0 ≤ a) (hab : a ≤ b) (hb : b ≤ s.length) : ((apl (pre ++ (rng a b ++ post)) s).drop pre.length).take (b - a).toNat = (s.drop a.toNat).take (b - a).toNat := by
  rw [apl_append, apl_append, List.drop_left' (by rw [apl_len]), List.take_left' (by rw [apl_len, rng_len]), apl_rng h0 hab hb]
end Go.Proofs.YtmgjfmgkmlfjeaaDoor
