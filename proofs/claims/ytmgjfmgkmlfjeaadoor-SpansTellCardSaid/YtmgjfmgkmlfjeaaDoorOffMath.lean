/- Where places go: plain mathematics (layer 14; written ahead of its code). -/
import Derived.Test.YtmgjfmgkmlfjeaaDoorComTwo
namespace Go.Proofs.YtmgjfmgkmlfjeaaDoor
set_option linter.unusedSimpArgs false
set_option linter.unusedVariables false

/-- Behind the last kept byte that is ahead of p: how many are made up to there. -/
def mvN (p : Int) : List Ce → Nat
  | [] => 0
  | c :: cs => if mvN p cs = 0 then (if 0 ≤ c.1 ∧ c.1 < p then 1 else 0) else mvN p cs + 1
/-- How many are put in first. -/
def own0 : List Ce → Nat
  | [] => 0
  | c :: cs => if c.1 < 0 then own0 cs + 1 else 0
/-- How many are made ahead of the first kept byte from p on. -/
def frK (p : Int) : List Ce → Nat
  | [] => 0
  | c :: cs => if 0 ≤ c.1 ∧ p ≤ c.1 then 0 else frK p cs + 1
/-- The place behind the last kept byte; 0 without one. -/
def lastK : List Ce → Int
  | [] => 0
  | c :: cs => if lastK cs = 0 then (if 0 ≤ c.1 then c.1 + 1 else 0) else lastK cs
/-- Where the i-th byte came from. -/
def bkC (base : Int) (cs : List Ce) (i : Nat) : Int :=
  match cs[i]? with
  | none => base
  | some c => if 0 ≤ c.1 then c.1 else lastK (cs.take i)
theorem mvN_le (p : Int) : ∀ cs : List Ce, mvN p cs ≤ cs.length
  | [] => Nat.le_refl _
  | c :: cs => by
    have := mvN_le p cs
    simp only [mvN, List.length_cons]
    split
    · split <;> omega
    · omega
theorem frK_le (p : Int) : ∀ cs : List Ce, frK p cs ≤ cs.length
  | [] => Nat.le_refl _
  | c :: cs => by
    have := frK_le p cs
    simp only [frK, List.length_cons]
    split <;> omega
theorem mvN_append (p : Int) : ∀ a b : List Ce, mvN p (a ++ b) = if mvN p b = 0 then mvN p a else a.length + mvN p b
  | [], b => by
    simp only [List.nil_append, mvN, List.length_nil]
    split
    · assumption
    · omega
  | c :: a, b => by
    have ih := mvN_append p a b
    simp only [List.cons_append, mvN, ih, List.length_cons]
    by_cases h : mvN p b = 0
    · simp only [if_pos h]
    · simp only [if_neg h]
      rw [if_neg (by omega)]
      omega
theorem frK_append (p : Int) : ∀ a b : List Ce, frK p (a ++ b) = if frK p a < a.length then frK p a else a.length + frK p b
  | [], b => by simp [frK]
  | c :: a, b => by
    have ih := frK_append p a b
    simp only [List.cons_append, frK, ih, List.length_cons]
    by_cases h : 0 ≤ c.1 ∧ p ≤ c.1
    · simp only [if_pos h]
      rw [if_pos (by omega)]
    · simp only [if_neg h]
      by_cases h2 : frK p a < a.length
      · rw [if_pos h2, if_pos (by omega)]
      · rw [if_neg h2, if_neg (by omega)]
        omega
theorem mvN_own (p : Int) : ∀ T : List UInt8, mvN p (ownT T) = 0
  | [] => rfl
  | b :: T => by
    have ih := mvN_own p T
    show mvN p ((-1, b) :: ownT T) = 0
    simp only [mvN, ih, if_true]
    rw [if_neg (by omega)]
theorem frK_own (p : Int) : ∀ T : List UInt8, frK p (ownT T) = T.length
  | [] => rfl
  | b :: T => by
    have ih := frK_own p T
    show frK p ((-1, b) :: ownT T) = T.length + 1
    simp only [frK, ih]
    rw [if_neg (by omega)]
theorem mvN_rng {p : Int} : ∀ (n : Nat) (f t : Int), (t - f).toNat = n → 0 ≤ f → mvN p (rng f t) = (min p t - f).toNat
  | 0, f, t, hn, h0 => by
    rw [rng_none (by omega)]
    simp only [mvN]
    omega
  | n + 1, f, t, hn, h0 => by
    have ih := mvN_rng (p := p) n (f + 1) t (by omega) (by omega)
    rw [rng_cons (by omega)]
    simp only [mvN, ih]
    split
    · split <;> omega
    · omega
theorem frK_rng {p : Int} : ∀ (n : Nat) (f t : Int), (t - f).toNat = n → 0 ≤ f → frK p (rng f t) = (min p t - f).toNat
  | 0, f, t, hn, h0 => by
    rw [rng_none (by omega)]
    simp only [frK]
    omega
  | n + 1, f, t, hn, h0 => by
    have ih := frK_rng (p := p) n (f + 1) t (by omega) (by omega)
    rw [rng_cons (by omega)]
    simp only [frK, ih]
    split <;> omega
/-- Nothing that is kept is ahead of p. -/
theorem mvN_up {base p : Int} : ∀ (cs : List Ce) (q : Int), Up base q cs → p ≤ q → mvN p cs = 0
  | [], _, _, _ => rfl
  | c :: cs, q, hu, h => by
    unfold Up at hu
    split at hu
    · rename_i hc
      have := mvN_up (p := p) cs q hu.2 h
      simp only [mvN, this, if_true]
      rw [if_neg (by omega)]
    · rename_i hc
      have := mvN_up (p := p) cs (c.1 + 1) hu.2.2.2 (by omega)
      simp only [mvN, this, if_true]
      rw [if_neg (by omega)]
/-- With the texts that stand there: the first kept byte from p on. -/
theorem mvA_frK {base p : Int} : ∀ (cs : List Ce) (q : Int), Up base q cs → mvN p cs + own0 (cs.drop (mvN p cs)) = frK p cs
  | [], _, _ => rfl
  | c :: cs, q, hu => by
    unfold Up at hu
    split at hu
    · rename_i hc
      have ih := mvA_frK (p := p) cs q hu.2
      simp only [mvN, frK]
      rw [if_neg (show ¬ (0 ≤ c.1 ∧ p ≤ c.1) by omega), if_neg (show ¬ (0 ≤ c.1 ∧ c.1 < p) by omega)]
      by_cases h : mvN p cs = 0
      · rw [if_pos h, List.drop_zero, own0, if_pos hc]
        rw [h, List.drop_zero] at ih
        omega
      · rw [if_neg h, List.drop_succ_cons]
        omega
    · rename_i hc
      obtain ⟨h1, h2, h3, h4⟩ := hu
      have ih := mvA_frK (p := p) cs (c.1 + 1) h4
      simp only [mvN, frK]
      by_cases hp : p ≤ c.1
      · have h0 := mvN_up (p := p) cs (c.1 + 1) h4 (by omega)
        rw [if_pos h0, if_neg (by omega), if_pos (by omega), List.drop_zero, own0, if_neg hc]
      · rw [if_neg (show ¬ (0 ≤ c.1 ∧ p ≤ c.1) by omega), if_pos (show 0 ≤ c.1 ∧ c.1 < p by omega)]
        by_cases h : mvN p cs = 0
        · rw [if_pos h, List.drop_succ_cons, List.drop_zero]
          rw [h, List.drop_zero] at ih
          omega
        · rw [if_neg h, List.drop_succ_cons]
          omega
theorem mvN_mono {p p' : Int} (h : p ≤ p') : ∀ cs : List Ce, mvN p cs ≤ mvN p' cs
  | [] => Nat.le_refl _
  | c :: cs => by
    have ih := mvN_mono h cs
    simp only [mvN]
    repeat' split
    all_goals omega
theorem frK_mono {p p' : Int} (h : p ≤ p') : ∀ cs : List Ce, frK p cs ≤ frK p' cs
  | [] => Nat.le_refl _
  | c :: cs => by
    have ih := frK_mono h cs
    simp only [frK]
    repeat' split
    all_goals omega
theorem mvN_frK {base p : Int} {cs : List Ce} {q : Int} (hu : Up base q cs) : mvN p cs ≤ frK p cs := by
  have := mvA_frK (p := p) cs q hu
  omega
/-- All that is kept is ahead of base. -/
theorem frK_end {base : Int} : ∀ (cs : List Ce) (q : Int), Up base q cs → frK base cs = cs.length
  | [], _, _ => rfl
  | c :: cs, q, hu => by
    unfold Up at hu
    split at hu
    · have := frK_end cs q hu.2
      simp only [frK, this, List.length_cons]
      rw [if_neg (by omega)]
    · have := frK_end cs (c.1 + 1) hu.2.2.2
      simp only [frK, this, List.length_cons]
      rw [if_neg (by omega)]
/-- Kept bytes apart: those ahead of one, those behind it. -/
theorem up_mid {base : Int} : ∀ (pre : List Ce) (q a : Int) (b : UInt8) (post : List Ce), 0 ≤ a → Up base q (pre ++ (a, b) :: post) → q ≤ a ∧ a < base ∧ Up base (a + 1) post ∧ (∀ c ∈ pre, c.1 < a) ∧ Up a q pre
  | [], q, a, b, post, h0, hu => by
    have hu' : Up base q ((a, b) :: post) := hu
    rw [Up, if_neg (by simp only; omega)] at hu'
    exact ⟨hu'.1, hu'.2.1, hu'.2.2.2, fun c hc => (by cases hc), trivial⟩
  | c :: pre, q, a, b, post, h0, hu => by
    have hu' : Up base q (c :: (pre ++ (a, b) :: post)) := hu
    unfold Up at hu'
    split at hu'
    · rename_i hc
      obtain ⟨i1, i2, i3, i4, i5⟩ := up_mid pre q a b post h0 hu'.2
      refine ⟨i1, i2, i3, fun x hx => ?_, ?_⟩
      · rcases List.mem_cons.1 hx with rfl | hx
        · omega
        · exact i4 x hx
      · rw [Up, if_pos hc]; exact ⟨hu'.1, i5⟩
    · rename_i hc
      obtain ⟨h1, h2, h3, h4⟩ := hu'
      obtain ⟨i1, i2, i3, i4, i5⟩ := up_mid pre (c.1 + 1) a b post h0 h4
      refine ⟨by omega, i2, i3, fun x hx => ?_, ?_⟩
      · rcases List.mem_cons.1 hx with rfl | hx
        · omega
        · exact i4 x hx
      · rw [Up, if_neg hc]; exact ⟨h1, by omega, h3, i5⟩
/-- A kept byte is found again where it went. -/
theorem kept_at {base q a : Int} {b : UInt8} {pre post : List Ce} (h0 : 0 ≤ a) (hu : Up base q (pre ++ (a, b) :: post)) :
    frK a (pre ++ (a, b) :: post) = pre.length ∧ mvN (a + 1) (pre ++ (a, b) :: post) = pre.length + 1 ∧ bkC base (pre ++ (a, b) :: post) pre.length = a := by
  obtain ⟨h1, h2, h3, h4, h5⟩ := up_mid pre q a b post h0 hu
  refine ⟨?_, ?_, ?_⟩
  · rw [frK_append, frK_end pre q h5, if_neg (by omega)]
    simp only [frK]
    rw [if_pos (show 0 ≤ a ∧ a ≤ a by omega)]
    rfl
  · have hz := mvN_up (p := a + 1) post (a + 1) h3 (Int.le_refl _)
    have h6 : mvN (a + 1) ((a, b) :: post) = 1 := by
      simp only [mvN, hz, if_true]
      rw [if_pos (by omega)]
    rw [mvN_append, h6, if_neg (by omega)]
  · unfold bkC
    rw [List.getElem?_append_right (Nat.le_refl _), Nat.sub_self]
    simp only [List.getElem?_cons_zero]
    rw [if_pos h0]
theorem bkC_end (base : Int) (cs : List Ce) : bkC base cs cs.length = base := by
  unfold bkC
  rw [List.getElem?_eq_none (Nat.le_refl _)]
theorem mvN_zero {base : Int} {cs : List Ce} (hu : Up base 0 cs) : mvN 0 cs = 0 := mvN_up cs 0 hu (Int.le_refl _)
/-- A place that isn't kept is none of those that are. -/
theorem kept_split {base q : Int} : ∀ (cs : List Ce) (a : Int), 0 ≤ a → Up base q cs → (∃ c ∈ cs, c.1 = a) → ∃ pre post, cs = pre ++ (a, 0) :: post
  | cs, a, h0, hu, ⟨c, hc, e⟩ => by
    obtain ⟨pre, post, rfl⟩ := List.append_of_mem hc
    obtain ⟨x, y⟩ := c
    simp only at e
    subst e
    have hz : y = 0 := by
      have key : ∀ (pre : List Ce) (q : Int), Up base q (pre ++ (x, y) :: post) → y = 0 := by
        intro pre
        induction pre with
        | nil =>
          intro q hu
          have hu' : Up base q ((x, y) :: post) := hu
          rw [Up, if_neg (by simp only; omega)] at hu'
          exact hu'.2.2.1
        | cons d pre ih =>
          intro q hu
          have hu' : Up base q (d :: (pre ++ (x, y) :: post)) := hu
          unfold Up at hu'
          split at hu'
          · exact ih q hu'.2
          · exact ih _ hu'.2.2.2
      exact key pre q hu
    subst hz
    exact ⟨pre, post, rfl⟩
/-- A run of kept bytes: what an interval that is kept whole had, it has where it went. -/
theorem run_at {base q a b : Int} {pre post : List Ce} (h0 : 0 ≤ a) (hab : a < b) (hu : Up base q (pre ++ (rng a b ++ post))) :
    frK a (pre ++ (rng a b ++ post)) = pre.length ∧ mvN b (pre ++ (rng a b ++ post)) = pre.length + (b - a).toNat := by
  have e1 : rng a b ++ post = (a, 0) :: (rng (a + 1) b ++ post) := by rw [rng_cons hab]; rfl
  have e2 : pre ++ (rng a b ++ post) = (pre ++ rng a (b - 1)) ++ (b - 1, 0) :: post := by
    rw [rng_split (f := a) (m := b - 1) (t := b) (by omega) (by omega), show rng (b - 1) b = [(b - 1, 0)] from by rw [rng_cons (by omega), rng_none (by omega)]]
    simp
  refine ⟨?_, ?_⟩
  · rw [e1] at hu ⊢
    exact (kept_at h0 hu).1
  · rw [e2] at hu ⊢
    have := (kept_at (a := b - 1) (by omega) hu).2.1
    rw [show b - 1 + 1 = b by omega] at this
    rw [this, List.length_append, rng_len]
    omega
/-- Element by element: how far it is moved, how much is made. -/
def mvS (p : Int) (st : Nat × Nat) (e : El) : Nat × Nat := (if e.2.2 = [] ∧ e.1 < p then st.2 + (min p e.2.1 - e.1).toNat else st.1, st.2 + (ce1 e).length)
theorem mvN_ce1 {p : Int} {e : El} (h : Gd1 e) : mvN p (ce1 e) = if e.2.2 = [] ∧ e.1 < p then (min p e.2.1 - e.1).toNat else 0 := by
  obtain ⟨f, t, T⟩ := e
  show mvN p (ownT T ++ rng f t) = _
  rcases h with ⟨h1, h2, h3⟩ | ⟨h1, h2, h3⟩
  · simp only at h1 h2 h3
    subst h1
    show mvN p (rng f t) = _
    rw [mvN_rng _ f t rfl h2]
    by_cases hp : f < p
    · simp [hp]
    · simp [hp]; omega
  · simp only at h1 h2 h3
    subst h2 h3
    rw [rng_none (Int.le_refl _), List.append_nil, mvN_own]
    simp [h1]
theorem mv_fold {p : Int} : ∀ (es : List El) (A : List Ce), (∀ e ∈ es, Gd1 e) → es.foldl (mvS p) (mvN p A, A.length) = (mvN p (A ++ cel es), (A ++ cel es).length)
  | [], A, _ => by simp [cel]
  | e :: es, A, h => by
    have he := h e (by simp)
    have ih := mv_fold (p := p) es (A ++ ce1 e) (fun x hx => h x (by simp [hx]))
    have e1 : mvS p (mvN p A, A.length) e = (mvN p (A ++ ce1 e), (A ++ ce1 e).length) := by
      unfold mvS
      rw [mvN_append, mvN_ce1 he, List.length_append]
      by_cases hc : e.2.2 = [] ∧ e.1 < p
      · simp only [if_pos hc]
        have hpos : ¬ (min p e.2.1 - e.1).toNat = 0 := by
          rcases he with ⟨_, g2, g3⟩ | ⟨g1, _, _⟩
          · omega
          · exact absurd hc.1 g1
        rw [if_neg hpos]
      · simp only [if_neg hc, if_true]
    rw [List.foldl_cons, e1, ih, cel_cons, List.append_assoc]
end Go.Proofs.YtmgjfmgkmlfjeaaDoor
