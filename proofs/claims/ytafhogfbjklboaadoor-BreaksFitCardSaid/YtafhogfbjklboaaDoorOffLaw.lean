/- Where places go: plain mathematics (layer 14; written ahead of its code). What the laws on places ask: plain mathematics (layer 14; written ahead of its code). -/
import Derived.Test.YtafhogfbjklboaaDoorComTwo
namespace Go.Proofs.YtafhogfbjklboaaDoor
set_option linter.unusedSimpArgs false
set_option linter.unusedVariables false

/-- Behind the last kept byte that is ahead of p: how many are made up to there. -/
def mvN (p : Int) : List Ce → Nat
  | [] => 0
  | c :: cs => if mvN p cs = 0 then (if 0 ≤ c.1 ∧ c.1 < p then 1 else 0) else mvN p cs + 1
/-- How many are put in first. -/
def own0 : List Ce → Nat
  | [] => 0
  | c :: cs => if c.1 < 0 then own0 cs + 1 else 0
/-- How many are made ahead of the first kept byte from p on. -/
def frK (p : Int) : List Ce → Nat
  | [] => 0
  | c :: cs => if 0 ≤ c.1 ∧ p ≤ c.1 then 0 else frK p cs + 1
/-- The place behind the last kept byte; 0 without one. -/
def lastK : List Ce → Int
  | [] => 0
  | c :: cs => if lastK cs = 0 then (if 0 ≤ c.1 then c.1 + 1 else 0) else lastK cs
/-- Where the i-th byte came from. -/
def bkC (base : Int) (cs : List Ce) (i : Nat) : Int :=
  match cs[i]? with
  | none => base
  | some c => if 0 ≤ c.1 then c.1 else lastK (cs.take i)
theorem mvN_le (p : Int) : ∀ cs : List Ce, mvN p cs ≤ cs.length
  | [] => Nat.le_refl _
  | c :: cs => by
    have := mvN_le p cs
    simp only [mvN, List.length_cons]
    split
    · split <;> omega
    · omega
theorem frK_le (p : Int) : ∀ cs : List Ce, frK p cs ≤ cs.length
  | [] => Nat.le_refl _
  | c :: cs => by
    have := frK_le p cs
    simp only [frK, List.length_cons]
    split <;> omega
theorem mvN_append (p : Int) : ∀ a b : List Ce, mvN p (a ++ b) = if mvN p b = 0 then mvN p a else a.length + mvN p b
  | [], b => by
    simp only [List.nil_append, mvN, List.length_nil]
    split
    · assumption
    · omega
  | c :: a, b => by
    have ih := mvN_append p a b
    simp only [List.cons_append, mvN, ih, List.length_cons]
    by_cases h : mvN p b = 0
    · simp only [if_pos h]
    · simp only [if_neg h]
      rw [if_neg (by omega)]
      omega
theorem frK_append (p : Int) : ∀ a b : List Ce, frK p (a ++ b) = if frK p a < a.length then frK p a else a.length + frK p b
  | [], b => by simp [frK]
  | c :: a, b => by
    have ih := frK_append p a b
    simp only [List.cons_append, frK, ih, List.length_cons]
    by_cases h : 0 ≤ c.1 ∧ p ≤ c.1
    · simp only [if_pos h]
      rw [if_pos (by omega)]
    · simp only [if_neg h]
      by_cases h2 : frK p a < a.length
      · rw [if_pos h2, if_pos (by omega)]
      · rw [if_neg h2, if_neg (by omega)]
        omega
theorem mvN_own (p : Int) : ∀ T : List UInt8, mvN p (ownT T) = 0
  | [] => rfl
  | b :: T => by
    have ih := mvN_own p T
    show mvN p ((-1, b) :: ownT T) = 0
    simp only [mvN, ih, if_true]
    rw [if_neg (by omega)]
theorem frK_own (p : Int) : ∀ T : List UInt8, frK p (ownT T) = T.length
  | [] => rfl
  | b :: T => by
    have ih := frK_own p T
    show frK p ((-1, b) :: ownT T) = T.length + 1
    simp only [frK, ih]
    rw [if_neg (by omega)]
theorem mvN_rng {p : Int} : ∀ (n : Nat) (f t : Int), (t - f).toNat = n → 0 ≤ f → mvN p (rng f t) = (min p t - f).toNat
  | 0, f, t, hn, h0 => by
    rw [rng_none (by omega)]
    simp only [mvN]
    omega
  | n + 1, f, t, hn, h0 => by
    have ih := mvN_rng (p := p) n (f + 1) t (by omega) (by omega)
    rw [rng_cons (by omega)]
    simp only [mvN, ih]
    split
    · split <;> omega
    · omega
theorem frK_rng {p : Int} : ∀ (n : Nat) (f t : Int), (t - f).toNat = n → 0 ≤ f → frK p (rng f t) = (min p t - f).toNat
  | 0, f, t, hn, h0 => by
    rw [rng_none (by omega)]
    simp only [frK]
    omega
  | n + 1, f, t, hn, h0 => by
    have ih := frK_rng (p := p) n (f + 1) t (by omega) (by omega)
    rw [rng_cons (by omega)]
    simp only [frK, ih]
    split <;> omega
/-- Nothing that is kept is ahead of p. -/
theorem mvN_up {base p : Int} : ∀ (cs : List Ce) (q : Int), Up base q cs → p ≤ q → mvN p cs = 0
  | [], _, _, _ => rfl
  | c :: cs, q, hu, h => by
    unfold Up at hu
    split at hu
    · rename_i hc
      have := mvN_up (p := p) cs q hu.2 h
      simp only [mvN, this, if_true]
      rw [if_neg (by omega)]
    · rename_i hc
      have := mvN_up (p := p) cs (c.1 + 1) hu.2.2.2 (by omega)
      simp only [mvN, this, if_true]
      rw [if_neg (by omega)]
/-- With the texts that stand there: the first kept byte from p on. -/
theorem mvA_frK {base p : Int} : ∀ (cs : List Ce) (q : Int), Up base q cs → mvN p cs + own0 (cs.drop (mvN p cs)) = frK p cs
  | [], _, _ => rfl
  | c :: cs, q, hu => by
    unfold Up at hu
    split at hu
    · rename_i hc
      have ih := mvA_frK (p := p) cs q hu.2
      simp only [mvN, frK]
      rw [if_neg (show ¬ (0 ≤ c.1 ∧ p ≤ c.1) by omega), if_neg (show ¬ (0 ≤ c.1 ∧ c.1 < p) by omega)]
      by_cases h : mvN p cs = 0
      · rw [if_pos h, List.drop_zero, own0, if_pos hc]
        rw [h, List.drop_zero] at ih
        omega
      · rw [if_neg h, List.drop_succ_cons]
        omega
    · rename_i hc
      obtain ⟨h1, h2, h3, h4⟩ := hu
      have ih := mvA_frK (p := p) cs (c.1 + 1) h4
      simp only [mvN, frK]
      by_cases hp : p ≤ c.1
      · have h0 := mvN_up (p := p) cs (c.1 + 1) h4 (by omega)
        rw [if_pos h0, if_neg (by omega), if_pos (by omega), List.drop_zero, own0, if_neg hc]
      · rw [if_neg (show ¬ (0 ≤ c.1 ∧ p ≤ c.1) by omega), if_pos (show 0 ≤ c.1 ∧ c.1 < p by omega)]
        by_cases h : mvN p cs = 0
        · rw [if_pos h, List.drop_succ_cons, List.drop_zero]
          rw [h, List.drop_zero] at ih
          omega
        · rw [if_neg h, List.drop_succ_cons]
          omega
theorem mvN_mono {p p' : Int} (h : p ≤ p') : ∀ cs : List Ce, mvN p cs ≤ mvN p' cs
  | [] => Nat.le_refl _
  | c :: cs => by
    have ih := mvN_mono h cs
    simp only [mvN]
    repeat' split
    all_goals omega
theorem frK_mono {p p' : Int} (h : p ≤ p') : ∀ cs : List Ce, frK p cs ≤ frK p' cs
  | [] => Nat.le_refl _
  | c :: cs => by
    have ih := frK_mono h cs
    simp only [frK]
    repeat' split
    all_goals omega
theorem mvN_frK {base p : Int} {cs : List Ce} {q : Int} (hu : Up base q cs) : mvN p cs ≤ frK p cs := by
  have := mvA_frK (p := p) cs q hu
  omega
/-- All that is kept is ahead of base. -/
theorem frK_end {base : Int} : ∀ (cs : List Ce) (q : Int), Up base q cs → frK base cs = cs.length
  | [], _, _ => rfl
  | c :: cs, q, hu => by
    unfold Up at hu
    split at hu
    · have := frK_end cs q hu.2
      simp only [frK, this, List.length_cons]
      rw [if_neg (by omega)]
    · have := frK_end cs (c.1 + 1) hu.2.2.2
      simp only [frK, this, List.length_cons]
      rw [if_neg (by omega)]
/-- Kept bytes apart: those ahead of one, those behind it. -/
theorem up_mid {base : Int} : ∀ (pre : List Ce) (q a : Int) (b : UInt8) (post : List Ce), 0 ≤ a → Up base q (pre ++ (a, b) :: post) → q ≤ a ∧ a < base ∧ Up base (a + 1) post ∧ (∀ c ∈ pre, c.1 < a) ∧ Up a q pre
  | [], q, a, b, post, h0, hu => by
    have hu' : Up base q ((a, b) :: post) := hu
    rw [Up, if_neg (by simp only; omega)] at hu'
    exact ⟨hu'.1, hu'.2.1, hu'.2.2.2, fun c hc => (by cases hc), trivial⟩
  | c :: pre, q, a, b, post, h0, hu => by
    have hu' : Up base q (c :: (pre ++ (a, b) :: post)) := hu
    unfold Up at hu'
    split at hu'
    · rename_i hc
      obtain ⟨i1, i2, i3, i4, i5⟩ := up_mid pre q a b post h0 hu'.2
      refine ⟨i1, i2, i3, fun x hx => ?_, ?_⟩
      · rcases List.mem_cons.1 hx with rfl | hx
        · omega
        · exact i4 x hx
      · rw [Up, if_pos hc]; exact ⟨hu'.1, i5⟩
    · rename_i hc
      obtain ⟨h1, h2, h3, h4⟩ := hu'
      obtain ⟨i1, i2, i3, i4, i5⟩ := up_mid pre (c.1 + 1) a b post h0 h4
      refine ⟨by omega, i2, i3, fun x hx => ?_, ?_⟩
      · rcases List.mem_cons.1 hx with rfl | hx
        · omega
        · exact i4 x hx
      · rw [Up, if_neg hc]; exact ⟨h1, by omega, h3, i5⟩
/-- A kept byte is found again where it went. -/
theorem kept_at {base q a : Int} {b : UInt8} {pre post : List Ce} (h0 : 0 ≤ a) (hu : Up base q (pre ++ (a, b) :: post)) :
    frK a (pre ++ (a, b) :: post) = pre.length ∧ mvN (a + 1) (pre ++ (a, b) :: post) = pre.length + 1 ∧ bkC base (pre ++ (a, b) :: post) pre.length = a := by
  obtain ⟨h1, h2, h3, h4, h5⟩ := up_mid pre q a b post h0 hu
  refine ⟨?_, ?_, ?_⟩
  · rw [frK_append, frK_end pre q h5, if_neg (by omega)]
    simp only [frK]
    rw [if_pos (show 0 ≤ a ∧ a ≤ a by omega)]
    rfl
  · have hz := mvN_up (p := a + 1) post (a + 1) h3 (Int.le_refl _)
    have h6 : mvN (a + 1) ((a, b) :: post) = 1 := by
      simp only [mvN, hz, if_true]
      rw [if_pos (by omega)]
    rw [mvN_append, h6, if_neg (by omega)]
  · unfold bkC
    rw [List.getElem?_append_right (Nat.le_refl _), Nat.sub_self]
    simp only [List.getElem?_cons_zero]
    rw [if_pos h0]
theorem bkC_end (base : Int) (cs : List Ce) : bkC base cs cs.length = base := by
  unfold bkC
  rw [List.getElem?_eq_none (Nat.le_refl _)]
theorem mvN_zero {base : Int} {cs : List Ce} (hu : Up base 0 cs) : mvN 0 cs = 0 := mvN_up cs 0 hu (Int.le_refl _)
/-- A place that isn't kept is none of those that are. -/
theorem kept_split {base q : Int} : ∀ (cs : List Ce) (a : Int), 0 ≤ a → Up base q cs → (∃ c ∈ cs, c.1 = a) → ∃ pre post, cs = pre ++ (a, 0) :: post
  | cs, a, h0, hu, ⟨c, hc, e⟩ => by
    obtain ⟨pre, post, rfl⟩ := List.append_of_mem hc
    obtain ⟨x, y⟩ := c
    simp only at e
    subst e
    have hz : y = 0 := by
      have key : ∀ (pre : List Ce) (q : Int), Up base q (pre ++ (x, y) :: post) → y = 0 := by
        intro pre
        induction pre with
        | nil =>
          intro q hu
          have hu' : Up base q ((x, y) :: post) := hu
          rw [Up, if_neg (by simp only; omega)] at hu'
          exact hu'.2.2.1
        | cons d pre ih =>
          intro q hu
          have hu' : Up base q (d :: (pre ++ (x, y) :: post)) := hu
          unfold Up at hu'
          split at hu'
          · exact ih q hu'.2
          · exact ih _ hu'.2.2.2
      exact key pre q hu
    subst hz
    exact ⟨pre, post, rfl⟩
/-- A run of kept bytes: what an interval that is kept whole had, it has where it went. -/
theorem run_at {base q a b : Int} {pre post : List Ce} (h0 : 0 ≤ a) (hab : a < b) (hu : Up base q (pre ++ (rng a b ++ post))) :
    frK a (pre ++ (rng a b ++ post)) = pre.length ∧ mvN b (pre ++ (rng a b ++ post)) = pre.length + (b - a).toNat := by
  have e1 : rng a b ++ post = (a, 0) :: (rng (a + 1) b ++ post) := by rw [rng_cons hab]; rfl
  have e2 : pre ++ (rng a b ++ post) = (pre ++ rng a (b - 1)) ++ (b - 1, 0) :: post := by
    rw [rng_split (f := a) (m := b - 1) (t := b) (by omega) (by omega), show rng (b - 1) b = [(b - 1, 0)] from by rw [rng_cons (by omega), rng_none (by omega)]]
    simp
  refine ⟨?_, ?_⟩
  · rw [e1] at hu ⊢
    exact (kept_at h0 hu).1
  · rw [e2] at hu ⊢
    have := (kept_at (a := b - 1) (by omega) hu).2.1
    rw [show b - 1 + 1 = b by omega] at this
    rw [this, List.length_append, rng_len]
    omega
/-- Element by element: how far it is moved, how much is made. -/
def mvS (p : Int) (st : Nat × Nat) (e : El) : Nat × Nat := (if e.2.2 = [] ∧ e.1 < p then st.2 + (min p e.2.1 - e.1).toNat else st.1, st.2 + (ce1 e).length)
theorem mvN_ce1 {p : Int} {e : El} (h : Gd1 e) : mvN p (ce1 e) = if e.2.2 = [] ∧ e.1 < p then (min p e.2.1 - e.1).toNat else 0 := by
  obtain ⟨f, t, T⟩ := e
  show mvN p (ownT T ++ rng f t) = _
  rcases h with ⟨h1, h2, h3⟩ | ⟨h1, h2, h3⟩
  · simp only at h1 h2 h3
    subst h1
    show mvN p (rng f t) = _
    rw [mvN_rng _ f t rfl h2]
    by_cases hp : f < p
    · simp [hp]
    · simp [hp]; omega
  · simp only at h1 h2 h3
    subst h2 h3
    rw [rng_none (Int.le_refl _), List.append_nil, mvN_own]
    simp [h1]
theorem mv_fold {p : Int} : ∀ (es : List El) (A : List Ce), (∀ e ∈ es, Gd1 e) → es.foldl (mvS p) (mvN p A, A.length) = (mvN p (A ++ cel es), (A ++ cel es).length)
  | [], A, _ => by simp [cel]
  | e :: es, A, h => by
    have he := h e (by simp)
    have ih := mv_fold (p := p) es (A ++ ce1 e) (fun x hx => h x (by simp [hx]))
    have e1 : mvS p (mvN p A, A.length) e = (mvN p (A ++ ce1 e), (A ++ ce1 e).length) := by
      unfold mvS
      rw [mvN_append, mvN_ce1 he, List.length_append]
      by_cases hc : e.2.2 = [] ∧ e.1 < p
      · simp only [if_pos hc]
        have hpos : ¬ (min p e.2.1 - e.1).toNat = 0 := by
          rcases he with ⟨_, g2, g3⟩ | ⟨g1, _, _⟩
          · omega
          · exact absurd hc.1 g1
        rw [if_neg hpos]
      · simp only [if_neg hc, if_true]
    rw [List.foldl_cons, e1, ih, cel_cons, List.append_assoc]
end Go.Proofs.YtafhogfbjklboaaDoor
namespace Go.Proofs.YtafhogfbjklboaaDoor
set_option linter.unusedSimpArgs false
set_option linter.unusedVariables false

/-- A byte that both keep is kept by both at once. -/
theorem two_kept {A B preA postA preB postB : List Ce} {x : Int} (hA : A = preA ++ (x, 0) :: postA) (hB : B = preB ++ (((preA.length : Nat) : Int), 0) :: postB) : twoC A B = twoC A preB ++ (x, 0) :: twoC A postB := by
  have h1 : A.getD preA.length (0, 0) = (x, 0) := by
    rw [hA, List.getD_eq_getElem?_getD, List.getElem?_append_right (Nat.le_refl _), Nat.sub_self]; rfl
  rw [hB, twoC_append]
  congr 1
  show (if ((preA.length : Nat) : Int) < 0 then _ else A.getD ((preA.length : Nat) : Int).toNat (0, 0)) :: twoC A postB = _
  rw [if_neg (by omega), Int.toNat_natCast, h1]
/-- A place that is kept by both ends where both together move it. -/
theorem frK_two {ba bb : Int} {A B : List Ce} {x : Int} (hx : 0 ≤ x) (uA : Up ba 0 A) (uB : Up bb 0 B) (uC : Up ba 0 (twoC A B)) (kA : ∃ c ∈ A, c.1 = x) (kB : ∃ c ∈ B, c.1 = ((frK x A : Nat) : Int)) :
    frK x (twoC A B) = frK (frK x A : Nat) B := by
  obtain ⟨preA, postA, hA⟩ := kept_split A x hx uA kA
  have e1 : frK x A = preA.length := by rw [hA]; rw [hA] at uA; exact (kept_at hx uA).1
  rw [e1] at kB ⊢
  obtain ⟨preB, postB, hB⟩ := kept_split B ((preA.length : Nat) : Int) (by omega) uB kB
  have e2 : frK ((preA.length : Nat) : Int) B = preB.length := by rw [hB]; rw [hB] at uB; exact (kept_at (by omega) uB).1
  have hC := two_kept hA hB
  rw [hC] at uC
  rw [e2, hC, (kept_at hx uC).1, twoC_len]
theorem rng_mem13 {f t x : Int} (h1 : f ≤ x) (h2 : x < t) : ((x, 0) : Ce) ∈ rng f t := by
  rw [rng_split (f := f) (m := x) (t := t) h1 (by omega), rng_cons (f := x) (t := t) h2]
  simp
/-- One text put in at a place. -/
theorem ins_kept {k p x : Int} {T : List UInt8} (h0 : 0 ≤ x) (hp0 : 0 ≤ p) (hp : p ≤ k) (hx : x < k) : ∃ c ∈ bce k 0 [(p, p, T)], c.1 = x := by
  rw [bce_one_change]
  by_cases h : x < p
  · exact ⟨(x, 0), by simp [rng_mem13 h0 h], rfl⟩
  · exact ⟨(x, 0), by simp [rng_mem13 (show p ≤ x by omega) hx], rfl⟩
theorem mvN_ins {k p x : Int} {T : List UInt8} (hp0 : 0 ≤ p) (hp : p ≤ k) (h0 : 0 ≤ x) (hx : x ≤ k) : (mvN x (bce k 0 [(p, p, T)]) : Int) = if p < x then x + (T.length : Nat) else x := by
  rw [bce_one_change, mvN_append, mvN_append, mvN_own, mvN_rng _ 0 p rfl (Int.le_refl _), mvN_rng _ p k rfl hp0]
  simp only [rng_len, own_len]
  by_cases h : p < x
  · rw [if_pos h, if_neg (show ¬ (min x k - p).toNat = 0 by omega), if_neg (by omega)]
    omega
  · rw [if_neg h, if_pos (show (min x k - p).toNat = 0 by omega), if_pos rfl]
    omega
theorem frK_ins {k p x : Int} {T : List UInt8} (hp0 : 0 ≤ p) (hp : p ≤ k) (h0 : 0 ≤ x) (hx : x ≤ k) : (frK x (bce k 0 [(p, p, T)]) : Int) = if p ≤ x then x + (T.length : Nat) else x := by
  rw [bce_one_change, frK_append, frK_append, frK_own, frK_rng _ 0 p rfl (Int.le_refl _), frK_rng _ p k rfl hp0]
  simp only [rng_len, own_len]
  by_cases h : p ≤ x
  · rw [if_pos h, if_neg (by omega), if_neg (by omega)]
    omega
  · rw [if_neg h, if_pos (by omega)]
    omega
/-- A part taken away. -/
theorem bce_cut (k a b : Int) : bce k 0 [(a, b, [])] = rng 0 a ++ rng b k := by simp [bce, ownT]
theorem mvN_cut {k a b x : Int} (ha : 0 ≤ a) (hab : a ≤ b) (hb : b ≤ k) (h0 : 0 ≤ x) (hx : x ≤ k) : (mvN x (bce k 0 [(a, b, [])]) : Int) = if a < x then max a (x - (b - a)) else x := by
  rw [bce_cut, mvN_append, mvN_rng _ 0 a rfl (Int.le_refl _), mvN_rng _ b k rfl (by omega)]
  simp only [rng_len]
  by_cases h : (min x k - b).toNat = 0
  · rw [if_pos h]
    split <;> omega
  · rw [if_neg h, if_pos (by omega)]
    omega
theorem frK_cut {k a b x : Int} (ha : 0 ≤ a) (hab : a ≤ b) (hb : b ≤ k) (h0 : 0 ≤ x) (hx : x ≤ k) : (frK x (bce k 0 [(a, b, [])]) : Int) = if a < x then max a (x - (b - a)) else x := by
  rw [bce_cut, frK_append, frK_rng _ 0 a rfl (Int.le_refl _), frK_rng _ b k rfl (by omega)]
  simp only [rng_len]
  by_cases h : (min x a - 0).toNat < (a - 0).toNat
  · rw [if_pos h]
    split <;> omega
  · rw [if_neg h]
    split <;> omega
/-- An interval that no change meets is kept whole. -/
theorem bce_whole {n a b : Int} (hab : a < b) (hb : b ≤ n) : ∀ (l : List El) (s : Int), Chs n s l → s ≤ a → (∀ e ∈ l, e.2.1 ≤ a ∨ b ≤ e.1) → ∃ pre post, bce n s l = pre ++ (rng a b ++ post)
  | [], s, hc, hs, _ => by
    refine ⟨rng s a, rng b n, ?_⟩
    show rng s n = _
    rw [rng_split (f := s) (m := a) (t := n) hs (by omega), rng_split (f := a) (m := b) (t := n) (by omega) hb]
  | (f, t, T) :: l, s, hc, hs, hw => by
    obtain ⟨h1, h2, h3, h4⟩ := hc
    rcases hw (f, t, T) (by simp) with h | h
    · simp only at h
      obtain ⟨pre, post, e⟩ := bce_whole hab hb l t h4 h (fun e he => hw e (by simp [he]))
      exact ⟨rng s f ++ (ownT T ++ pre), post, by simp only [bce, e, List.append_assoc]⟩
    · simp only at h
      refine ⟨rng s a, rng b f ++ (ownT T ++ bce n t l), ?_⟩
      simp only [bce]
      rw [rng_split (f := s) (m := a) (t := f) hs (by omega), rng_split (f := a) (m := b) (t := f) (by omega) h]
      simp only [List.append_assoc]
/-- .. and is found where it went. -/
theorem apl_run {a b : Int} {pre post : List Ce} {s : List UInt8} (h0 : 0 ≤ a) (hab : a ≤ b) (hb : b ≤ s.length) : ((apl (pre ++ (rng a b ++ post)) s).drop pre.length).take (b - a).toNat = (s.drop a.toNat).take (b - a).toNat := by
  rw [apl_append, apl_append, List.drop_left' (by rw [apl_len]), List.take_left' (by rw [apl_len, rng_len]), apl_rng h0 hab hb]
end Go.Proofs.YtafhogfbjklboaaDoor
