/- Breaks of lines: plain mathematics (layer 16): rows that rise; one more, one less; behind a delta; where a text is broken. -/
import Derived.Test.YtafhogfbjklboaaDoorOffPlainM
namespace Go.Proofs.YtafhogfbjklboaaDoor
set_option linter.unusedSimpArgs false
set_option linter.unusedVariables false

/-- Rising above a, below m. -/
def Ris (m : Int) : Int → List Int → Prop
  | _, [] => True
  | a, x :: l => (a < x ∧ x < m) ∧ Ris m x l
def risB (m : Int) : Int → List Int → Bool
  | _, [] => true
  | a, x :: l => decide (a < x) && decide (x < m) && risB m x l
theorem risB_iff {m : Int} : ∀ {l : List Int} {a : Int}, risB m a l = true ↔ Ris m a l
  | [], a => by simp [risB, Ris]
  | x :: l, a => by simp [risB, Ris, risB_iff (l := l) (a := x), and_assoc]
theorem Ris.mono {m m' : Int} (h : m ≤ m') : ∀ {l : List Int} {a : Int}, Ris m a l → Ris m' a l
  | [], _, _ => trivial
  | x :: l, a, ⟨⟨h1, h2⟩, h3⟩ => ⟨⟨h1, by omega⟩, h3.mono h⟩
theorem Ris.low {m a b : Int} (h : b ≤ a) : ∀ {l : List Int}, Ris m a l → Ris m b l
  | [], _ => trivial
  | x :: l, ⟨⟨h1, h2⟩, h3⟩ => ⟨⟨by omega, h2⟩, h3⟩
theorem ris_mem {m : Int} : ∀ {l : List Int} {a x : Int}, Ris m a l → x ∈ l → a < x ∧ x < m
  | [], _, _, _, h => by cases h
  | y :: l, a, x, ⟨⟨h1, h2⟩, h3⟩, h => by
    rcases List.mem_cons.1 h with rfl | h
    · exact ⟨h1, h2⟩
    · have := ris_mem h3 h; omega
theorem Ris.take {m : Int} : ∀ {l : List Int} {a : Int} (k : Nat), Ris m a l → Ris m a (l.take k)
  | [], _, k, _ => by simp [Ris]
  | x :: l, a, 0, _ => trivial
  | x :: l, a, k + 1, ⟨h1, h3⟩ => ⟨h1, h3.take k⟩
theorem Ris.drop {m : Int} : ∀ {l : List Int} {a : Int} (k : Nat), Ris m a l → ∃ b, a ≤ b ∧ Ris m b (l.drop k)
  | [], a, k, _ => ⟨a, Int.le_refl _, by simp [Ris]⟩
  | x :: l, a, 0, h => ⟨a, Int.le_refl _, h⟩
  | x :: l, a, k + 1, ⟨h1, h3⟩ => by
    obtain ⟨b, hb, h⟩ := h3.drop k
    exact ⟨b, by omega, h⟩
/-- What stands ahead of the i-th. -/
def prv (a : Int) (l : List Int) : Nat → Int
  | 0 => a
  | j + 1 => l.getD j 0
theorem prv_cons {a x : Int} {l : List Int} : ∀ i : Nat, prv a (x :: l) (i + 1) = prv x l i
  | 0 => rfl
  | i + 1 => by simp [prv]
theorem ris_at {m : Int} : ∀ {l : List Int} {a : Int} {i : Nat} {x : Int}, Ris m a l → l[i]? = some x → prv a l i < x ∧ x < m
  | [], _, _, _, _, h => by simp at h
  | y :: l, a, 0, x, ⟨h1, _⟩, h => by
    simp at h
    subst h
    exact h1
  | y :: l, a, i + 1, x, ⟨_, h3⟩, h => by
    rw [prv_cons]
    exact ris_at h3 (by simpa using h)
theorem ris_of {m : Int} : ∀ {l : List Int} {a : Int}, (∀ i x, l[i]? = some x → prv a l i < x ∧ x < m) → Ris m a l
  | [], _, _ => trivial
  | y :: l, a, h => ⟨h 0 y rfl, ris_of fun i x hx => by rw [← prv_cons (a := a)]; exact h (i + 1) x (by simpa using hx)⟩
theorem ris_pair {m : Int} : ∀ {l : List Int} {a : Int}, Ris m a l → l.Pairwise (· < ·)
  | [], _, _ => List.Pairwise.nil
  | y :: l, a, ⟨_, h3⟩ => List.Pairwise.cons (fun z hz => (ris_mem h3 hz).1) (ris_pair h3)
theorem ris_pair_le {m : Int} {l : List Int} {a : Int} (h : Ris m a l) : l.Pairwise (· ≤ ·) := (ris_pair h).imp fun h => Int.le_of_lt h
/-- Breaks of n bytes: at most sixty, rising, above 0 and below n. -/
def isK (n : Int) (l : List Int) : Bool := decide (l.length ≤ 60) && risB (min n 20000) 0 l
theorem isK_spec {n : Int} {l : List Int} : isK n l = true ↔ l.length ≤ 60 ∧ Ris (min n 20000) 0 l := by simp [isK, risB_iff]
theorem isK_bad {n : Int} {l : List Int} {i : Nat} {x : Int} (hx : l[i]? = some x) (h : ¬ (prv 0 l i < x ∧ x < min n 20000)) : isK n l = false := by
  rw [← Bool.not_eq_true, isK_spec]
  exact fun hk => h (ris_at hk.2 hx)
theorem isK_long {n : Int} {l : List Int} (h : 60 < l.length) : isK n l = false := by
  rw [← Bool.not_eq_true, isK_spec]; omega
theorem isK_all {n : Int} {l : List Int} (h0 : l.length ≤ 60) (h : ∀ i x, l[i]? = some x → prv 0 l i < x ∧ x < min n 20000) : isK n l = true := isK_spec.2 ⟨h0, ris_of h⟩
theorem isK_more {n : Int} {l : List Int} (h : isK n l = true) : isK 20000 l = true := by
  rw [isK_spec] at *
  exact ⟨h.1, h.2.mono (by omega)⟩

/-- One more, in order. -/
def insK (y : Int) : List Int → List Int
  | [] => [y]
  | x :: l => if x < y then x :: insK y l else y :: x :: l
theorem insK_len (y : Int) : ∀ l : List Int, (insK y l).length = l.length + 1
  | [] => rfl
  | x :: l => by
    unfold insK
    split
    · simp [insK_len y l]
    · simp
theorem insK_mem {y z : Int} : ∀ {l : List Int}, z ∈ insK y l ↔ z = y ∨ z ∈ l
  | [] => by simp [insK]
  | x :: l => by
    unfold insK
    split
    · rw [List.mem_cons, insK_mem, List.mem_cons]
      constructor
      · rintro (h | h | h) <;> simp [h]
      · rintro (h | h | h) <;> simp [h]
    · simp
theorem insK_ris {m y : Int} : ∀ {l : List Int} {a : Int}, Ris m a l → a < y → y < m → ¬ y ∈ l → Ris m a (insK y l)
  | [], a, _, h1, h2, _ => ⟨⟨h1, h2⟩, trivial⟩
  | x :: l, a, ⟨⟨h3, h4⟩, h5⟩, h1, h2, hn => by
    rw [List.mem_cons, not_or] at hn
    unfold insK
    split
    · rename_i hc
      exact ⟨⟨h3, h4⟩, insK_ris h5 hc h2 hn.2⟩
    · exact ⟨⟨h1, h2⟩, ⟨by omega, h4⟩, h5⟩
/-- How many are less. -/
def cntL (y : Int) (l : List Int) : Nat := l.countP (fun x => decide (x < y))
theorem cntL_le (y : Int) (l : List Int) : cntL y l ≤ l.length := List.countP_le_length
theorem cntL_none {m y : Int} {l : List Int} {a : Int} (h : Ris m a l) (ha : y ≤ a) : cntL y l = 0 := by
  unfold cntL
  rw [List.countP_eq_zero]
  intro x hx
  have := ris_mem h hx
  simp; omega
theorem insK_eq {m y : Int} : ∀ {l : List Int} {a : Int}, Ris m a l → insK y l = l.take (cntL y l) ++ y :: l.drop (cntL y l)
  | [], _, _ => rfl
  | x :: l, a, ⟨⟨h3, h4⟩, h5⟩ => by
    unfold insK
    split
    · rename_i hc
      have e : cntL y (x :: l) = cntL y l + 1 := by simp [cntL, hc]
      rw [e, insK_eq h5]
      simp
    · rename_i hc
      have e : cntL y (x :: l) = 0 := by
        have := cntL_none h5 (y := y) (by omega)
        unfold cntL at *
        rw [List.countP_cons, this]
        simp; omega
      rw [e]; rfl
/-- Where those that are less end. -/
theorem cntL_at {m y : Int} {l : List Int} {a : Int} (h : Ris m a l) {k : Nat} (hk : k ≤ l.length) (h1 : ∀ j x, j < k → l[j]? = some x → x < y) (h2 : ∀ x, l[k]? = some x → y ≤ x) : cntL y l = k ∧ (y ∈ l ↔ l[k]? = some y) := by
  obtain ⟨b, hb, hd⟩ := h.drop k
  have hC : ∀ x ∈ l.drop k, y ≤ x := by
    cases hc : l.drop k with
    | nil => intro x hx; cases hx
    | cons c t =>
      rw [hc] at hd
      have e : l[k]? = some c := by
        have := congrArg (fun q => q[0]?) hc
        simpa using this
      have h3 := h2 c e
      intro x hx
      rcases List.mem_cons.1 hx with rfl | hx
      · exact h3
      · have := ris_mem hd.2 hx; omega
  have hA : ∀ x ∈ l.take k, x < y := by
    intro x hx
    obtain ⟨j, hj⟩ := List.getElem?_of_mem hx
    have hjk : j < k := by
      have := (List.getElem?_eq_some_iff.1 hj).1
      simp at this; omega
    rw [List.getElem?_take, if_pos hjk] at hj
    exact h1 j x hjk hj
  constructor
  · unfold cntL
    conv => lhs; rw [← List.take_append_drop k l]
    rw [List.countP_append]
    have e1 : (l.take k).countP (fun x => decide (x < y)) = (l.take k).length := List.countP_eq_length.2 fun x hx => by simpa using hA x hx
    have e2 : (l.drop k).countP (fun x => decide (x < y)) = 0 := List.countP_eq_zero.2 fun x hx => by
      have := hC x hx
      simp; omega
    rw [e1, e2]; simp; omega
  · constructor
    · intro hm
      rw [← List.take_append_drop k l, List.mem_append] at hm
      rcases hm with hm | hm
      · have := hA y hm; omega
      · cases hc : l.drop k with
        | nil => rw [hc] at hm; cases hm
        | cons c t =>
          rw [hc] at hm hd
          have e : l[k]? = some c := by
            have := congrArg (fun q => q[0]?) hc
            simpa using this
          rcases List.mem_cons.1 hm with rfl | hm
          · exact e
          · have h3 := h2 c e
            have := ris_mem hd.2 hm
            omega
    · exact fun h => List.mem_of_getElem? h

/-- What Put answers: the number, the row. -/
def pbE (y : Int) (l : List Int) : Int := if isK 20000 l = true ∧ 1 ≤ y ∧ y < 20000 then (if y ∈ l then 0 else if l.length = 60 then 70 else 0) else 12
def pbL (y : Int) (l : List Int) : List Int := if isK 20000 l = true ∧ 1 ≤ y ∧ y < 20000 then (if y ∈ l then l else if l.length = 60 then [] else insK y l) else []
theorem pb_bad {y : Int} {l : List Int} (h : ¬ (isK 20000 l = true ∧ 1 ≤ y ∧ y < 20000)) : pbE y l = 12 ∧ pbL y l = [] := ⟨if_neg h, if_neg h⟩
theorem pb_there {y : Int} {l : List Int} (h : isK 20000 l = true ∧ 1 ≤ y ∧ y < 20000) (hm : y ∈ l) : pbE y l = 0 ∧ pbL y l = l := by
  unfold pbE pbL
  rw [if_pos h, if_pos h, if_pos hm, if_pos hm]; exact ⟨rfl, rfl⟩
theorem pb_full {y : Int} {l : List Int} (h : isK 20000 l = true ∧ 1 ≤ y ∧ y < 20000) (hm : ¬ y ∈ l) (hl : l.length = 60) : pbE y l = 70 ∧ pbL y l = [] := by
  unfold pbE pbL
  rw [if_pos h, if_pos h, if_neg hm, if_neg hm, if_pos hl, if_pos hl]; exact ⟨rfl, rfl⟩
theorem pb_new {y : Int} {l : List Int} (h : isK 20000 l = true ∧ 1 ≤ y ∧ y < 20000) (hm : ¬ y ∈ l) (hl : ¬ l.length = 60) : pbE y l = 0 ∧ pbL y l = insK y l := by
  unfold pbE pbL
  rw [if_pos h, if_pos h, if_neg hm, if_neg hm, if_neg hl, if_neg hl]; exact ⟨rfl, rfl⟩
/-- What Take answers. -/
def tkE (y : Int) (l : List Int) : Int := if y ∈ l then 0 else 10
def tkL (y : Int) (l : List Int) : List Int := if y ∈ l then l.erase y else []
theorem erase_at {y : Int} : ∀ {l : List Int} {k : Nat}, (∀ j x, j < k → l[j]? = some x → x ≠ y) → l[k]? = some y → l.erase y = l.take k ++ l.drop (k + 1)
  | [], k, _, h => by simp at h
  | x :: l, 0, _, h => by
    simp at h
    subst h
    simp
  | x :: l, k + 1, h1, h => by
    have hx : x ≠ y := h1 0 x (by omega) rfl
    rw [List.erase_cons, if_neg (by simpa using hx), erase_at (k := k) (fun j z hj hz => h1 (j + 1) z (by omega) (by simpa using hz)) (by simpa using h)]
    simp
theorem erase_ris {m y : Int} : ∀ {l : List Int} {a : Int}, Ris m a l → Ris m a (l.erase y)
  | [], _, _ => trivial
  | x :: l, a, ⟨h1, h5⟩ => by
    rw [List.erase_cons]
    split
    · exact h5.low (by omega)
    · exact ⟨h1, erase_ris h5⟩
theorem erase_mem {m y z : Int} {l : List Int} {a : Int} (h : Ris m a l) : z ∈ l.erase y ↔ z ≠ y ∧ z ∈ l := by
  have hn : l.Nodup := (ris_pair h).imp fun h => Int.ne_of_lt h
  exact hn.mem_erase_iff
theorem erase_len {y : Int} {l : List Int} (h : y ∈ l) : (l.erase y).length + 1 = l.length := by
  rw [List.length_erase_of_mem h]
  have := List.length_pos_of_mem h
  omega
/-- What Line answers. -/
def lnK (y : Int) (l : List Int) : Nat := l.countP (fun x => decide (x ≤ y))

/-- Behind a delta: those that are above the one ahead and below the end. -/
def edK (n : Int) (f : Int → Int) : Int → List Int → List Int
  | _, [] => []
  | a, x :: l => if a < f x ∧ f x < n then f x :: edK n f (f x) l else edK n f a l
theorem edK_len (n : Int) (f : Int → Int) : ∀ (l : List Int) (a : Int), (edK n f a l).length ≤ l.length
  | [], _ => Nat.le_refl _
  | x :: l, a => by
    unfold edK
    split
    · have := edK_len n f l (f x); simp; omega
    · have := edK_len n f l a; simp; omega
/-- A step: one more is looked at. -/
theorem edK_push {n : Int} {f : Int → Int} {l M R : List Int} {a x : Int} {i : Nat} (h : R = M ++ edK n f a (l.drop i)) (hx : l[i]? = some x) (hc : a < f x ∧ f x < n) : R = (M ++ [f x]) ++ edK n f (f x) (l.drop (i + 1)) := by
  have hi := (List.getElem?_eq_some_iff.1 hx)
  obtain ⟨hi, e⟩ := hi
  rw [List.drop_eq_getElem_cons hi, e] at h
  rw [h]
  simp only [edK]
  rw [if_pos hc, List.append_assoc]; rfl
theorem edK_skip {n : Int} {f : Int → Int} {l M R : List Int} {a x : Int} {i : Nat} (h : R = M ++ edK n f a (l.drop i)) (hx : l[i]? = some x) (hc : ¬ (a < f x ∧ f x < n)) : R = M ++ edK n f a (l.drop (i + 1)) := by
  have hi := (List.getElem?_eq_some_iff.1 hx)
  obtain ⟨hi, e⟩ := hi
  rw [List.drop_eq_getElem_cons hi, e] at h
  rw [h]
  simp only [edK]
  rw [if_neg hc]
theorem edK_end {n : Int} {f : Int → Int} {l M R : List Int} {a : Int} {i : Nat} (h : R = M ++ edK n f a (l.drop i)) (hi : l.length ≤ i) : R = M := by
  rw [h, List.drop_eq_nil_of_le hi]; simp [edK]
theorem hld_mono {a b m : Int} (h : a ≤ b) : hld a m ≤ hld b m := by unfold hld; omega
theorem mvV_mono {base : Int} {es : List El} {x y : Int} (h : x ≤ y) : mvV base es x false ≤ mvV base es y false := by
  unfold mvV
  split
  · have := mvN_mono (hld_mono h (m := base)) (cel es)
    simp only [Bool.false_eq_true, if_false]
    omega
  · exact Int.le_refl _
/-- What Edit answers. -/
def ebE (base : Int) (es : List El) (l : List Int) : Int := if isB base es = true ∧ isK base l = true then 0 else 12
def ebL (base : Int) (es : List El) (l : List Int) : List Int := if isB base es = true ∧ isK base l = true then edK ((cel es).length : Nat) (fun x => mvV base es x false) 0 l else []
theorem eb_ok {base : Int} {es : List El} {l : List Int} (h : isB base es = true ∧ isK base l = true) : ebE base es l = 0 ∧ ebL base es l = edK ((cel es).length : Nat) (fun x => mvV base es x false) 0 l := ⟨if_pos h, if_pos h⟩
theorem eb_bad {base : Int} {es : List El} {l : List Int} (h : ¬ (isB base es = true ∧ isK base l = true)) : ebE base es l = 12 ∧ ebL base es l = [] := ⟨if_neg h, if_neg h⟩

/-- Where a text is broken: width w, at most k breaks more, n bytes in the line, p bytes ahead. -/
def wrL (w : Int) : Nat → Int → Int → List Int → List Int
  | _, _, _, [] => []
  | 0, n, p, c :: cs => if w < n + ((enc c).length : Nat) then [] else wrL w 0 (if c = 10 then 0 else n + ((enc c).length : Nat)) (p + ((enc c).length : Nat)) cs
  | k + 1, n, p, c :: cs => if w < n + ((enc c).length : Nat) then p :: wrL w k (if c = 10 then 0 else ((enc c).length : Nat)) (p + ((enc c).length : Nat)) cs else wrL w (k + 1) (if c = 10 then 0 else n + ((enc c).length : Nat)) (p + ((enc c).length : Nat)) cs
theorem wrL_zero (w : Int) : ∀ (cs : List Int) (n p : Int), wrL w 0 n p cs = []
  | [], _, _ => by simp [wrL]
  | c :: cs, n, p => by
    unfold wrL
    split
    · rfl
    · exact wrL_zero w cs _ _
theorem wrL_nil (w : Int) (k : Nat) (n p : Int) : wrL w k n p [] = [] := by cases k <;> simp [wrL]
theorem wrL_len (w : Int) : ∀ (cs : List Int) (k : Nat) (n p : Int), (wrL w k n p cs).length ≤ k
  | [], k, _, _ => by simp [wrL_nil]
  | c :: cs, 0, n, p => by simp [wrL_zero]
  | c :: cs, k + 1, n, p => by
    unfold wrL
    split
    · have := wrL_len w cs k (if c = 10 then 0 else ((enc c).length : Nat)) (p + ((enc c).length : Nat)); simp; omega
    · exact wrL_len w cs (k + 1) _ _
/-- A step that breaks, one that breaks no more, one that doesn't. -/
theorem wrL_break {w n p c : Int} {cs M R : List Int} {k : Nat} (h : R = M ++ wrL w k n p (c :: cs)) (hc : w < n + ((enc c).length : Nat)) (hk : k ≠ 0) : R = (M ++ [p]) ++ wrL w (k - 1) (if c = 10 then 0 else ((enc c).length : Nat)) (p + ((enc c).length : Nat)) cs := by
  obtain ⟨k, rfl⟩ : ∃ j, k = j + 1 := ⟨k - 1, by omega⟩
  rw [h]
  simp only [wrL]
  rw [if_pos hc, List.append_assoc]; rfl
theorem wrL_full {w n p c n' p' : Int} {cs M R : List Int} {k : Nat} (h : R = M ++ wrL w k n p (c :: cs)) (hk : k = 0) : R = M ∧ R = M ++ wrL w k n' p' cs := by
  subst hk
  rw [wrL_zero] at h
  rw [wrL_zero]
  simpa using h
theorem wrL_on {w n p c : Int} {cs M R : List Int} {k : Nat} (h : R = M ++ wrL w k n p (c :: cs)) (hc : ¬ w < n + ((enc c).length : Nat)) : R = M ++ wrL w k (if c = 10 then 0 else n + ((enc c).length : Nat)) (p + ((enc c).length : Nat)) cs := by
  rw [h]
  cases k with
  | zero => rw [wrL_zero, wrL_zero]
  | succ k => simp only [wrL]; rw [if_neg hc]
/-- What Wrap answers. -/
def wrE (w : Int) (T : List UInt8) : Int := if vld T = true ∧ 4 ≤ w then 0 else 12
def wrR (w : Int) (T : List UInt8) : List Int := if vld T = true ∧ 4 ≤ w then wrL w 60 0 0 (pts T) else []
theorem wr_ok {w : Int} {T : List UInt8} (h : vld T = true ∧ 4 ≤ w) : wrE w T = 0 ∧ wrR w T = wrL w 60 0 0 (pts T) := ⟨if_pos h, if_pos h⟩
theorem wr_bad {w : Int} {T : List UInt8} (h : ¬ (vld T = true ∧ 4 ≤ w)) : wrE w T = 12 ∧ wrR w T = [] := ⟨if_neg h, if_neg h⟩
theorem wrR_len (w : Int) (T : List UInt8) : (wrR w T).length ≤ 60 := by
  unfold wrR
  split
  · exact wrL_len _ _ _ _ _
  · simp
end Go.Proofs.YtafhogfbjklboaaDoor
