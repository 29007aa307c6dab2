/- Exchanges in rows: runs exchanged, shifts, turns; two sorted parts made one. -/
import Derived.Test.YtfohfdldpanfaaaRows
import Derived.Sort.Lot0
import Derived.Sort.LotA
namespace Go.Proofs.Ytfohfdldpanfaaa
open Go.Sort
set_option linter.unusedSimpArgs false
set_option linter.unusedVariables false
set_option linter.unusedSectionVars false
section
variable {α : Type} [Inhabited α]

/-- n places from a on exchanged with those from b on. -/
def swr (d : Array α) (a b : Nat) : Nat → Array α
  | 0 => d
  | n + 1 => swp (swr d a b n) (a + n) (b + n)
theorem size_swr (d : Array α) (a b : Nat) : ∀ n, (swr d a b n).size = d.size
  | 0 => rfl
  | n + 1 => by rw [swr, size_swp, size_swr]
theorem swr_perm {d : Array α} {a b lo hi : Nat} (ha : lo ≤ a) (hb : lo ≤ b) (hs : hi ≤ d.size) : ∀ n, a + n ≤ hi → b + n ≤ hi → PermIn lo hi d (swr d a b n)
  | 0, _, _ => permIn_refl _ _ _
  | n + 1, h1, h2 => permIn_trans _ _ _ _ _ (swr_perm ha hb hs n (by omega) (by omega)) (swp_permIn _ _ _ _ _ (by omega) (by omega) (by omega) (by omega) (by rw [size_swr]; omega))
theorem swr_at {d : Array α} {a b : Nat} : ∀ n, a + n ≤ b → b + n ≤ d.size → ∀ k, (swr d a b n)[k]! = if a ≤ k ∧ k < a + n then d[k + (b - a)]! else if b ≤ k ∧ k < b + n then d[k - (b - a)]! else d[k]!
  | 0, _, _, k => by rw [if_neg (by omega), if_neg (by omega)]; rfl
  | n + 1, h1, h2, k => by
    have ih := swr_at (d := d) (a := a) (b := b) n (by omega) (by omega)
    have A : (swr d a b n)[a + n]! = d[a + n]! := by rw [ih, if_neg (by omega), if_neg (by omega)]
    have B : (swr d a b n)[b + n]! = d[b + n]! := by rw [ih, if_neg (by omega), if_neg (by omega)]
    rw [swr]
    by_cases e1 : k = b + n
    · rw [e1, swp_right _ _ _ (by rw [size_swr]; omega), A, if_neg (by omega), if_pos (by omega), show b + n - (b - a) = a + n from by omega]
    · by_cases e2 : k = a + n
      · rw [e2, swp_left _ _ _ (by rw [size_swr]; omega) (by omega), B, if_pos (by omega), show a + n + (b - a) = b + n from by omega]
      · rw [swp_other _ _ _ _ e2 e1, ih k]
        by_cases e3 : a ≤ k ∧ k < a + n
        · rw [if_pos e3, if_pos (by omega)]
        · rw [if_neg e3, if_neg (show ¬ (a ≤ k ∧ k < a + (n + 1)) by omega)]
          by_cases e4 : b ≤ k ∧ k < b + n
          · rw [if_pos e4, if_pos (by omega)]
          · rw [if_neg e4, if_neg (by omega)]
/-- What lay from m to b lies ahead of what lay from a to m. -/
structure Rot (a m b : Nat) (d d' : Array α) : Prop where
  perm : PermIn a b d d'
  lo : ∀ k, a ≤ k → k < a + (b - m) → d'[k]! = d[k + (m - a)]!
  hi : ∀ k, a + (b - m) ≤ k → k < b → d'[k]! = d[k - (b - m)]!
theorem Rot.size {a m b : Nat} {d d' : Array α} (h : Rot a m b d d') : d'.size = d.size := h.perm.1
theorem rot_left {d f : Array α} {m i j : Nat} (hi : i ≤ m) (hj : m + j ≤ d.size) (hij : j < i) (h : Rot (m - i + j) m (m + j) (swr d (m - i) m j) f) : Rot (m - i) m (m + j) d f := by
  have hp : PermIn (m - i) (m + j) d (swr d (m - i) m j) := swr_perm (Nat.le_refl _) (by omega) (by omega) j (by omega) (by omega)
  have ha := swr_at (d := d) (a := m - i) (b := m) j (by omega) (by omega)
  refine ⟨permIn_trans _ _ _ _ _ hp (permIn_mono _ _ _ _ _ _ (by omega) (Nat.le_refl _) (by rw [size_swr]; omega) h.perm), fun k h1 h2 => ?_, fun k h1 h2 => ?_⟩
  · rw [h.perm.2.1 k (by omega), ha, if_pos (by omega)]
  · by_cases e : k < m - i + j + j
    · rw [h.lo k (by omega) (by omega), ha, if_neg (by omega), if_pos (by omega)]; congr 1; omega
    · rw [h.hi k (by omega) (by omega), ha, if_neg (by omega), if_neg (by omega)]
theorem rot_right {d f : Array α} {m i j : Nat} (hi : i ≤ m) (hj : m + j ≤ d.size) (hij : i < j) (h : Rot (m - i) m (m + j - i) (swr d (m - i) (m + j - i) i) f) : Rot (m - i) m (m + j) d f := by
  have hp : PermIn (m - i) (m + j) d (swr d (m - i) (m + j - i) i) := swr_perm (Nat.le_refl _) (by omega) (by omega) i (by omega) (by omega)
  have ha := swr_at (d := d) (a := m - i) (b := m + j - i) i (by omega) (by omega)
  refine ⟨permIn_trans _ _ _ _ _ hp (permIn_mono _ _ _ _ _ _ (by omega) (by omega) (by rw [size_swr]; omega) h.perm), fun k h1 h2 => ?_, fun k h1 h2 => ?_⟩
  · by_cases e : k < m - i + (j - i)
    · rw [h.lo k (by omega) (by omega), ha, if_neg (by omega), if_neg (by omega)]
    · rw [h.hi k (by omega) (by omega), ha, if_pos (by omega)]; congr 1; omega
  · by_cases e : k < m + j - i
    · rw [h.hi k (by omega) (by omega), ha, if_pos (by omega)]; congr 1; omega
    · rw [h.perm.2.1 k (by omega), ha, if_neg (by omega), if_pos (by omega)]; congr 1; omega
theorem rot_even {d : Array α} {m i : Nat} (hi : i ≤ m) (hj : m + i ≤ d.size) : Rot (m - i) m (m + i) d (swr d (m - i) m i) := by
  have ha := swr_at (d := d) (a := m - i) (b := m) i (by omega) (by omega)
  refine ⟨swr_perm (Nat.le_refl _) (by omega) (by omega) i (by omega) (by omega), fun k h1 h2 => ?_, fun k h1 h2 => ?_⟩
  · rw [ha, if_pos (by omega)]
  · rw [ha, if_neg (by omega), if_pos (by omega)]; congr 1; omega
theorem rot_none {d : Array α} {a m b : Nat} (h : a = m ∨ m = b) (ha : a ≤ m) (hb : m ≤ b) : Rot a m b d d := by
  refine ⟨permIn_refl _ _ _, fun k h1 h2 => ?_, fun k h1 h2 => ?_⟩
  · congr 1; omega
  · congr 1; omega
/-- The first of n + 1 goes behind the others. -/
def shl (d : Array α) (a : Nat) : Nat → Array α
  | 0 => d
  | n + 1 => swp (shl d a n) (a + n) (a + n + 1)
theorem size_shl (d : Array α) (a : Nat) : ∀ n, (shl d a n).size = d.size
  | 0 => rfl
  | n + 1 => by rw [shl, size_swp, size_shl]
theorem shl_perm {d : Array α} {a hi : Nat} (hs : hi ≤ d.size) : ∀ n, a + n < hi → PermIn a hi d (shl d a n)
  | 0, _ => permIn_refl _ _ _
  | n + 1, h => permIn_trans _ _ _ _ _ (shl_perm hs n (by omega)) (swp_permIn _ _ _ _ _ (by omega) (by omega) (by omega) (by omega) (by rw [size_shl]; omega))
theorem shl_at {d : Array α} {a : Nat} : ∀ n, a + n < d.size → ∀ k, (shl d a n)[k]! = if k = a + n then d[a]! else if a ≤ k ∧ k < a + n then d[k + 1]! else d[k]!
  | 0, _, k => by
    by_cases e : k = a
    · rw [if_pos (by omega), e]; rfl
    · rw [if_neg (by omega), if_neg (by omega)]; rfl
  | n + 1, h, k => by
    have ih := shl_at (d := d) (a := a) n (by omega)
    have A : (shl d a n)[a + n]! = d[a]! := by rw [ih, if_pos rfl]
    have B : (shl d a n)[a + n + 1]! = d[a + n + 1]! := by rw [ih, if_neg (by omega), if_neg (by omega)]
    rw [shl]
    by_cases e1 : k = a + n + 1
    · rw [e1, swp_right _ _ _ (by rw [size_shl]; omega), A, if_pos (by omega)]
    · by_cases e2 : k = a + n
      · rw [e2, swp_left _ _ _ (by rw [size_shl]; omega) (by omega), B, if_neg (by omega), if_pos (by omega)]
      · rw [swp_other _ _ _ _ e2 e1, ih k, if_neg e2, if_neg (show ¬ k = a + (n + 1) from by omega)]
        by_cases e3 : a ≤ k ∧ k < a + n
        · rw [if_pos e3, if_pos (by omega)]
        · rw [if_neg e3, if_neg (by omega)]
/-- The last of n + 1 goes ahead of the others. -/
def shr (d : Array α) (m : Nat) : Nat → Array α
  | 0 => d
  | n + 1 => swp (shr d m n) (m - n) (m - n - 1)
theorem size_shr (d : Array α) (m : Nat) : ∀ n, (shr d m n).size = d.size
  | 0 => rfl
  | n + 1 => by rw [shr, size_swp, size_shr]
theorem shr_perm {d : Array α} {m lo : Nat} (hs : m < d.size) : ∀ n, lo + n ≤ m → PermIn lo (m + 1) d (shr d m n)
  | 0, _ => permIn_refl _ _ _
  | n + 1, h => permIn_trans _ _ _ _ _ (shr_perm hs n (by omega)) (swp_permIn _ _ _ _ _ (by omega) (by omega) (by omega) (by omega) (by rw [size_shr]; omega))
theorem shr_at {d : Array α} {m : Nat} (hm : m < d.size) : ∀ n, n ≤ m → ∀ k, (shr d m n)[k]! = if k = m - n then d[m]! else if m - n < k ∧ k ≤ m then d[k - 1]! else d[k]!
  | 0, _, k => by
    by_cases e : k = m
    · rw [if_pos (by omega), e]; rfl
    · rw [if_neg (by omega), if_neg (by omega)]; rfl
  | n + 1, h, k => by
    have ih := shr_at hm n (by omega)
    have A : (shr d m n)[m - n]! = d[m]! := by rw [ih, if_pos rfl]
    have B : (shr d m n)[m - n - 1]! = d[m - n - 1]! := by rw [ih, if_neg (by omega), if_neg (by omega)]
    rw [shr]
    by_cases e1 : k = m - n - 1
    · rw [e1, swp_right _ _ _ (by rw [size_shr]; omega), A, if_pos (by omega)]
    · by_cases e2 : k = m - n
      · rw [e2, swp_left _ _ _ (by rw [size_shr]; omega) (by omega), B, if_neg (by omega), if_pos (by omega)]
      · rw [swp_other _ _ _ _ e2 e1, ih k, if_neg e2, if_neg (show ¬ k = m - (n + 1) from by omega)]
        by_cases e3 : m - n < k ∧ k ≤ m
        · rw [if_pos e3, if_pos (by omega)]
        · rw [if_neg e3, if_neg (by omega)]
section
variable {lt : α → α → Bool} (hS : SWO lt)
include hS
theorem asym {x y : α} (h : lt x y = true) : lt y x = false := by
  cases e : lt y x with
  | false => rfl
  | true => have := hS.trans x y x h e; rw [hS.irrefl] at this; cases this
theorem SortedIn.to {a b : Nat} {d : Array α} (h : SortedIn lt a b d) {i j : Nat} (h1 : a ≤ i) (h2 : i ≤ j) (h3 : j < b) : lt d[j]! d[i]! = false := by
  rcases Nat.lt_or_eq_of_le h2 with h | h'
  · exact ‹SortedIn lt a b d› i j h1 h h3
  · subst h'; exact hS.irrefl _
theorem ins_left {d : Array α} {a b i : Nat} (hb : b ≤ d.size) (h : SortedIn lt (a + 1) b d) (hi : a + 1 ≤ i) (hib : i ≤ b) (h1 : i = a + 1 ∨ lt d[i - 1]! d[a]! = true) (h2 : i = b ∨ lt d[i]! d[a]! = false) (n : Nat) (hn : a + n + 1 = i) :
    SortedIn lt a b (shl d a n) := by
  have ha := shl_at (d := d) (a := a) n (by omega)
  intro p q hp hpq hq
  rw [ha p, ha q]
  by_cases e1 : q = a + n
  · rw [if_pos e1, if_neg (by omega), if_pos (by omega)]
    have := h1.resolve_left (by omega)
    exact hS.ntrans _ _ _ (asym hS this) (SortedIn.to hS h (by omega) (by omega) (by omega))
  · rw [if_neg e1]
    by_cases e2 : p = a + n
    · rw [if_pos e2, if_neg (by omega)]
      have := h2.resolve_left (by omega)
      exact hS.ntrans _ _ _ (SortedIn.to hS h (by omega) (by omega) (by omega)) this
    · rw [if_neg e2]
      by_cases e3 : q < a + n
      · rw [if_pos (by omega), if_pos (by omega)]; exact h _ _ (by omega) (by omega) (by omega)
      · rw [if_neg (by omega)]
        by_cases e4 : p < a + n
        · rw [if_pos (by omega)]; exact h _ _ (by omega) (by omega) (by omega)
        · rw [if_neg (by omega)]; exact h _ _ (by omega) (by omega) (by omega)
theorem ins_right {d : Array α} {a m i : Nat} (hb : m < d.size) (h : SortedIn lt a m d) (hi : a ≤ i) (him : i ≤ m) (h1 : i = a ∨ lt d[m]! d[i - 1]! = false) (h2 : i = m ∨ lt d[m]! d[i]! = true) (n : Nat) (hn : i + n = m) :
    SortedIn lt a (m + 1) (shr d m n) := by
  have ha := shr_at hb n (by omega)
  intro p q hp hpq hq
  rw [ha p, ha q]
  by_cases e1 : q = m - n
  · rw [if_pos e1, if_neg (by omega), if_neg (by omega)]
    have := h1.resolve_left (by omega)
    exact hS.ntrans _ _ _ this (SortedIn.to hS h (by omega) (by omega) (by omega))
  · rw [if_neg e1]
    by_cases e2 : p = m - n
    · rw [if_pos e2, if_pos (by omega)]
      have := h2.resolve_left (by omega)
      exact hS.ntrans _ _ _ (SortedIn.to hS h (show a ≤ i by omega) (by omega) (by omega)) (asym hS this)
    · rw [if_neg e2]
      by_cases e3 : m - n < p
      · rw [if_pos (by omega), if_pos (by omega)]; exact h _ _ (by omega) (by omega) (by omega)
      · rw [if_neg (show ¬ (m - n < p ∧ p ≤ m) by omega)]
        by_cases e4 : m - n < q
        · rw [if_pos (by omega)]; exact SortedIn.to hS h (by omega) (by omega) (by omega)
        · rw [if_neg (by omega)]; exact h _ _ (by omega) (by omega) (by omega)
/-- What symMerge's turn makes: four sorted parts, and what lies ahead of mid isn't above what lies behind it. -/
theorem turned {d f : Array α} {a m b mid s t : Nat} (hb : b ≤ d.size) (hl : SortedIn lt a m d) (hr : SortedIn lt m b d) (has : a ≤ s) (hsm : s ≤ m) (hmt : m ≤ t) (htb : t ≤ b) (hst : s + t = mid + m)
    (h1 : s = a ∨ t = b ∨ lt d[t]! d[s - 1]! = false) (h2 : s = m ∨ t = m ∨ lt d[t - 1]! d[s]! = true) (h : Rot s m t d f) :
    SortedIn lt a s f ∧ SortedIn lt s mid f ∧ SortedIn lt mid t f ∧ SortedIn lt t b f ∧ ∀ p q, a ≤ p → p < mid → mid ≤ q → q < b → lt f[q]! f[p]! = false := by
  have out := h.perm.2.1
  have hlo : ∀ k, s ≤ k → k < mid → f[k]! = d[k + (m - s)]! := fun k x y => h.lo k x (by omega)
  have hhi : ∀ k, mid ≤ k → k < t → f[k]! = d[k - (t - m)]! := fun k x y => h.hi k (by omega) y
  refine ⟨fun p q x y z => ?_, fun p q x y z => ?_, fun p q x y z => ?_, fun p q x y z => ?_, fun p q x y z u => ?_⟩
  · rw [out p (by omega), out q (by omega)]; exact hl _ _ x y (by omega)
  · rw [hlo p (by omega) (by omega), hlo q (by omega) (by omega)]; exact hr _ _ (by omega) (by omega) (by omega)
  · rw [hhi p (by omega) (by omega), hhi q (by omega) (by omega)]; exact hl _ _ (by omega) (by omega) (by omega)
  · rw [out p (by omega), out q (by omega)]; exact hr _ _ (by omega) y z
  · by_cases e1 : p < s
    · rw [out p (by omega)]
      by_cases e2 : q < t
      · rw [hhi q z e2]; exact hl _ _ x (by omega) (by omega)
      · rw [out q (by omega)]
        have e := (h1.resolve_left (by omega)).resolve_left (by omega)
        exact hS.ntrans _ _ _ (SortedIn.to hS hr (show m ≤ t by omega) (by omega) u) (hS.ntrans _ _ _ e (SortedIn.to hS hl x (by omega) (by omega)))
    · rw [hlo p (by omega) y]
      by_cases e2 : q < t
      · rw [hhi q z e2]
        have e := asym hS ((h2.resolve_left (by omega)).resolve_left (by omega))
        exact hS.ntrans _ _ _ (SortedIn.to hS hl (show a ≤ s by omega) (by omega) (by omega)) (hS.ntrans _ _ _ e (SortedIn.to hS hr (by omega) (by omega) (by omega)))
      · rw [out q (by omega)]; exact hr _ _ (by omega) (by omega) u
omit hS in
theorem sorted_to {d : Array α} {a b a' b' : Nat} (h : SortedIn lt a b d) (ha : a ≤ a') (hb : b' ≤ b) : SortedIn lt a' b' d := fun p q x y z => h p q (by omega) y (by omega)
omit hS in
theorem sorted_one {d : Array α} {a b : Nat} (h : b ≤ a + 1) : SortedIn lt a b d := fun p q x y z => by omega
omit hS in
theorem same_right {f e : Array α} {a mid t b : Nat} (h : PermIn a mid f e) (hm : mid ≤ t) (s : SortedIn lt t b f) : SortedIn lt t b e := fun p q x y z => by
  rw [h.2.1 p (by omega), h.2.1 q (by omega)]; exact s _ _ x y z
theorem two_sorted {d e f : Array α} {a mid b : Nat} (hb : b ≤ d.size) (ham : a ≤ mid) (hmb : mid ≤ b) (p1 : PermIn a mid d e) (p2 : PermIn mid b e f) (s1 : SortedIn lt a mid e) (s2 : SortedIn lt mid b f)
    (hc : ∀ p q, a ≤ p → p < mid → mid ≤ q → q < b → lt d[q]! d[p]! = false) : SortedIn lt a b f ∧ PermIn a b d f := by
  have z1 : e.size = d.size := p1.1
  have c1 : ∀ p q, a ≤ p → p < mid → mid ≤ q → q < b → lt e[q]! e[p]! = false := fun p q x y z u => by
    rw [p1.2.1 q (by omega)]
    exact permIn_all d e a mid (fun v => lt d[q]! v = false) (by omega) p1 (fun i hi hi2 => hc i q hi hi2 z u) p x y
  have c2 : ∀ p q, a ≤ p → p < mid → mid ≤ q → q < b → lt f[q]! f[p]! = false := fun p q x y z u => by
    rw [p2.2.1 p (by omega)]
    exact permIn_all e f mid b (fun v => lt v e[p]! = false) (by omega) p2 (fun i hi hi2 => c1 p i x y hi hi2) q z u
  refine ⟨fun p q x y z => ?_, permIn_trans _ _ _ _ _ (permIn_mono _ _ _ _ _ _ (Nat.le_refl _) hmb hb p1) (permIn_mono _ _ _ _ _ _ ham (Nat.le_refl _) (by omega) p2)⟩
  by_cases h1 : q < mid
  · rw [p2.2.1 p (by omega), p2.2.1 q (by omega)]; exact s1 _ _ x y h1
  · by_cases h2 : p < mid
    · exact c2 p q x h2 (by omega) z
    · exact s2 _ _ (by omega) y z
end
end
end Go.Proofs.Ytfohfdldpanfaaa
