/- Rows of counts and their runs: plain mathematics. -/
import Derived.Below
namespace Go.Proofs.YtafhogfbjklboaaDoor
open Go.RowKit
set_option linter.unusedSimpArgs false
set_option linter.unusedVariables false

theorem Hid.mk7 {p : Prop} (h : p) : Hid p := h
/-- A run: how many places, how often. -/
abbrev Sg := Int × Int
/-- All places of a row of runs. -/
def xp : List Sg → List Int
  | [] => []
  | r :: rs => List.replicate r.1.toNat r.2 ++ xp rs
/-- Runs as few as there can be. -/
def Cn : List Sg → Prop
  | [] => True
  | r :: rs => 1 ≤ r.1 ∧ (∀ q, rs.head? = some q → q.2 ≠ r.2) ∧ Cn rs
def pushF (c : Int) : List Sg → List Sg
  | [] => [(1, c)]
  | r :: rs => if r.2 = c then (r.1 + 1, c) :: rs else (1, c) :: r :: rs
theorem pushF_cons (c : Int) (r : Sg) (rs : List Sg) : pushF c (r :: rs) = if r.2 = c then (r.1 + 1, c) :: rs else (1, c) :: r :: rs := rfl
/-- The runs of a row of counts. -/
def rle : List Int → List Sg
  | [] => []
  | c :: l => pushF c (rle l)
theorem xp_append (a b : List Sg) : xp (a ++ b) = xp a ++ xp b := by
  induction a with
  | nil => rfl
  | cons r a ih => simp [xp, ih]
theorem xp_one (r : Sg) : xp [r] = List.replicate r.1.toNat r.2 := by simp [xp]
theorem rle_rep (c : Int) (t : List Int) (rs : List Sg) (h : rle t = rs) (hc : ∀ q, rs.head? = some q → q.2 ≠ c) : ∀ m : Nat, rle (List.replicate (m + 1) c ++ t) = ((m : Int) + 1, c) :: rs
  | 0 => by
    show pushF c (rle t) = _
    rw [h]
    cases rs with
    | nil => rfl
    | cons r rs => simp [pushF, hc r rfl]
  | m + 1 => by
    rw [List.replicate_succ, List.cons_append]
    show pushF c (rle (List.replicate (m + 1) c ++ t)) = _
    rw [rle_rep c t rs h hc m]
    simp [pushF]
theorem rle_xp : ∀ {rs : List Sg}, Cn rs → rle (xp rs) = rs
  | [], _ => rfl
  | (m, c) :: rs, h => by
    obtain ⟨h1, h2, h3⟩ := h
    have e := rle_rep c (xp rs) rs (rle_xp h3) h2 (m.toNat - 1)
    simp only at h1
    rw [show m.toNat - 1 + 1 = m.toNat from by omega] at e
    show rle (List.replicate m.toNat c ++ xp rs) = _
    rw [e, show ((m.toNat - 1 : Nat) : Int) + 1 = m from by omega]
theorem cn_rle : ∀ l : List Int, Cn (rle l)
  | [] => trivial
  | c :: l => by
    have ih := cn_rle l
    show Cn (pushF c (rle l))
    cases h : rle l with
    | nil => exact ⟨by simp, by simp, trivial⟩
    | cons r rs =>
      rw [h] at ih
      rw [pushF_cons]
      by_cases e : r.2 = c
      · rw [if_pos e]
        exact ⟨by have := ih.1; simp only; omega, by simpa [e] using ih.2.1, ih.2.2⟩
      · rw [if_neg e]
        exact ⟨by simp, by simpa using e, ih⟩
theorem xp_rle : ∀ l : List Int, xp (rle l) = l
  | [] => rfl
  | c :: l => by
    have ih := xp_rle l
    have hc := cn_rle l
    show xp (pushF c (rle l)) = _
    cases h : rle l with
    | nil => rw [h] at ih; rw [← ih]; simp [pushF, xp]
    | cons r rs =>
      rw [h] at ih hc
      rw [pushF_cons]
      by_cases e : r.2 = c
      · rw [if_pos e]
        have h1 := hc.1
        rw [← ih]
        simp only [xp]
        rw [show (r.1 + 1).toNat = r.1.toNat + 1 from by omega, List.replicate_succ, e]
        rfl
      · rw [if_neg e]
        rw [← ih]
        simp [xp]
theorem rle_inj {a b : List Int} (h : rle a = rle b) : a = b := by rw [← xp_rle a, h, xp_rle]
theorem cn_append : ∀ (a b : List Sg), Cn (a ++ b) ↔ Cn a ∧ Cn b ∧ ∀ x y, a.getLast? = some x → b.head? = some y → y.2 ≠ x.2
  | [], b => by simp [Cn]
  | [r], b => by
    simp only [List.singleton_append, Cn]
    constructor
    · rintro ⟨h1, h2, h3⟩
      exact ⟨⟨h1, by simp, trivial⟩, h3, fun x y hx hy => by simp at hx; subst hx; exact h2 y hy⟩
    · rintro ⟨⟨h1, _, _⟩, h3, h4⟩
      exact ⟨h1, fun q hq => h4 r q (by simp) hq, h3⟩
  | r :: s :: a, b => by
    have ih := cn_append (s :: a) b
    show (1 ≤ r.1 ∧ (∀ q, ((s :: a) ++ b).head? = some q → q.2 ≠ r.2) ∧ Cn ((s :: a) ++ b)) ↔ (1 ≤ r.1 ∧ (∀ q, (s :: a).head? = some q → q.2 ≠ r.2) ∧ Cn (s :: a)) ∧ Cn b ∧ ∀ x y, (r :: s :: a).getLast? = some x → b.head? = some y → y.2 ≠ x.2
    rw [ih]
    simp only [List.cons_append, List.head?_cons, List.getLast?_cons_cons]
    constructor
    · rintro ⟨h1, h2, h3, h4, h5⟩; exact ⟨⟨h1, h2, h3⟩, h4, h5⟩
    · rintro ⟨⟨h1, h2, h3⟩, h4, h5⟩; exact ⟨h1, h2, h3, h4, h5⟩
theorem add_same {A : List Int} {rs : List Sg} {m c n : Int} (h : rle A = rs ++ [(m, c)]) (hn : 0 ≤ n) : rle (A ++ List.replicate n.toNat c) = rs ++ [(m + n, c)] := by
  have hc := cn_rle A
  rw [h, cn_append] at hc
  obtain ⟨h1, ⟨h2, _, _⟩, h3⟩ := hc
  simp only at h2
  have hC : Cn (rs ++ [(m + n, c)]) := (cn_append _ _).2 ⟨h1, ⟨by simp only; omega, by simp, trivial⟩, fun x y hx hy => by simp at hy; subst hy; exact h3 x (m, c) hx rfl⟩
  have e := rle_xp hC
  rw [← e]
  congr 1
  rw [← xp_rle A, h, xp_append, xp_append, xp_one, xp_one]
  simp only
  rw [List.append_assoc, List.replicate_append_replicate, show (m + n).toNat = m.toNat + n.toNat from by omega]
theorem add_other {A : List Int} {n c : Int} (h : ∀ x, (rle A).getLast? = some x → c ≠ x.2) (hn : 1 ≤ n) : rle (A ++ List.replicate n.toNat c) = rle A ++ [(n, c)] := by
  have hC : Cn (rle A ++ [(n, c)]) := (cn_append _ _).2 ⟨cn_rle A, ⟨hn, by simp, trivial⟩, fun x y hx hy => by simp at hy; subst hy; exact h x hx⟩
  have e := rle_xp hC
  rw [← e]
  congr 1
  rw [xp_append, xp_rle, xp_one]
theorem pushF_len (c : Int) (rs : List Sg) : (pushF c rs).length ≤ rs.length + 1 := by
  cases rs with
  | nil => simp [pushF]
  | cons r rs => rw [pushF_cons]; split <;> simp
theorem rle_len : ∀ l : List Int, (rle l).length ≤ l.length
  | [] => by simp [rle]
  | c :: l => by
    have := rle_len l
    have := pushF_len c (rle l)
    show (pushF c (rle l)).length ≤ _
    simp
    omega
theorem cn_mem : ∀ {rs : List Sg}, Cn rs → ∀ r ∈ rs, 1 ≤ r.1
  | [], _, r, h => by simp at h
  | q :: rs, h, r, hr => by
    rcases List.mem_cons.1 hr with rfl | hr
    · exact h.1
    · exact cn_mem h.2.2 r hr
theorem rle_pos {l : List Int} {r : Sg} (h : r ∈ rle l) : 1 ≤ r.1 := cn_mem (cn_rle l) r h
theorem mem_xp {rs : List Sg} {c : Int} : c ∈ xp rs → ∃ r ∈ rs, r.2 = c := by
  induction rs with
  | nil => intro h; simp [xp] at h
  | cons r rs ih =>
    intro h
    rcases List.mem_append.1 h with h | h
    · exact ⟨r, by simp, (List.eq_of_mem_replicate h).symm⟩
    · obtain ⟨q, hq, e⟩ := ih h
      exact ⟨q, by simp [hq], e⟩
theorem rle_mem {l : List Int} {r : Sg} (h : r ∈ rle l) : r.2 ∈ l := by
  rw [← xp_rle l]
  have hp := rle_pos h
  generalize rle l = rs at *
  induction rs with
  | nil => simp at h
  | cons q rs ih =>
    rcases List.mem_cons.1 h with rfl | h
    · exact List.mem_append.2 (Or.inl (List.mem_replicate.2 ⟨by omega, rfl⟩))
    · exact List.mem_append.2 (Or.inr (ih h))
theorem take_snoc7 {α : Type} {rs : List α} {k : Nat} {r : α} (h : rs[k]? = some r) : rs.take (k + 1) = rs.take k ++ [r] := by
  rw [List.take_add_one, h]; rfl
theorem xp_take {rs : List Sg} {k : Nat} {r : Sg} (h : rs[k]? = some r) : xp (rs.take (k + 1)) = xp (rs.take k) ++ List.replicate r.1.toNat r.2 := by
  rw [take_snoc7 h, xp_append, xp_one]
theorem xp_take_le (rs : List Sg) (k : Nat) : (xp (rs.take k)).length ≤ (xp rs).length := by
  have e := congrArg List.length (congrArg xp (List.take_append_drop k rs))
  rw [xp_append, List.length_append] at e
  omega
theorem xp_take_le2 {rs : List Sg} {k : Nat} {r : Sg} (h : rs[k]? = some r) : (xp (rs.take k)).length + r.1.toNat ≤ (xp rs).length := by
  have := xp_take_le rs (k + 1)
  rw [xp_take h, List.length_append, List.length_replicate] at this
  exact this
theorem xp_split {rs : List Sg} {k : Nat} {r : Sg} (h : rs[k]? = some r) : xp rs = xp (rs.take k) ++ (List.replicate r.1.toNat r.2 ++ xp (rs.drop (k + 1))) := by
  have e := congrArg xp (List.take_append_drop (k + 1) rs)
  rw [← e, xp_append, xp_take h, List.append_assoc]
/-- How many are above nothing. -/
def szc (l : List Int) : Nat := (l.filter fun c => decide (0 < c)).length
theorem szc_append (a b : List Int) : szc (a ++ b) = szc a + szc b := by simp [szc]
theorem szc_rep (n : Nat) (c : Int) : szc (List.replicate n c) = if 0 < c then n else 0 := by
  unfold szc
  by_cases h : 0 < c
  · rw [if_pos h, List.filter_eq_self.2 (fun a ha => by rw [List.eq_of_mem_replicate ha]; simpa using h)]; simp
  · rw [if_neg h, List.filter_eq_nil_iff.2 (fun a ha => by rw [List.eq_of_mem_replicate ha]; simpa using h)]; rfl
theorem szc_le (l : List Int) : szc l ≤ l.length := List.length_filter_le _ _
theorem szc_take {rs : List Sg} {k : Nat} {r : Sg} (h : rs[k]? = some r) : szc (xp (rs.take (k + 1))) = szc (xp (rs.take k)) + if 0 < r.2 then r.1.toNat else 0 := by
  rw [xp_take h, szc_append, szc_rep]
/-- A part of a row. -/
def cut (l : List Int) (a b : Nat) : List Int := (l.take b).drop a
theorem cut_length (l : List Int) (a b : Nat) (h : a ≤ b) (hb : b ≤ l.length) : (cut l a b).length = b - a := by simp [cut]; omega
theorem min_take (l : List Int) (i b : Nat) : (l.take i).take b = l.take (min i b) := by rw [List.take_take, Nat.min_comm]
/-- One run more of a part. -/
theorem cut_step (p rest : List Int) (n : Nat) (c : Int) (a b : Nat) : cut (p ++ (List.replicate n c ++ rest)) a (min b (p.length + n)) = cut (p ++ (List.replicate n c ++ rest)) a (min b p.length) ++ List.replicate (min b (p.length + n) - max a p.length) c := by
  unfold cut
  rw [← List.append_assoc]
  by_cases hb : b ≤ p.length
  · rw [Nat.min_eq_left (by omega : b ≤ p.length + n), Nat.min_eq_left hb, show b - max a p.length = 0 from by omega]
    simp
  · have e1 : min b p.length = p.length := by omega
    rw [e1]
    have e2 : ((p ++ List.replicate n c) ++ rest).take p.length = p := by rw [List.append_assoc, List.take_left' rfl]
    have e3 : ((p ++ List.replicate n c) ++ rest).take (min b (p.length + n)) = p ++ List.replicate (min b (p.length + n) - p.length) c := by
      rw [List.take_append_of_le_length (by simp; omega), List.take_append, List.take_of_length_le (by omega), List.take_replicate]
      congr 2
      omega
    rw [e2, e3]
    by_cases ha : a ≤ p.length
    · rw [List.drop_append_of_le_length ha, show max a p.length = p.length from by omega]
    · rw [List.drop_append, List.drop_of_length_le (by omega : p.length ≤ a), List.drop_replicate]
      simp
      omega
end Go.Proofs.YtafhogfbjklboaaDoor
