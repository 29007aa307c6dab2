/- Plain mathematics of a text put together of lines. -/
import Derived.Test.YthlmfmaiecmebaaDoorCntTo
namespace Go.Proofs.YthlmfmaiecmebaaDoor
open Go.RowKit Go.Sort

/-- The numbers ahead of line i; of the first i lines. -/
def lnP (S : Nat → ByteArray) : Nat → List Int
  | 0 => []
  | i + 1 => lnP S i ++ (pts (S i).data.toList ++ [10])
def lnT (S : Nat → ByteArray) : Nat → List Int
  | 0 => []
  | i + 1 => lnP S i ++ pts (S i).data.toList
/-- A line: short, valid, without a line end. -/
def Lin (s : ByteArray) : Prop := s.size ≤ 20 ∧ vld s.data.toList = true ∧ ∀ i, i < s.size → byt s i ≠ 10

theorem lnP_succ (S : Nat → ByteArray) (i : Nat) : lnP S (i + 1) = lnT S (i + 1) ++ [10] := by
  show lnP S i ++ (_ ++ [10]) = (lnP S i ++ _) ++ [10]
  rw [List.append_assoc]
theorem good_ten : Good [10] := Good.cons (by unfold scalar; omega) good_nil
theorem lnP_good (S : Nat → ByteArray) : ∀ i, Good (lnP S i)
  | 0 => good_nil
  | i + 1 => (lnP_good S i).append ((good_pts' _).append good_ten)
theorem lnT_good (S : Nat → ByteArray) : ∀ i, Good (lnT S i)
  | 0 => good_nil
  | i + 1 => (lnP_good S i).append (good_pts' _)
theorem flat_ten : flat [10] = [10] := by decide
theorem lin_flat {s : ByteArray} (h : Lin s) : flat (pts s.data.toList) = s.data.toList := flat_pts' h.2.1
theorem lin_kL {s : ByteArray} (h : Lin s) : kL (pts s.data.toList) = 0 := by
  have key : ∀ c, c ∈ pts s.data.toList → c ≠ 10 := by
    intro c hc e
    subst e
    obtain ⟨a, b, hab⟩ := List.append_of_mem hc
    have hf := lin_flat h
    rw [hab, flat_append, flat_cons] at hf
    have hlt : (flat a).length < s.size := by
      rw [← bytes_length, ← hf, List.length_append, List.length_append]
      have := enc_length 10
      omega
    refine h.2.2 _ hlt ?_
    have := byt_bl s (flat a).length 0
    rw [Nat.add_zero] at this
    rw [this, ← hf, List.drop_left' rfl]
    rfl
  have : ∀ cs : List Int, (∀ c, c ∈ cs → c ≠ 10) → kL cs = 0 := by
    intro cs
    induction cs with
    | nil => intro _; rfl
    | cons c cs ih =>
      intro hh
      rw [kL_cons, ih (fun x hx => hh x (List.mem_cons_of_mem _ hx))]
      have := hh c (List.mem_cons_self ..)
      unfold ln
      rw [if_neg this]
      rfl
  exact this _ key
theorem lnP_kL (S : Nat → ByteArray) : ∀ k, (∀ j, j < k → Lin (S j)) → kL (lnP S k) = k
  | 0, _ => rfl
  | k + 1, h => by
    show kL (lnP S k ++ (pts (S k).data.toList ++ [10])) = _
    rw [kL_append, kL_append, lnP_kL S k (fun j hj => h j (by omega)), lin_kL (h k (by omega)), kL_one]
    show (k : Int) + (0 + 1) = _
    omega
theorem lnT_kL (S : Nat → ByteArray) (k : Nat) (h : ∀ j, j < k + 1 → Lin (S j)) : kL (lnT S (k + 1)) = k := by
  show kL (lnP S k ++ pts (S k).data.toList) = _
  rw [kL_append, lnP_kL S k (fun j hj => h j (by omega)), lin_kL (h k (by omega))]
  omega
theorem lnP_len (S : Nat → ByteArray) : ∀ k, (∀ j, j < k → Lin (S j)) → (flat (lnP S k)).length ≤ 21 * k
  | 0, _ => by simp [lnP, flat]
  | k + 1, h => by
    show (flat (lnP S k ++ (pts (S k).data.toList ++ [10]))).length ≤ _
    have h1 := lnP_len S k (fun j hj => h j (by omega))
    have h2 := h k (by omega)
    rw [flat_append, flat_append, List.length_append, List.length_append, lin_flat h2, flat_ten, bytes_length]
    have := h2.1
    simp
    omega
theorem lnT_len (S : Nat → ByteArray) (k : Nat) (h : ∀ j, j < k → Lin (S j)) : (flat (lnT S k)).length ≤ 21 * k := by
  cases k with
  | zero => simp [lnT, flat]
  | succ k =>
    have h1 := lnP_len S (k + 1) h
    rw [lnP_succ, flat_append, List.length_append] at h1
    omega
theorem lnT_split (S : Nat → ByteArray) (n : Nat) : ∀ d i, i + d + 1 = n → ∃ t, lnT S n = lnP S i ++ t
  | 0, i, h => ⟨pts (S i).data.toList, by rw [← h]; rfl⟩
  | d + 1, i, h => by
    obtain ⟨t, ht⟩ := lnT_split S n d (i + 1) (by omega)
    exact ⟨(pts (S i).data.toList ++ [10]) ++ t, by rw [ht]; show (lnP S i ++ _) ++ t = _; rw [List.append_assoc]⟩

/-- To and From at a line's beginning. -/
theorem line_to {s : ByteArray} {S : Nat → ByteArray} {n i : Nat} (hd : s.data.toList = flat (lnT S n)) (hL : ∀ j, j < n → Lin (S j)) (hi : i < n) :
    (toE s 3 i = 0 ∧ toB s 3 i = ((flat (lnP S i)).length : Nat)) ∧ frB s 3 ((flat (lnP S i)).length : Nat) = i ∧ frE s 3 ((flat (lnP S i)).length : Nat) = 0 := by
  have hv : vld s.data.toList = true := by rw [hd]; exact vld_flat (lnT_good S n)
  have hp : pts s.data.toList = lnT S n := by rw [hd]; exact pts_flat' (lnT_good S n)
  obtain ⟨t, ht⟩ := lnT_split S n (n - i - 1) i (by omega)
  have hk : kL (lnP S i) = i := lnP_kL S i (fun j hj => hL j (by omega))
  have hk' : kG 3 (lnP S i) = i := hk
  have hf := fr_edge hv (hp.trans ht) 3 (by omega)
  obtain ⟨e0, r, a, e1, e2, e3, _⟩ := to_edge hv (hp.trans ht) 3 (by omega)
  have e0' : toE s 3 (kG 3 (lnP S i)) = 0 := e0
  have e1' : toB s 3 (kG 3 (lnP S i)) = ((flat r).length : Nat) := e1
  have e3' : kG 3 r = kG 3 (lnP S i) := e3
  have hf1 : frB s 3 ((flat (lnP S i)).length : Nat) = kG 3 (lnP S i) := hf.1
  have hf2 : frE s 3 ((flat (lnP S i)).length : Nat) = 0 := hf.2
  rw [hk'] at e0' e1' e3' hf1
  refine ⟨⟨e0', ?_⟩, hf1, hf2⟩
  rw [e1']
  cases i with
  | zero =>
    have : r = [] := by
      have h0 : ([] : List Int) = r ++ a := e2
      exact (List.append_eq_nil_iff.1 h0.symm).1
    rw [this]; rfl
  | succ i =>
    rcases List.eq_nil_or_concat a with rfl | ⟨a', c, rfl⟩
    · rw [List.append_nil] at e2; rw [← e2]
    · exfalso
      rw [lnP_succ, List.concat_eq_append, ← List.append_assoc] at e2
      have hq := List.append_inj_left' e2 rfl
      have h1 : kL (lnT S (i + 1)) = i := lnT_kL S i (fun j hj => hL j (by omega))
      rw [hq, kL_append] at h1
      have h2 := (k_range a').2.2.2.1
      have h3 : kL r = ((i + 1 : Nat) : Int) := e3'
      omega
theorem line_none {s : ByteArray} {S : Nat → ByteArray} {n : Nat} (hd : s.data.toList = flat (lnT S (n + 1))) (hL : ∀ j, j < n + 1 → Lin (S j)) :
    toE s 3 (n + 1 : Nat) = 10 ∧ toB s 3 (n + 1 : Nat) = 0 := by
  have hv : vld s.data.toList = true := by rw [hd]; exact vld_flat (lnT_good S _)
  have hp : pts s.data.toList = lnT S (n + 1) := by rw [hd]; exact pts_flat' (lnT_good S _)
  have hk : kG 3 (lnT S (n + 1)) = n := lnT_kL S n hL
  have hct : ctb s 3 = true := by unfold ctb; rw [hv, Bool.and_true]; simp
  have ho : ((n + 1 : Nat) : Int) < 0 ∨ kG 3 (pts s.data.toList) < ((n + 1 : Nat) : Int) := by rw [hp, hk]; omega
  refine ⟨?_, ?_⟩
  · unfold toE
    rw [if_neg (by rw [hct]; simp), if_pos ho]
  · unfold toB
    rw [if_neg (by rw [hct]; simp), if_pos ho]
end Go.Proofs.YthlmfmaiecmebaaDoor
