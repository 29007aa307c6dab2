/- Plain mathematics of counts at places: what To answers there. -/
import Derived.Test.YthlmfmaiecmebaaDoorCntPlace
namespace Go.Proofs.YthlmfmaiecmebaaDoor
open Go.RowKit Go.Sort

theorem rch_split (k n : Int) : ∀ (rest acc : List Int), ∃ r1 r2, rest = r1 ++ r2 ∧ rch k n acc rest = acc ++ r1 ∧ (r2 = [] ∨ n ≤ kG k (acc ++ r1)) ∧ (r1 = [] ∨ ∃ q c, r1 = q ++ [c] ∧ kG k (acc ++ q) < n)
  | [], acc => ⟨[], [], rfl, by unfold rch; simp, Or.inl rfl, Or.inl rfl⟩
  | c :: cs, acc => by
    by_cases h : kG k acc < n
    · obtain ⟨r1, r2, e1, e2, e3, e4⟩ := rch_split k n cs (acc ++ [c])
      refine ⟨c :: r1, r2, by rw [e1]; rfl, ?_, ?_, Or.inr ?_⟩
      · conv => lhs; unfold rch
        rw [if_pos h, e2]; simp
      · rw [List.append_assoc] at e3; exact e3
      · rcases e4 with rfl | ⟨q, d, rfl, hq⟩
        · exact ⟨[], c, rfl, by rw [List.append_nil]; exact h⟩
        · exact ⟨c :: q, d, rfl, by rw [List.append_assoc] at hq; exact hq⟩
    · refine ⟨[], c :: cs, rfl, ?_, Or.inr (by rw [List.append_nil]; omega), Or.inl rfl⟩
      conv => lhs; unfold rch
      rw [if_neg h, List.append_nil]

theorem kG_pos (k : Nat) (hk : k ≤ 2) (c : Int) (cs : List Int) : 1 ≤ kG k (c :: cs) := by
  have e : kG k (c :: cs) = kG k [c] + kG k cs := by rw [← kG_append]; rfl
  have h1 := (kG_range k cs).1
  have h2 : 1 ≤ kG k [c] := by
    have a := enc_length c
    have b := un_range c
    have hk' : k = 0 ∨ k = 1 ∨ k = 2 := by omega
    rcases hk' with rfl | rfl | rfl
    · show 1 ≤ kB [c]; rw [kB_one]; omega
    · show 1 ≤ kP [c]; rw [kP_one]; omega
    · show 1 ≤ kU [c]; rw [kU_one]; omega
  omega

/-- How many there are up to an edge: how far one comes with that many. -/
theorem rch_edge (k : Int) {cs cs1 cs2 : List Int} (h : cs = cs1 ++ cs2) : ∃ r a, rch k (kG k cs1) [] cs = r ∧ cs1 = r ++ a ∧ kG k r = kG k cs1 ∧ (r = [] ∨ ∃ q c, r = q ++ [c] ∧ kG k q < kG k cs1) := by
  obtain ⟨r1, r2, e1, e2, e3, e4⟩ := rch_split k (kG k cs1) cs []
  simp only [List.nil_append] at e2 e3 e4
  have hh : r1 ++ r2 = cs1 ++ cs2 := by rw [← e1, h]
  rcases List.append_eq_append_iff.1 hh with ⟨a, ha, hb⟩ | ⟨a, ha, hb⟩
  · refine ⟨r1, a, e2, ha, ?_, e4⟩
    have h1 : kG k cs1 = kG k r1 + kG k a := by rw [ha, kG_append]
    have h2 := (kG_range k a).1
    rcases e3 with e3 | e3
    · rw [hb] at e3
      have : a = [] := (List.append_eq_nil_iff.1 e3).1
      rw [this, kG_nil] at h1
      omega
    · omega
  · rcases List.eq_nil_or_concat a with rfl | ⟨a', c, rfl⟩
    · rw [List.append_nil] at ha
      exact ⟨r1, [], e2, by rw [ha, List.append_nil], by rw [ha], e4⟩
    · exfalso
      rcases e4 with e4 | ⟨q, d, e4, hq⟩
      · rw [e4] at ha
        have := congrArg List.length ha
        simp at this
      · rw [List.concat_eq_append, ← List.append_assoc, e4] at ha
        have hqq := List.append_inj_left' ha rfl
        rw [hqq, kG_append] at hq
        have := (kG_range k a').1
        omega

/-- To, at the count of an edge. -/
theorem to_edge {s : ByteArray} (hv : vld s.data.toList = true) {cs1 cs2 : List Int} (h : pts s.data.toList = cs1 ++ cs2) (k : Nat) (hk : k ≤ 3) :
    toE s k (kG k cs1) = 0 ∧ ∃ r a, toB s k (kG k cs1) = ((flat r).length : Nat) ∧ cs1 = r ++ a ∧ kG k r = kG k cs1 ∧ (r = [] ∨ ∃ q c, r = q ++ [c] ∧ kG k q < kG k cs1) := by
  have hc : ctb s k = true := by unfold ctb; rw [hv, Bool.and_true]; simp; omega
  obtain ⟨r, a, e1, e2, e3, e4⟩ := rch_edge k h
  have hn : ¬ (kG k cs1 < 0 ∨ kG k (pts s.data.toList) < kG k cs1) := by
    have h1 := (kG_range k cs1).1
    have h2 := (kG_range k cs2).1
    rw [h, kG_append]
    omega
  refine ⟨?_, r, a, ?_, e2, e3, e4⟩
  · unfold toE
    rw [if_neg (by rw [hc]; simp), if_neg hn, e1, if_pos e3]
  · unfold toB
    rw [if_neg (by rw [hc]; simp), if_neg hn, e1, if_pos e3]
    rfl
theorem to_edge_same {s : ByteArray} (hv : vld s.data.toList = true) {cs1 cs2 : List Int} (h : pts s.data.toList = cs1 ++ cs2) (k : Nat) (hk : k ≤ 2) :
    toE s k (kG k cs1) = 0 ∧ toB s k (kG k cs1) = ((flat cs1).length : Nat) := by
  obtain ⟨e0, r, a, e1, e2, e3, _⟩ := to_edge hv h k (by omega)
  refine ⟨e0, ?_⟩
  cases a with
  | nil => rw [List.append_nil] at e2; rw [e1, e2]
  | cons c cs =>
    have := kG_pos k hk c cs
    rw [e2, kG_append] at e3
    omega
/-- To, of lines, at an edge: where that line begins. -/
theorem to_edge_lines {s : ByteArray} (hv : vld s.data.toList = true) {cs1 cs2 : List Int} (h : pts s.data.toList = cs1 ++ cs2) :
    toE s 3 (kG 3 cs1) = 0 ∧ ∃ b : Nat, toB s 3 (kG 3 cs1) = b ∧ b ≤ (flat cs1).length ∧ (b = 0 ∨ ∃ hb : b - 1 < s.size, 0 < b ∧ (s[b - 1]'hb).toNat = 10) := by
  obtain ⟨e0, r, a, e1, e2, e3, e4⟩ := to_edge hv h 3 (by omega)
  refine ⟨e0, (flat r).length, e1, by rw [e2, flat_append, List.length_append]; omega, ?_⟩
  rcases e4 with rfl | ⟨q, c, rfl, hq⟩
  · exact Or.inl rfl
  · right
    have hc : c = 10 := by
      have e : kG 3 (q ++ [c]) = kG 3 q + ln c := by rw [kG_append]; congr 1; show kL [c] = _; exact kL_one c
      have h2 : 0 < ln c := by
        have e3' : kG 3 (q ++ [c]) = kG 3 cs1 := e3
        have hq' : kG 3 q < kG 3 cs1 := hq
        omega
      unfold ln at h2
      split at h2
      · assumption
      · omega
    subst hc
    have hl : (flat (q ++ [10])).length = (flat q).length + 1 := by rw [flat_append, List.length_append]; rfl
    have hb := bytes_of_pts hv h
    rw [e2] at hb
    have hd : s.data.toList = flat q ++ ([10] ++ (flat a ++ flat cs2)) := by rw [hb, flat_append, flat_append]; simp [flat]; rfl
    have hsz : (flat q).length < s.size := by rw [← bytes_length, hd]; simp
    rw [hl]
    refine ⟨by omega, by omega, ?_⟩
    simp only [Nat.add_sub_cancel]
    have h3 : s.data.toList[(flat q).length]? = some 10 := by rw [hd]; simp
    rw [List.getElem?_eq_getElem (by rw [bytes_length]; exact hsz)] at h3
    have h4 := Option.some.inj h3
    have h5 : s[(flat q).length] = s.data.toList[(flat q).length]'(by rw [bytes_length]; exact hsz) := by
      simp [ByteArray.getElem_eq_getElem_data]
    rw [h5, h4]
    rfl
end Go.Proofs.YthlmfmaiecmebaaDoor
