/- Plain mathematics of counts at places: what From and To answer where code points begin. Plain mathematics of counts at places: what To answers there. Plain mathematics of counts in a part of a text. -/
import Derived.Test.YtfgefdkkjfjjjabGreatDoorCountTo
namespace Go.Proofs.YtfgefdkkjfjjjabGreatDoor
open Go.RowKit Go.Sort

/-- An edge parts the text's numbers. -/
theorem edge_split {s : ByteArray} (hv : vld s.data.toList = true) {k : Nat} (he : edg s (k : Int) = true) : ∃ cs1 cs2, pts s.data.toList = cs1 ++ cs2 ∧ k = (flat cs1).length := by
  have hk := (edg_le s k he (by omega)).1
  have e := flat_pts' hv
  have hl : (flat (pts s.data.toList)).length = s.size := by rw [e]; rfl
  have hg := good_pts' s.data.toList
  rcases place_cases (pts s.data.toList) k (by omega) with ⟨cs1, cs2, h1, h2⟩ | ⟨cs1, c, cs2, j, h1, h2, h3, h4⟩
  · exact ⟨cs1, cs2, h1, h2⟩
  · exfalso
    rw [h1] at e hg
    have := edge_within (s := s) (cs1 := cs1) (c := c) (cs2 := cs2) (by rw [← e, flat_append]) (good_right hg).head j h3 h4
    rw [← h2, he] at this
    cases this

/-- Two edges, one not behind the other, part it in three. -/
theorem edges_split {s : ByteArray} (hv : vld s.data.toList = true) {x y : Nat} (hx : edg s (x : Int) = true) (hy : edg s (y : Int) = true) (h : x ≤ y) :
    ∃ cs1 mid cs3, pts s.data.toList = cs1 ++ (mid ++ cs3) ∧ x = (flat cs1).length ∧ y = (flat (cs1 ++ mid)).length := by
  obtain ⟨d1, d2, e1, e2⟩ := edge_split hv hy
  have e := flat_pts' hv
  have hg := good_pts' s.data.toList
  rcases place_cases d1 x (by omega) with ⟨cs1, mid, h1, h2⟩ | ⟨cs1, c, cs2, j, h1, h2, h3, h4⟩
  · exact ⟨cs1, mid, d2, by rw [e1, h1, List.append_assoc], h2, by rw [← h1]; exact e2⟩
  · exfalso
    rw [e1, h1, List.append_assoc, List.cons_append] at e hg
    have := edge_within (s := s) (cs1 := cs1) (c := c) (cs2 := cs2 ++ d2) (by rw [← e, flat_append]) (good_right hg).head j h3 h4
    rw [← h2, hx] at this
    cases this

theorem extract_head {s : ByteArray} {cs1 cs2 : List Int} (h : s.data.toList = flat cs1 ++ flat cs2) : (s.extract 0 (flat cs1).length).data.toList = flat cs1 := by
  rw [extract_bytes, List.drop_zero, Nat.sub_zero, h]
  exact List.take_left' rfl
theorem extract_mid {s : ByteArray} {cs1 mid cs3 : List Int} (h : s.data.toList = flat cs1 ++ (flat mid ++ flat cs3)) : (s.extract (flat cs1).length (flat (cs1 ++ mid)).length).data.toList = flat mid := by
  rw [extract_bytes, h, List.drop_left' rfl, flat_append, List.length_append, Nat.add_sub_cancel_left]
  exact List.take_left' rfl
theorem bytes_of_pts {s : ByteArray} (hv : vld s.data.toList = true) {cs1 cs2 : List Int} (h : pts s.data.toList = cs1 ++ cs2) : s.data.toList = flat cs1 ++ flat cs2 := by
  rw [← flat_append, ← h, flat_pts' hv]

/-- From, at an edge. -/
theorem fr_edge {s : ByteArray} (hv : vld s.data.toList = true) {cs1 cs2 : List Int} (h : pts s.data.toList = cs1 ++ cs2) (k : Nat) (hk : k ≤ 3) :
    frB s k ((flat cs1).length : Nat) = kG k cs1 ∧ frE s k ((flat cs1).length : Nat) = 0 := by
  have hg := good_pts' s.data.toList
  rw [h] at hg
  have hb := bytes_of_pts hv h
  have he := edge_start hb (good_left hg) (good_right hg)
  have hsz := split_size hb
  have hc : ctb s k = true := by unfold ctb; rw [hv, Bool.and_true]; simp; omega
  refine ⟨?_, ?_⟩
  · unfold frB
    rw [if_neg (by rw [hc]; simp), if_neg (by omega), if_neg (by rw [he]; simp), Int.toNat_natCast, extract_head hb, pts_flat' (good_left hg)]
  · unfold frE
    rw [if_neg (by rw [hc]; simp), if_neg (by omega), if_neg (by rw [he]; simp)]
/-- From, within a code point. -/
theorem fr_within {s : ByteArray} (hv : vld s.data.toList = true) {a : Nat} (ha : a ≤ s.size) (he : edg s (a : Int) = false) (k : Nat) (hk : k ≤ 3) :
    frB s k a = 0 ∧ frE s k a = 11 := by
  have hc : ctb s k = true := by unfold ctb; rw [hv, Bool.and_true]; simp; omega
  refine ⟨?_, ?_⟩
  · unfold frB
    rw [if_neg (by rw [hc]; simp), if_neg (by omega), if_pos he]
  · unfold frE
    rw [if_neg (by rw [hc]; simp), if_neg (by omega), if_pos he]
end Go.Proofs.YtfgefdkkjfjjjabGreatDoor
namespace Go.Proofs.YtfgefdkkjfjjjabGreatDoor
open Go.RowKit Go.Sort

theorem rch_split (k n : Int) : ∀ (rest acc : List Int), ∃ r1 r2, rest = r1 ++ r2 ∧ rch k n acc rest = acc ++ r1 ∧ (r2 = [] ∨ n ≤ kG k (acc ++ r1)) ∧ (r1 = [] ∨ ∃ q c, r1 = q ++ [c] ∧ kG k (acc ++ q) < n)
  | [], acc => ⟨[], [], rfl, by unfold rch; simp, Or.inl rfl, Or.inl rfl⟩
  | c :: cs, acc => by
    by_cases h : kG k acc < n
    · obtain ⟨r1, r2, e1, e2, e3, e4⟩ := rch_split k n cs (acc ++ [c])
      refine ⟨c :: r1, r2, by rw [e1]; rfl, ?_, ?_, Or.inr ?_⟩
      · conv => lhs; unfold rch
        rw [if_pos h, e2]; simp
      · rw [List.append_assoc] at e3; exact e3
      · rcases e4 with rfl | ⟨q, d, rfl, hq⟩
        · exact ⟨[], c, rfl, by rw [List.append_nil]; exact h⟩
        · exact ⟨c :: q, d, rfl, by rw [List.append_assoc] at hq; exact hq⟩
    · refine ⟨[], c :: cs, rfl, ?_, Or.inr (by rw [List.append_nil]; omega), Or.inl rfl⟩
      conv => lhs; unfold rch
      rw [if_neg h, List.append_nil]

theorem kG_pos (k : Nat) (hk : k ≤ 2) (c : Int) (cs : List Int) : 1 ≤ kG k (c :: cs) := by
  have e : kG k (c :: cs) = kG k [c] + kG k cs := by rw [← kG_append]; rfl
  have h1 := (kG_range k cs).1
  have h2 : 1 ≤ kG k [c] := by
    have a := enc_length c
    have b := un_range c
    have hk' : k = 0 ∨ k = 1 ∨ k = 2 := by omega
    rcases hk' with rfl | rfl | rfl
    · show 1 ≤ kB [c]; rw [kB_one]; omega
    · show 1 ≤ kP [c]; rw [kP_one]; omega
    · show 1 ≤ kU [c]; rw [kU_one]; omega
  omega

/-- How many there are up to an edge: how far one comes with that many. -/
theorem rch_edge (k : Int) {cs cs1 cs2 : List Int} (h : cs = cs1 ++ cs2) : ∃ r a, rch k (kG k cs1) [] cs = r ∧ cs1 = r ++ a ∧ kG k r = kG k cs1 ∧ (r = [] ∨ ∃ q c, r = q ++ [c] ∧ kG k q < kG k cs1) := by
  obtain ⟨r1, r2, e1, e2, e3, e4⟩ := rch_split k (kG k cs1) cs []
  simp only [List.nil_append] at e2 e3 e4
  have hh : r1 ++ r2 = cs1 ++ cs2 := by rw [← e1, h]
  rcases List.append_eq_append_iff.1 hh with ⟨a, ha, hb⟩ | ⟨a, ha, hb⟩
  · refine ⟨r1, a, e2, ha, ?_, e4⟩
    have h1 : kG k cs1 = kG k r1 + kG k a := by rw [ha, kG_append]
    have h2 := (kG_range k a).1
    rcases e3 with e3 | e3
    · rw [hb] at e3
      have : a = [] := (List.append_eq_nil_iff.1 e3).1
      rw [this, kG_nil] at h1
      omega
    · omega
  · rcases List.eq_nil_or_concat a with rfl | ⟨a', c, rfl⟩
    · rw [List.append_nil] at ha
      exact ⟨r1, [], e2, by rw [ha, List.append_nil], by rw [ha], e4⟩
    · exfalso
      rcases e4 with e4 | ⟨q, d, e4, hq⟩
      · rw [e4] at ha
        have := congrArg List.length ha
        simp at this
      · rw [List.concat_eq_append, ← List.append_assoc, e4] at ha
        have hqq := List.append_inj_left' ha rfl
        rw [hqq, kG_append] at hq
        have := (kG_range k a').1
        omega

/-- To, at the count of an edge. -/
theorem to_edge {s : ByteArray} (hv : vld s.data.toList = true) {cs1 cs2 : List Int} (h : pts s.data.toList = cs1 ++ cs2) (k : Nat) (hk : k ≤ 3) :
    toE s k (kG k cs1) = 0 ∧ ∃ r a, toB s k (kG k cs1) = ((flat r).length : Nat) ∧ cs1 = r ++ a ∧ kG k r = kG k cs1 ∧ (r = [] ∨ ∃ q c, r = q ++ [c] ∧ kG k q < kG k cs1) := by
  have hc : ctb s k = true := by unfold ctb; rw [hv, Bool.and_true]; simp; omega
  obtain ⟨r, a, e1, e2, e3, e4⟩ := rch_edge k h
  have hn : ¬ (kG k cs1 < 0 ∨ kG k (pts s.data.toList) < kG k cs1) := by
    have h1 := (kG_range k cs1).1
    have h2 := (kG_range k cs2).1
    rw [h, kG_append]
    omega
  refine ⟨?_, r, a, ?_, e2, e3, e4⟩
  · unfold toE
    rw [if_neg (by rw [hc]; simp), if_neg hn, e1, if_pos e3]
  · unfold toB
    rw [if_neg (by rw [hc]; simp), if_neg hn, e1, if_pos e3]
    rfl
theorem to_edge_same {s : ByteArray} (hv : vld s.data.toList = true) {cs1 cs2 : List Int} (h : pts s.data.toList = cs1 ++ cs2) (k : Nat) (hk : k ≤ 2) :
    toE s k (kG k cs1) = 0 ∧ toB s k (kG k cs1) = ((flat cs1).length : Nat) := by
  obtain ⟨e0, r, a, e1, e2, e3, _⟩ := to_edge hv h k (by omega)
  refine ⟨e0, ?_⟩
  cases a with
  | nil => rw [List.append_nil] at e2; rw [e1, e2]
  | cons c cs =>
    have := kG_pos k hk c cs
    rw [e2, kG_append] at e3
    omega
/-- To, of lines, at an edge: where that line begins. -/
theorem to_edge_lines {s : ByteArray} (hv : vld s.data.toList = true) {cs1 cs2 : List Int} (h : pts s.data.toList = cs1 ++ cs2) :
    toE s 3 (kG 3 cs1) = 0 ∧ ∃ b : Nat, toB s 3 (kG 3 cs1) = b ∧ b ≤ (flat cs1).length ∧ (b = 0 ∨ ∃ hb : b - 1 < s.size, 0 < b ∧ (s[b - 1]'hb).toNat = 10) := by
  obtain ⟨e0, r, a, e1, e2, e3, e4⟩ := to_edge hv h 3 (by omega)
  refine ⟨e0, (flat r).length, e1, by rw [e2, flat_append, List.length_append]; omega, ?_⟩
  rcases e4 with rfl | ⟨q, c, rfl, hq⟩
  · exact Or.inl rfl
  · right
    have hc : c = 10 := by
      have e : kG 3 (q ++ [c]) = kG 3 q + ln c := by rw [kG_append]; congr 1; show kL [c] = _; exact kL_one c
      have h2 : 0 < ln c := by
        have e3' : kG 3 (q ++ [c]) = kG 3 cs1 := e3
        have hq' : kG 3 q < kG 3 cs1 := hq
        omega
      unfold ln at h2
      split at h2
      · assumption
      · omega
    subst hc
    have hl : (flat (q ++ [10])).length = (flat q).length + 1 := by rw [flat_append, List.length_append]; rfl
    have hb := bytes_of_pts hv h
    rw [e2] at hb
    have hd : s.data.toList = flat q ++ ([10] ++ (flat a ++ flat cs2)) := by rw [hb, flat_append, flat_append]; simp [flat]; rfl
    have hsz : (flat q).length < s.size := by rw [← bytes_length, hd]; simp
    rw [hl]
    refine ⟨by omega, by omega, ?_⟩
    simp only [Nat.add_sub_cancel]
    have h3 : s.data.toList[(flat q).length]? = some 10 := by rw [hd]; simp
    rw [List.getElem?_eq_getElem (by rw [bytes_length]; exact hsz)] at h3
    have h4 := Option.some.inj h3
    have h5 : s[(flat q).length] = s.data.toList[(flat q).length]'(by rw [bytes_length]; exact hsz) := by
      simp [ByteArray.getElem_eq_getElem_data]
    rw [h5, h4]
    rfl
end Go.Proofs.YtfgefdkkjfjjjabGreatDoor
namespace Go.Proofs.YtfgefdkkjfjjjabGreatDoor
open Go.RowKit Go.Sort

theorem rch_shift (k n : Int) (acc : List Int) : ∀ (cs x : List Int), rch k n (acc ++ x) cs = acc ++ rch k (n - kG k acc) x cs
  | [], x => by unfold rch; rfl
  | c :: cs, x => by
    have ih := rch_shift k n acc cs (x ++ [c])
    unfold rch
    rw [kG_append]
    by_cases h : kG k acc + kG k x < n
    · rw [if_pos h, if_pos (by omega), List.append_assoc, ih]
    · rw [if_neg h, if_neg (by omega)]
theorem rch_skip (k n : Int) : ∀ (a acc b : List Int), (a = [] ∨ kG k (acc ++ a) < n) → rch k n acc (a ++ b) = rch k n (acc ++ a) b
  | [], acc, b, _ => by simp
  | c :: a, acc, b, h => by
    have h1 : kG k (acc ++ c :: a) < n := by
      rcases h with h | h
      · cases h
      · exact h
    have h2 : kG k acc < n := by
      rw [kG_append] at h1
      have := (kG_range k (c :: a)).1
      omega
    have ih := rch_skip k n a (acc ++ [c]) b (Or.inr (by rw [List.append_assoc]; exact h1))
    rw [List.cons_append]
    conv => lhs; unfold rch
    rw [if_pos h2, ih, List.append_assoc]
    rfl
theorem rch_stop (k n : Int) : ∀ (b acc c : List Int), (c = [] ∨ n ≤ kG k (acc ++ b)) → rch k n acc (b ++ c) = rch k n acc b
  | [], acc, c, h => by
    rcases h with rfl | h
    · rfl
    · rw [List.append_nil] at h
      cases c with
      | nil => rfl
      | cons d ds =>
        rw [List.nil_append]
        unfold rch
        rw [if_neg (by omega)]
  | d :: b, acc, c, h => by
    have ih := rch_stop k n b (acc ++ [d]) c (by rw [List.append_assoc]; exact h)
    rw [List.cons_append]
    unfold rch
    by_cases h2 : kG k acc < n
    · rw [if_pos h2, if_pos h2, ih]
    · rw [if_neg h2, if_neg h2]
theorem rch_part (k n : Int) {a b c : List Int} (h1 : a = [] ∨ kG k a < n) (h2 : c = [] ∨ n ≤ kG k a + kG k b) : rch k n [] (a ++ (b ++ c)) = a ++ rch k (n - kG k a) [] b := by
  rw [rch_skip k n a [] (b ++ c) h1, List.nil_append, rch_stop k n b a c (by rw [kG_append]; exact h2)]
  have := rch_shift k n a b []
  rw [List.append_nil] at this
  exact this

/-- A row of bytes as a text. -/
abbrev tx (T : List UInt8) : ByteArray := ⟨T.toArray⟩
/-- The count of a kind, of bytes. -/
def kT (k : Int) (T : List UInt8) : Int := kG k (pts T)
theorem kT_append {a : List UInt8} (h : vld a = true) (k : Int) (b : List UInt8) : kT k (a ++ b) = kT k a + kT k b := by unfold kT; rw [pts_append h, kG_append]
theorem kT_nil (k : Int) : kT k [] = 0 := by unfold kT; rw [pts_nil, kG_nil]
theorem kT_nonneg (k : Int) (T : List UInt8) : 0 ≤ kT k T := (kG_range k _).1
theorem kT_none {k : Int} (h : k < 0 ∨ 3 < k) (T : List UInt8) : kT k T = 0 := by
  unfold kT kG get4
  rw [if_neg (by omega), if_neg (by omega), if_neg (by omega), if_neg (by omega)]
theorem kT_zero {T : List UInt8} (h : vld T = true) : kT 0 T = (T.length : Int) := by
  unfold kT kG get4
  rw [if_pos rfl, kB, flat_pts' h]
theorem ctb_valid {T : List UInt8} (h : vld T = true) (k : Int) : ctb (tx T) k = decide (0 ≤ k ∧ k ≤ 3) := by
  unfold ctb
  rw [show (tx T).data.toList = T from rfl, h, Bool.and_true]
theorem kT_le (T : List UInt8) (k : Int) : kT k T ≤ 4 * (T.length : Int) := by
  have h1 := (kG_range k (pts T)).2
  have h2 := pts_length T
  unfold kP at h1
  unfold kT
  omega
theorem to_part {A B C : List UInt8} (hA : vld A = true) (hB : vld B = true) (hC : vld C = true) (k n : Int) (h1 : A = [] ∨ kT k A < n) (h2 : C = [] ∨ n ≤ kT k A + kT k B) :
    toE (tx (A ++ (B ++ C))) k n = toE (tx B) k (n - kT k A) ∧ toB (tx (A ++ (B ++ C))) k n = if toE (tx B) k (n - kT k A) = 0 then (A.length : Int) + toB (tx B) k (n - kT k A) else 0 := by
  have hall : vld (A ++ (B ++ C)) = true := vld_append hA (vld_append hB hC)
  have ep : pts (A ++ (B ++ C)) = pts A ++ (pts B ++ pts C) := by rw [pts_append hA, pts_append hB]
  unfold toE toB
  rw [ctb_valid hall, ctb_valid hB, show (tx (A ++ (B ++ C))).data.toList = A ++ (B ++ C) from rfl, show (tx B).data.toList = B from rfl]
  by_cases hk : decide (0 ≤ k ∧ k ≤ 3) = false
  · rw [if_pos hk, if_pos hk, if_pos hk, if_neg (by decide)]
    exact ⟨rfl, rfl⟩
  · rw [if_neg hk, if_neg hk, if_neg hk, if_neg hk]
    have e3 : kG k (pts (A ++ (B ++ C))) = kT k A + (kT k B + kT k C) := by rw [ep, kG_append, kG_append]; rfl
    have nA := kT_nonneg k A
    have nB := kT_nonneg k B
    have nC := kT_nonneg k C
    have hcond : (n < 0 ∨ kG k (pts (A ++ (B ++ C))) < n) ↔ (n - kT k A < 0 ∨ kG k (pts B) < n - kT k A) := by
      rw [e3]
      change _ ↔ (_ ∨ kT k B < n - kT k A)
      have z1 : A = [] → kT k A = 0 := fun e => by rw [e, kT_nil]
      have z2 : C = [] → kT k C = 0 := fun e => by rw [e, kT_nil]
      constructor
      · rintro (h | h)
        · rcases h1 with h1 | h1
          · have := z1 h1; omega
          · omega
        · right
          rcases h2 with h2 | h2
          · have := z2 h2; omega
          · omega
      · rintro (h | h)
        · rcases h1 with h1 | h1
          · have := z1 h1; omega
          · omega
        · right
          rcases h2 with h2 | h2
          · have := z2 h2; omega
          · omega
    by_cases hc : n - kT k A < 0 ∨ kG k (pts B) < n - kT k A
    · rw [if_pos (hcond.2 hc), if_pos (hcond.2 hc), if_pos hc, if_neg (by decide)]
      exact ⟨rfl, rfl⟩
    · rw [if_neg (fun h => hc (hcond.1 h)), if_neg (fun h => hc (hcond.1 h)), if_neg hc, if_neg hc]
      have er : rch k n [] (pts (A ++ (B ++ C))) = pts A ++ rch k (n - kT k A) [] (pts B) := by
        rw [ep]
        refine rch_part k n ?_ ?_
        · rcases h1 with h1 | h1
          · exact Or.inl (by rw [h1, pts_nil])
          · exact Or.inr h1
        · rcases h2 with h2 | h2
          · exact Or.inl (by rw [h2, pts_nil])
          · exact Or.inr h2
      have ek : kG k (rch k n [] (pts (A ++ (B ++ C)))) = kT k A + kG k (rch k (n - kT k A) [] (pts B)) := by rw [er, kG_append]; rfl
      have eb : kB (rch k n [] (pts (A ++ (B ++ C)))) = (A.length : Int) + kB (rch k (n - kT k A) [] (pts B)) := by
        rw [er, kB_append]
        congr 1
        unfold kB
        rw [flat_pts' hA]
      rw [ek, eb]
      by_cases hq : kG k (rch k (n - kT k A) [] (pts B)) = n - kT k A
      · have e1 : kT k A + kG k (rch k (n - kT k A) [] (pts B)) = n := by omega
        simp only [if_pos e1, if_pos hq]
        exact ⟨trivial, rfl⟩
      · have e1 : ¬ (kT k A + kG k (rch k (n - kT k A) [] (pts B)) = n) := by omega
        simp only [if_neg e1, if_neg hq]
        refine ⟨trivial, ?_⟩
        by_cases h2 : k = 2
        · rw [if_pos h2, if_neg (by decide)]
        · rw [if_neg h2, if_neg (by decide)]
end Go.Proofs.YtfgefdkkjfjjjabGreatDoor
