/- Plain mathematics of counts at places: what From and To answer where code points begin. -/
import Derived.Test.YthlmfmaiecmebaaDoorCountTo
namespace Go.Proofs.YthlmfmaiecmebaaDoor
open Go.RowKit Go.Sort

/-- An edge parts the text's numbers. -/
theorem edge_split {s : ByteArray} (hv : vld s.data.toList = true) {k : Nat} (he : edg s (k : Int) = true) : ∃ cs1 cs2, pts s.data.toList = cs1 ++ cs2 ∧ k = (flat cs1).length := by
  have hk := (edg_le s k he (by omega)).1
  have e := flat_pts' hv
  have hl : (flat (pts s.data.toList)).length = s.size := by rw [e]; rfl
  have hg := good_pts' s.data.toList
  rcases place_cases (pts s.data.toList) k (by omega) with ⟨cs1, cs2, h1, h2⟩ | ⟨cs1, c, cs2, j, h1, h2, h3, h4⟩
  · exact ⟨cs1, cs2, h1, h2⟩
  · exfalso
    rw [h1] at e hg
    have := edge_within (s := s) (cs1 := cs1) (c := c) (cs2 := cs2) (by rw [← e, flat_append]) (good_right hg).head j h3 h4
    rw [← h2, he] at this
    cases this

/-- Two edges, one not behind the other, part it in three. -/
theorem edges_split {s : ByteArray} (hv : vld s.data.toList = true) {x y : Nat} (hx : edg s (x : Int) = true) (hy : edg s (y : Int) = true) (h : x ≤ y) :
    ∃ cs1 mid cs3, pts s.data.toList = cs1 ++ (mid ++ cs3) ∧ x = (flat cs1).length ∧ y = (flat (cs1 ++ mid)).length := by
  obtain ⟨d1, d2, e1, e2⟩ := edge_split hv hy
  have e := flat_pts' hv
  have hg := good_pts' s.data.toList
  rcases place_cases d1 x (by omega) with ⟨cs1, mid, h1, h2⟩ | ⟨cs1, c, cs2, j, h1, h2, h3, h4⟩
  · exact ⟨cs1, mid, d2, by rw [e1, h1, List.append_assoc], h2, by rw [← h1]; exact e2⟩
  · exfalso
    rw [e1, h1, List.append_assoc, List.cons_append] at e hg
    have := edge_within (s := s) (cs1 := cs1) (c := c) (cs2 := cs2 ++ d2) (by rw [← e, flat_append]) (good_right hg).head j h3 h4
    rw [← h2, hx] at this
    cases this

theorem extract_head {s : ByteArray} {cs1 cs2 : List Int} (h : s.data.toList = flat cs1 ++ flat cs2) : (s.extract 0 (flat cs1).length).data.toList = flat cs1 := by
  rw [extract_bytes, List.drop_zero, Nat.sub_zero, h]
  exact List.take_left' rfl
theorem extract_mid {s : ByteArray} {cs1 mid cs3 : List Int} (h : s.data.toList = flat cs1 ++ (flat mid ++ flat cs3)) : (s.extract (flat cs1).length (flat (cs1 ++ mid)).length).data.toList = flat mid := by
  rw [extract_bytes, h, List.drop_left' rfl, flat_append, List.length_append, Nat.add_sub_cancel_left]
  exact List.take_left' rfl
theorem bytes_of_pts {s : ByteArray} (hv : vld s.data.toList = true) {cs1 cs2 : List Int} (h : pts s.data.toList = cs1 ++ cs2) : s.data.toList = flat cs1 ++ flat cs2 := by
  rw [← flat_append, ← h, flat_pts' hv]

/-- From, at an edge. -/
theorem fr_edge {s : ByteArray} (hv : vld s.data.toList = true) {cs1 cs2 : List Int} (h : pts s.data.toList = cs1 ++ cs2) (k : Nat) (hk : k ≤ 3) :
    frB s k ((flat cs1).length : Nat) = kG k cs1 ∧ frE s k ((flat cs1).length : Nat) = 0 := by
  have hg := good_pts' s.data.toList
  rw [h] at hg
  have hb := bytes_of_pts hv h
  have he := edge_start hb (good_left hg) (good_right hg)
  have hsz := split_size hb
  have hc : ctb s k = true := by unfold ctb; rw [hv, Bool.and_true]; simp; omega
  refine ⟨?_, ?_⟩
  · unfold frB
    rw [if_neg (by rw [hc]; simp), if_neg (by omega), if_neg (by rw [he]; simp), Int.toNat_natCast, extract_head hb, pts_flat' (good_left hg)]
  · unfold frE
    rw [if_neg (by rw [hc]; simp), if_neg (by omega), if_neg (by rw [he]; simp)]
/-- From, within a code point. -/
theorem fr_within {s : ByteArray} (hv : vld s.data.toList = true) {a : Nat} (ha : a ≤ s.size) (he : edg s (a : Int) = false) (k : Nat) (hk : k ≤ 3) :
    frB s k a = 0 ∧ frE s k a = 11 := by
  have hc : ctb s k = true := by unfold ctb; rw [hv, Bool.and_true]; simp; omega
  refine ⟨?_, ?_⟩
  · unfold frB
    rw [if_neg (by rw [hc]; simp), if_neg (by omega), if_pos he]
  · unfold frE
    rw [if_neg (by rw [hc]; simp), if_neg (by omega), if_pos he]
end Go.Proofs.YthlmfmaiecmebaaDoor
