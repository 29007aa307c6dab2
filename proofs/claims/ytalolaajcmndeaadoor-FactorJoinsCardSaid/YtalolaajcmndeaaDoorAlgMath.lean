/- Two rows of counts place by place: plain mathematics. -/
import Derived.Test.YtalolaajcmndeaaDoorAlgTaken
namespace Go.Proofs.YtalolaajcmndeaaDoor
open Go.RowKit Go.Sort
set_option linter.unusedSimpArgs false
set_option linter.unusedVariables false

/-- Both rows by f; what f calls -1 is left out. -/
def tog (f : Int → Int → Int) (L M : List Int) : List Int := (List.zipWith f L M).filter fun c => decide (c ≠ -1)
theorem tog_nil (f : Int → Int → Int) : tog f [] [] = [] := rfl
theorem tog_append (f : Int → Int → Int) {A B C D : List Int} (h : A.length = B.length) : tog f (A ++ C) (B ++ D) = tog f A B ++ tog f C D := by
  unfold tog
  rw [List.zipWith_append h, List.filter_append]
theorem tog_rep (f : Int → Int → Int) (n : Nat) (a b : Int) : tog f (List.replicate n a) (List.replicate n b) = if f a b = -1 then [] else List.replicate n (f a b) := by
  unfold tog
  rw [List.zipWith_replicate, Nat.min_self]
  by_cases h : f a b = -1
  · rw [if_pos h, h, List.filter_eq_nil_iff]
    intro c hc
    rw [List.eq_of_mem_replicate hc]
    simp
  · rw [if_neg h, List.filter_eq_self]
    intro c hc
    rw [List.eq_of_mem_replicate hc]
    simpa using h
theorem tog_len (f : Int → Int → Int) (L M : List Int) : (tog f L M).length ≤ L.length := by
  unfold tog
  exact Nat.le_trans (List.length_filter_le _ _) (by rw [List.length_zipWith]; omega)
theorem tog_mem {f : Int → Int → Int} {L M : List Int} {c : Int} (h : c ∈ tog f L M) : ∃ a b, a ∈ L ∧ b ∈ M ∧ c = f a b ∧ c ≠ -1 := by
  unfold tog at h
  obtain ⟨h1, h2⟩ := List.mem_filter.1 h
  obtain ⟨i, hi, e⟩ := List.mem_iff_getElem.1 h1
  rw [List.getElem_zipWith] at e
  exact ⟨_, _, List.getElem_mem _, List.getElem_mem _, e.symm, by simpa using h2⟩
theorem xp_less {m c n : Int} {rs : List Sg} (hn : 0 ≤ n) (hm : n ≤ m) : xp (less m c n rs) = (xp ((m, c) :: rs)).drop n.toNat := by
  unfold less
  show _ = (List.replicate m.toNat c ++ xp rs).drop n.toNat
  rw [List.drop_append_of_le_length (by simp; omega), List.drop_replicate]
  split
  · subst_vars; simp
  · show List.replicate (m - n).toNat c ++ xp rs = _
    congr 2
    omega
theorem xp_first {m c n : Int} {rs : List Sg} (hn : 0 ≤ n) (hm : n ≤ m) : (xp ((m, c) :: rs)).take n.toNat = List.replicate n.toNat c := by
  show (List.replicate m.toNat c ++ xp rs).take n.toNat = _
  rw [List.take_append_of_le_length (by simp; omega), List.take_replicate]
  congr 1
  omega
theorem less_pos {m c n : Int} {rs : List Sg} (hn : n ≤ m) (h : ∀ r ∈ (m, c) :: rs, 1 ≤ r.1) : ∀ r ∈ less m c n rs, 1 ≤ r.1 := by
  intro r hr
  unfold less at hr
  split at hr
  · exact h r (List.mem_cons_of_mem _ hr)
  · rcases List.mem_cons.1 hr with rfl | hr
    · simp only; omega
    · exact h r (List.mem_cons_of_mem _ hr)
theorem less_len (m c n : Int) (rs : List Sg) : (less m c n rs).length ≤ rs.length + 1 ∧ (m = n → (less m c n rs).length = rs.length) := by
  unfold less
  split
  · exact ⟨by omega, fun _ => rfl⟩
  · exact ⟨by simp, fun h => absurd h (by assumption)⟩
theorem xp_part {m c n : Int} {rs : List Sg} (hn : 0 ≤ n) (hm : n ≤ m) : xp ((m, c) :: rs) = List.replicate n.toNat c ++ xp (less m c n rs) := by
  rw [xp_less hn hm, ← xp_first (rs := rs) (c := c) hn hm, List.take_append_drop]
/-- One piece of both rows. -/
theorem tog_part (f : Int → Int → Int) {m1 c1 m2 c2 n : Int} {xs ys : List Sg} (hn : 0 ≤ n) (h1 : n ≤ m1) (h2 : n ≤ m2) :
    tog f (xp ((m1, c1) :: xs)) (xp ((m2, c2) :: ys)) = (if f c1 c2 = -1 then [] else List.replicate n.toNat (f c1 c2)) ++ tog f (xp (less m1 c1 n xs)) (xp (less m2 c2 n ys)) := by
  rw [xp_part hn h1, xp_part hn h2, tog_append f (by simp), tog_rep]
theorem len_part {m c n : Int} {rs : List Sg} (hn : 0 ≤ n) (hm : n ≤ m) : (xp ((m, c) :: rs)).length = n.toNat + (xp (less m c n rs)).length := by
  rw [xp_part hn hm]; simp
theorem xp_head_in {m c : Int} {rs : List Sg} (hm : 1 ≤ m) : c ∈ xp ((m, c) :: rs) ∧ m.toNat ≤ (xp ((m, c) :: rs)).length := by
  constructor
  · exact List.mem_append.2 (Or.inl (List.mem_replicate.2 ⟨by simp only; omega, rfl⟩))
  · have e2 : (xp ((m, c) :: rs)).length = m.toNat + (xp rs).length := by simp [xp]
    omega
theorem xp_less_mem {m c n : Int} {rs : List Sg} (hn : 0 ≤ n) (hm : n ≤ m) {x : Int} (h : x ∈ xp (less m c n rs)) : x ∈ xp ((m, c) :: rs) := by
  rw [xp_part hn hm]; exact List.mem_append.2 (Or.inr h)
theorem xp_nil_of {rs : List Sg} (hp : ∀ r ∈ rs, 1 ≤ r.1) (h : xp rs = []) : rs = [] := by
  cases rs with
  | nil => rfl
  | cons r rs =>
    have := hp r (by simp)
    have e := congrArg List.length h
    simp [xp] at e
    omega
theorem xp_cons_of {rs : List Sg} (h : xp rs ≠ []) : ∃ m c qs, rs = (m, c) :: qs := by
  cases rs with
  | nil => exact absurd rfl h
  | cons r qs => exact ⟨r.1, r.2, qs, rfl⟩
/-- Counts that there can be, and not too many places. -/
def Ok8 (L : List Int) : Prop := L.length ≤ 20000 ∧ ∀ c ∈ L, 0 ≤ c ∧ c ≤ 100
theorem fm_rle {L : List Int} (h : ∀ c ∈ L, 0 ≤ c ∧ c ≤ 100) : Fm (rle L) := ⟨cn_rle L, fun r hr => h _ (rle_mem hr)⟩
/-- What Of tells of runs that are as few as can be. -/
def Out8 (O : List Int) (e : Ending) (w' : World) : Prop := (200 < (rle O).length ∧ e = .returned (.tuple #[.pointer none, .int .i64 70])) ∨ ((rle O).length ≤ 200 ∧ ∃ p, e = .returned (.tuple #[p, .int .i64 0]) ∧ Sub w' p O)
theorem of_any8 {w : World} {v : Value} {O : List Int} (h : SgAt w v (rle O)) (ho : Ok8 O) : Calls Tryd.prog 19 #[v] w fun e w' => Out8 O e w' ∧ Below w.heap.size w w' := by
  have hrl := rle_len O
  have hl := ho.1
  by_cases h2 : 200 < (rle O).length
  · refine (of_many h (by omega) (fm_rle ho.2) (Or.inl h2)).mono ?_
    rintro e w' ⟨rfl, b⟩
    exact ⟨Or.inl ⟨h2, rfl⟩, b⟩
  · refine (of_ok h (fm_rle ho.2) (by omega) (by rw [xp_rle]; exact hl)).mono ?_
    rintro e w' ⟨p, rfl, hs, b⟩
    rw [xp_rle] at hs
    exact ⟨Or.inr ⟨by omega, p, rfl, hs⟩, b⟩
set_option maxHeartbeats 800000 in
theorem segs_own {w : World} {p : Value} {L : List Int} (h : Sub w p L) (hl : L.length ≤ 1073741824) :
    Calls Tryd.prog 49 #[p] w fun e w' => ∃ v, e = .returned v ∧ Own w' w.heap.size v (rle L) ∧ Below w.heap.size w w' := by
  obtain ⟨b, v, rfl, hp, hrow⟩ := h
  have HC := Hid.mk7 (clone_any7 hrow (Nat.le_trans (rle_len L) hl))
  clear hrow
  go_enter Tryd.func49, Tryd.ntmps49
  go_wp2_with fail
  refine HC.out.mono ?_
  rintro e w1 ⟨v1, rfl, o1, b1⟩
  have H1 := Hid.mk7 o1
  clear o1
  go_wp2
  go_ret
  exact ⟨v1, rfl, H1.out, b1⟩
end Go.Proofs.YtalolaajcmndeaaDoor
