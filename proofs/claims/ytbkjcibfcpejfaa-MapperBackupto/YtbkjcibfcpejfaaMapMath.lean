/- Places that are in a row of counts, that aren't, as intervals: plain mathematics. -/
import Derived.Test.YtbkjcibfcpejfaaSubMath
namespace Go.Proofs.Ytbkjcibfcpejfaa
open Go.RowKit
set_option linter.unusedSimpArgs false
set_option linter.unusedVariables false

theorem snoc_ind {α : Type} {P : List α → Prop} (h0 : P []) (h1 : ∀ l a, P l → P (l ++ [a])) (l : List α) : P l := by
  have h : ∀ l : List α, P l.reverse := fun l => by
    induction l with
    | nil => exact h0
    | cons a l ih => rw [List.reverse_cons]; exact h1 _ _ ih
  have := h l.reverse
  rwa [List.reverse_reverse] at this
/-- One interval more: joined to the last one, if it begins where that ends. -/
def ad (rs : List Sg) (f t : Int) : List Sg :=
  match rs.getLast? with
  | some r => if r.2 = f then rs.dropLast ++ [(r.1, t)] else rs ++ [(f, t)]
  | none => [(f, t)]
theorem ad_nil (f t : Int) : ad [] f t = [(f, t)] := rfl
theorem ad_same (rs : List Sg) (a f t : Int) : ad (rs ++ [(a, f)]) f t = rs ++ [(a, t)] := by simp [ad]
theorem ad_other (rs : List Sg) (a b f t : Int) (h : b ≠ f) : ad (rs ++ [(a, b)]) f t = rs ++ [(a, b)] ++ [(f, t)] := by simp [ad, h]
theorem ad_ad (rs : List Sg) (f t u : Int) : ad (ad rs f t) t u = ad rs f u := by
  rcases List.eq_nil_or_concat rs with rfl | ⟨qs, ⟨a, b⟩, rfl⟩
  · exact ad_same [] f t u
  · rw [List.concat_eq_append]
    by_cases h : b = f
    · subst h; rw [ad_same, ad_same, ad_same]
    · rw [ad_other _ _ _ _ _ h, ad_other _ _ _ _ _ h, ad_same]
theorem ad_len (rs : List Sg) (f t : Int) : (ad rs f t).length ≤ rs.length + 1 := by
  rcases List.eq_nil_or_concat rs with rfl | ⟨qs, ⟨a, b⟩, rfl⟩
  · simp [ad]
  · rw [List.concat_eq_append]
    by_cases h : b = f
    · subst h; rw [ad_same]; simp
    · rw [ad_other _ _ _ _ _ h]; simp
def rnS (b : Bool) (st : Nat × List Sg) (c : Int) : Nat × List Sg := (st.1 + 1, if decide (0 < c) = b then ad st.2 st.1 (st.1 + 1) else st.2)
/-- The intervals, as long as they can be, of places that are in a row (that aren't). -/
def rn (b : Bool) (L : List Int) : List Sg := (L.foldl (rnS b) (0, [])).2
theorem rn_nil (b : Bool) : rn b [] = [] := rfl
theorem rn_fst (b : Bool) (L : List Int) : (L.foldl (rnS b) (0, [])).1 = L.length := by
  induction L using snoc_ind with
  | h0 => rfl
  | h1 l a ih =>
    rw [List.foldl_append, List.length_append]
    show (List.foldl (rnS b) (0, []) l).1 + 1 = _
    rw [ih]; rfl
theorem rn_snoc (b : Bool) (L : List Int) (c : Int) : rn b (L ++ [c]) = if decide (0 < c) = b then ad (rn b L) L.length (L.length + 1) else rn b L := by
  unfold rn
  rw [List.foldl_append]
  show (if decide (0 < c) = b then ad _ ((L.foldl (rnS b) (0, [])).1 : Nat) (((L.foldl (rnS b) (0, [])).1 : Nat) + 1) else _) = _
  rw [rn_fst b L]
theorem rn_in {b : Bool} (L : List Int) {c : Int} (h : decide (0 < c) = b) : rn b (L ++ [c]) = ad (rn b L) L.length (L.length + 1) := by rw [rn_snoc, if_pos h]
theorem rn_out {b : Bool} (L : List Int) {c : Int} (h : decide (0 < c) ≠ b) : rn b (L ++ [c]) = rn b L := by rw [rn_snoc, if_neg h]
theorem rep_snoc (n : Nat) (c : Int) : List.replicate (n + 1) c = List.replicate n c ++ [c] := List.replicate_succ'
theorem rn_rep_out {b : Bool} (L : List Int) {c : Int} (h : decide (0 < c) ≠ b) : ∀ n : Nat, rn b (L ++ List.replicate n c) = rn b L
  | 0 => by simp
  | n + 1 => by rw [rep_snoc, ← List.append_assoc, rn_out _ h, rn_rep_out L h n]
theorem rn_rep_in {b : Bool} (L : List Int) {c : Int} (h : decide (0 < c) = b) : ∀ n : Nat, rn b (L ++ List.replicate (n + 1) c) = ad (rn b L) L.length (L.length + ((n : Int) + 1))
  | 0 => by rw [rep_snoc, List.replicate_zero, List.nil_append, rn_in _ h]; simp
  | n + 1 => by
    rw [rep_snoc, ← List.append_assoc, rn_in _ h, rn_rep_in L h n, List.length_append, List.length_replicate]
    rw [show (((L.length + (n + 1) : Nat) : Int)) = L.length + ((n : Int) + 1) from by omega, ad_ad, show ((n + 1 : Nat) : Int) = (n : Int) + 1 from by omega, Int.add_assoc]
/-- One run of places more. -/
theorem rn_run_in {b : Bool} (L : List Int) {n c : Int} (h : decide (0 < c) = b) (hn : 1 ≤ n) : rn b (L ++ List.replicate n.toNat c) = ad (rn b L) L.length (L.length + n) := by
  have := rn_rep_in L h (n.toNat - 1)
  rw [show n.toNat - 1 + 1 = n.toNat from by omega, show (((n.toNat - 1 : Nat) : Int) + 1) = n from by omega] at this
  exact this
theorem ad_mem {rs : List Sg} {f t : Int} {r : Sg} (h : r ∈ ad rs f t) : r ∈ rs ∨ r = (f, t) ∨ ∃ a, (a, f) ∈ rs ∧ r = (a, t) := by
  rcases List.eq_nil_or_concat rs with rfl | ⟨qs, ⟨a, b⟩, rfl⟩
  · rw [ad_nil] at h; exact Or.inr (Or.inl (by simpa using h))
  · rw [List.concat_eq_append] at *
    by_cases e : b = f
    · subst e
      rw [ad_same] at h
      rcases List.mem_append.1 h with h | h
      · exact Or.inl (List.mem_append.2 (Or.inl h))
      · exact Or.inr (Or.inr ⟨a, by simp, by simpa using h⟩)
    · rw [ad_other _ _ _ _ _ e] at h
      rcases List.mem_append.1 h with h | h
      · exact Or.inl h
      · exact Or.inr (Or.inl (by simpa using h))
theorem rn_wf (b : Bool) (L : List Int) : ∀ r ∈ rn b L, 0 ≤ r.1 ∧ r.1 < r.2 ∧ r.2 ≤ L.length := by
  induction L using snoc_ind with
  | h0 => intro r hr; simp [rn_nil] at hr
  | h1 l a ih =>
    intro r hr
    rw [rn_snoc] at hr
    rw [List.length_append, List.length_singleton]
    split at hr
    · rcases ad_mem hr with h | rfl | ⟨a, h, rfl⟩
      · have := ih r h; omega
      · simp only; omega
      · have := ih _ h; simp only at *; omega
    · have := ih r hr; omega
theorem rn_len (b : Bool) (L : List Int) : (rn b L).length ≤ L.length := by
  induction L using snoc_ind with
  | h0 => simp [rn_nil]
  | h1 l a ih =>
    rw [rn_snoc, List.length_append, List.length_singleton]
    split
    · have := ad_len (rn b l) l.length (l.length + 1); omega
    · omega
theorem rn_runs (b : Bool) (rs : List Sg) : (∀ r ∈ rs, 1 ≤ r.1) → (rn b (xp rs)).length ≤ rs.length := by
  induction rs using snoc_ind with
  | h0 => intro _; simp [xp, rn_nil]
  | h1 rs r ih =>
    intro hp
    have h1 := ih (fun q hq => hp q (List.mem_append.2 (Or.inl hq)))
    have h2 := hp r (by simp)
    rw [xp_append, xp_one, List.length_append, List.length_singleton]
    by_cases e : decide (0 < r.2) = b
    · rw [rn_run_in _ e h2]
      have := ad_len (rn b (xp rs)) (xp rs).length ((xp rs).length + r.1)
      omega
    · rw [rn_rep_out _ e]; omega
/-- The places that aren't in it. -/
def zs (L : List Int) : List Nat := (List.range L.length).filter fun i => !decide (0 < L[i]?.getD 0)
theorem zs_nil : zs [] = [] := rfl
theorem zs_snoc (L : List Int) (c : Int) : zs (L ++ [c]) = zs L ++ if 0 < c then [] else [L.length] := by
  unfold zs
  rw [List.length_append, List.length_singleton, List.range_succ, List.filter_append]
  congr 1
  · refine List.filter_congr fun i hi => ?_
    rw [List.getElem?_append_left (List.mem_range.1 hi)]
  · rw [List.filter_cons, List.getElem?_append_right (Nat.le_refl _), Nat.sub_self]
    by_cases h : 0 < c
    · simp [h]
    · simp [h]
theorem mem_zs {L : List Int} {i : Nat} : i ∈ zs L ↔ i < L.length ∧ ¬ 0 < L[i]?.getD 0 := by simp [zs]
theorem zs_lt {L : List Int} {i : Nat} (h : i ∈ zs L) : i < L.length := (mem_zs.1 h).1
theorem zs_append (A B : List Int) : zs (A ++ B) = zs A ++ (zs B).map (· + A.length) := by
  induction B using snoc_ind with
  | h0 => simp [zs_nil]
  | h1 l a ih =>
    rw [← List.append_assoc, zs_snoc, ih, zs_snoc, List.map_append, List.append_assoc]
    congr 2
    split <;> simp [Nat.add_comm]
theorem zs_sorted (L : List Int) : (zs L).Pairwise (· < ·) := List.Pairwise.filter _ List.pairwise_lt_range
theorem zs_take_succ {L : List Int} {k : Nat} {c : Int} (h : L[k]? = some c) : zs (L.take (k + 1)) = zs (L.take k) ++ if 0 < c then [] else [k] := by
  have hk := (List.getElem?_eq_some_iff.1 h).1
  rw [take_snoc7 h, zs_snoc, List.length_take, Nat.min_eq_left (by omega)]
theorem zs_take_rest (L : List Int) (k : Nat) (hk : k ≤ L.length) : zs L = zs (L.take k) ++ (zs (L.drop k)).map (· + k) := by
  have := zs_append (L.take k) (L.drop k)
  rw [List.take_append_drop, List.length_take, Nat.min_eq_left hk] at this
  exact this
theorem zs_split {L : List Int} {k : Nat} {c : Int} (h : L[k]? = some c) (hc : ¬ 0 < c) : ∃ T, zs L = zs (L.take k) ++ k :: T := by
  have hk := (List.getElem?_eq_some_iff.1 h).1
  have e := zs_take_rest L (k + 1) (by omega)
  rw [zs_take_succ h, if_neg hc, List.append_assoc] at e
  exact ⟨_, e⟩
theorem zs_size (L : List Int) : (zs L).length + szc L = L.length := by
  induction L using snoc_ind with
  | h0 => rfl
  | h1 l a ih =>
    have e : szc [a] = if 0 < a then 1 else 0 := szc_rep 1 a
    rw [zs_snoc, szc_append, List.length_append, List.length_append, e]
    split
    · simp; omega
    · simp; omega
/-- All places of these intervals. -/
def fl9 (rs : List Sg) : List Nat := rs.flatMap fun r => List.range' r.1.toNat (r.2 - r.1).toNat
theorem fl9_append (a b : List Sg) : fl9 (a ++ b) = fl9 a ++ fl9 b := by simp [fl9]
theorem fl9_one (r : Sg) : fl9 [r] = List.range' r.1.toNat (r.2 - r.1).toNat := by simp [fl9]
theorem fl9_ad (rs : List Sg) (f t : Int) (hw : ∀ r ∈ rs, 0 ≤ r.1 ∧ r.1 < r.2) (h0 : 0 ≤ f) (h1 : f < t) : fl9 (ad rs f t) = fl9 rs ++ List.range' f.toNat (t - f).toNat := by
  rcases List.eq_nil_or_concat rs with rfl | ⟨qs, ⟨a, b⟩, rfl⟩
  · rw [ad_nil, fl9_one]; rfl
  · rw [List.concat_eq_append] at *
    by_cases e : b = f
    · subst e
      have := hw (a, b) (by simp)
      simp only at this
      rw [ad_same, fl9_append, fl9_append, fl9_one, fl9_one, List.append_assoc]
      congr 1
      simp only
      have e := List.range'_append_1 (s := a.toNat) (m := (b - a).toNat) (n := (t - b).toNat)
      rw [show a.toNat + (b - a).toNat = b.toNat from by omega] at e
      rw [e]
      congr 1
      omega
    · rw [ad_other _ _ _ _ _ e, fl9_append, fl9_one]
theorem fl9_rn (L : List Int) : fl9 (rn false L) = zs L := by
  induction L using snoc_ind with
  | h0 => rfl
  | h1 l a ih =>
    rw [rn_snoc, zs_snoc]
    by_cases h : 0 < a
    · rw [if_neg (by simpa using h), if_pos h, ih, List.append_nil]
    · rw [if_pos (by simpa using h), if_neg h, fl9_ad _ _ _ (fun r hr => ⟨(rn_wf _ _ r hr).1, (rn_wf _ _ r hr).2.1⟩) (by omega) (by omega), ih]
      congr 1
      rw [Int.toNat_natCast, show ((l.length : Int) + 1 - l.length).toNat = 1 from by omega]
      rfl
theorem fl9_take {rs : List Sg} {k : Nat} {r : Sg} (h : rs[k]? = some r) : fl9 (rs.take (k + 1)) = fl9 (rs.take k) ++ List.range' r.1.toNat (r.2 - r.1).toNat := by rw [take_snoc7 h, fl9_append, fl9_one]
theorem fl9_split {rs : List Sg} {k : Nat} {r : Sg} (h : rs[k]? = some r) : fl9 rs = fl9 (rs.take k) ++ (List.range' r.1.toNat (r.2 - r.1).toNat ++ fl9 (rs.drop (k + 1))) := by
  have e := congrArg fl9 (List.take_append_drop (k + 1) rs)
  rw [← e, fl9_append, fl9_take h, List.append_assoc]
theorem fl9_take_le (rs : List Sg) (k : Nat) : (fl9 (rs.take k)).length ≤ (fl9 rs).length := by
  have e := congrArg List.length (congrArg fl9 (List.take_append_drop k rs))
  rw [fl9_append, List.length_append] at e
  omega
theorem fl9_bound (L : List Int) (k : Nat) : (fl9 ((rn false L).take k)).length ≤ L.length := by
  have h1 := fl9_take_le (rn false L) k
  rw [fl9_rn] at h1
  have := zs_size L
  omega
/-- How many places ahead aren't in it. -/
def dn (L : List Int) (at' : Int) : Nat := (zs L).countP fun i : Nat => decide ((i : Int) < at')
/-- Which is the how-manieth. -/
def up (L : List Int) (at' : Int) : Nat := (zs L)[at'.toNat]?.getD L.length
/-- Which comes next. -/
def nx (L : List Int) (at' : Int) : Nat := ((zs L).find? fun i : Nat => decide (at' ≤ (i : Int))).getD L.length
theorem cnt_range (f m A : Nat) : (List.range' f m).countP (fun i : Nat => decide ((i : Int) < (A : Int))) = min A (f + m) - f := by
  induction m with
  | zero => simp; omega
  | succ m ih =>
    rw [List.range'_1_concat, List.countP_append, ih]
    by_cases h : f + m < A
    · simp [h]; omega
    · simp [h]; omega
theorem dn_step {rs : List Sg} {k A : Nat} {f t : Int} (h : rs[k]? = some (f, t)) (h0 : 0 ≤ f) (h1 : f < t) :
    (((fl9 (rs.take (k + 1))).countP (fun i : Nat => decide ((i : Int) < (A : Int))) : Nat) : Int) = ((fl9 (rs.take k)).countP (fun i : Nat => decide ((i : Int) < (A : Int))) : Nat) + max (min (A : Int) t - f) 0 := by
  rw [fl9_take h, List.countP_append, cnt_range]
  simp only
  omega
theorem dn_neg (L : List Int) (at' : Int) (h : at' < 0) : dn L at' = 0 := by
  unfold dn
  rw [List.countP_eq_zero]
  intro a _
  simp
  omega
theorem dn_held (L : List Int) (at' : Int) : dn L at' = dn L (max at' 0) := by
  unfold dn
  refine List.countP_congr fun i _ => ?_
  simp
  omega
theorem dn_le (L : List Int) (at' : Int) : dn L at' ≤ L.length := by
  have h1 := List.countP_le_length (p := fun i : Nat => decide ((i : Int) < at')) (l := zs L)
  have h2 := zs_size L
  unfold dn
  omega
theorem dn_take {L : List Int} {k : Nat} {at' : Int} (hk : k ≤ L.length) (h1 : (k : Int) ≤ at') (h2 : k = L.length ∨ at' ≤ k) : dn L at' = (zs (L.take k)).length := by
  unfold dn
  rw [zs_take_rest L k hk, List.countP_append]
  have e1 : (zs (L.take k)).countP (fun i : Nat => decide ((i : Int) < at')) = (zs (L.take k)).length := by
    rw [List.countP_eq_length]
    intro a ha
    have := zs_lt ha
    rw [List.length_take] at this
    simp
    omega
  have e2 : ((zs (L.drop k)).map (· + k)).countP (fun i : Nat => decide ((i : Int) < at')) = 0 := by
    rw [List.countP_eq_zero]
    intro a ha
    obtain ⟨b, hb, rfl⟩ := List.mem_map.1 ha
    have := zs_lt hb
    rw [List.length_drop] at this
    simp
    omega
  omega
theorem dn_at {L : List Int} {k : Nat} (hk : k ≤ L.length) : dn L k = (zs (L.take k)).length := dn_take hk (Int.le_refl _) (Or.inr (Int.le_refl _))
theorem dn_one {L : List Int} {k : Nat} {c : Int} (h : L[k]? = some c) : dn L ((k : Int) + 1) = dn L k + if 0 < c then 0 else 1 := by
  have hk := (List.getElem?_eq_some_iff.1 h).1
  rw [dn_at (by omega), show ((k : Int) + 1) = ((k + 1 : Nat) : Int) from by omega, dn_at (by omega), zs_take_succ h, List.length_append]
  congr 1
  split <;> rfl
theorem dn_all (L : List Int) : dn L L.length = (zs L).length := by rw [dn_at (Nat.le_refl _), List.take_length]
theorem up_run {rs : List Sg} {k A : Nat} {f t : Int} {n : Nat} (h : rs[k]? = some (f, t)) (h0 : 0 ≤ f) (h1 : f < t) (ha : (fl9 (rs.take k)).length ≤ A) (hb : (A : Int) - (fl9 (rs.take k)).length < t - f) :
    (((fl9 rs)[A]?.getD n : Nat) : Int) = f + ((A : Int) - (fl9 (rs.take k)).length) := by
  rw [fl9_split h, List.getElem?_append_right ha, List.getElem?_append_left (by simp; omega), List.getElem?_range' (by simp only; omega)]
  simp only [Option.getD_some]
  omega
theorem up_past {rs : List Sg} {A n : Nat} (h : (fl9 rs).length ≤ A) : (fl9 rs)[A]?.getD n = n := by rw [List.getElem?_eq_none h]; rfl
theorem up_held (L : List Int) (at' : Int) : up L at' = up L (max at' 0) := by
  unfold up
  rw [show (max at' 0).toNat = at'.toNat from by omega]
theorem up_le (L : List Int) (at' : Int) : up L at' ≤ L.length := by
  unfold up
  cases h : (zs L)[at'.toNat]? with
  | none => exact Nat.le_refl _
  | some i => exact Nat.le_of_lt (zs_lt (List.mem_of_getElem? h))
theorem find_range (at' : Int) : ∀ (m f : Nat), at' < (f : Int) + m → 0 < m → (List.range' f m).find? (fun i : Nat => decide (at' ≤ (i : Int))) = some (max at' f).toNat
  | 0, _, _, h => absurd h (by omega)
  | m + 1, f, h, _ => by
    rw [List.range'_succ, List.find?_cons]
    by_cases e : at' ≤ (f : Int)
    · rw [decide_eq_true e]
      simp only
      rw [show (max at' f).toNat = f from by omega]
    · rw [decide_eq_false e]
      simp only
      rw [find_range at' m (f + 1) (by omega) (by omega)]
      congr 1
      omega
theorem find_none {l : List Nat} {at' : Int} (h : ∀ i ∈ l, (i : Int) < at') : l.find? (fun i : Nat => decide (at' ≤ (i : Int))) = none := by
  rw [List.find?_eq_none]
  intro x hx
  have := h x hx
  simp
  omega
theorem nx_run {rs : List Sg} {k : Nat} {at' f t : Int} {n : Nat} (h : rs[k]? = some (f, t)) (h0 : 0 ≤ f) (h1 : f < t) (ha : ∀ i ∈ fl9 (rs.take k), (i : Int) < at') (hb : at' < t) :
    ((((fl9 rs).find? fun i : Nat => decide (at' ≤ (i : Int))).getD n : Nat) : Int) = max at' f := by
  rw [fl9_split h, List.find?_append, find_none ha, Option.none_or, List.find?_append, find_range at' _ _ (by simp only; omega) (by simp only; omega)]
  simp only [Option.some_or, Option.getD_some]
  omega
theorem nx_past {rs : List Sg} {at' : Int} {n : Nat} (h : ∀ i ∈ fl9 rs, (i : Int) < at') : ((fl9 rs).find? fun i : Nat => decide (at' ≤ (i : Int))).getD n = n := by rw [find_none h]; rfl
theorem nx_step {rs : List Sg} {k : Nat} {at' f t : Int} (h : rs[k]? = some (f, t)) (h0 : 0 ≤ f) (ha : ∀ i ∈ fl9 (rs.take k), (i : Int) < at') (hb : t ≤ at') : ∀ i ∈ fl9 (rs.take (k + 1)), (i : Int) < at' := by
  intro i hi
  rw [fl9_take h] at hi
  rcases List.mem_append.1 hi with hi | hi
  · exact ha i hi
  · rw [List.mem_range'_1] at hi
    simp only at hi
    omega
theorem nx_le (L : List Int) (at' : Int) : nx L at' ≤ L.length := by
  unfold nx
  cases h : (zs L).find? (fun i : Nat => decide (at' ≤ (i : Int))) with
  | none => exact Nat.le_refl _
  | some i => exact Nat.le_of_lt (zs_lt (List.mem_of_find?_eq_some h))
theorem nx_at {L : List Int} {k : Nat} {c at' : Int} (h : L[k]? = some c) (hc : ¬ 0 < c) (ha : at' ≤ k) (hb : ∀ i ∈ zs L, i < k → (i : Int) < at') : nx L at' = k := by
  obtain ⟨T, hT⟩ := zs_split h hc
  have hk := (List.getElem?_eq_some_iff.1 h).1
  unfold nx
  have hn : ∀ i ∈ zs (L.take k), (i : Int) < at' := fun i hi => by
    have h1 := zs_lt hi
    rw [List.length_take] at h1
    exact hb i (by rw [hT]; exact List.mem_append.2 (Or.inl hi)) (by omega)
  rw [hT, List.find?_append, find_none hn, Option.none_or, List.find?_cons, decide_eq_true ha]
  rfl
theorem nx_out {L : List Int} {at' : Int} (h : ∀ i ∈ zs L, (i : Int) < at') : nx L at' = L.length := by
  unfold nx
  rw [find_none h]; rfl
theorem nx_ge {L : List Int} {k : Nat} (hk : k ≤ L.length) : k ≤ nx L k := by
  unfold nx
  cases h : (zs L).find? (fun i : Nat => decide ((k : Int) ≤ (i : Int))) with
  | none => exact hk
  | some i =>
    have := List.find?_some h
    simp at this
    exact this
theorem nx_same {L : List Int} {k : Nat} {c : Int} (h : L[k]? = some c) (hc : 0 < c) : nx L k = nx L ((k : Int) + 1) := by
  unfold nx
  congr 1
  have hp : ∀ i ∈ zs L, decide ((k : Int) ≤ (i : Int)) = decide ((k : Int) + 1 ≤ (i : Int)) := fun i hi => by
    have : i ≠ k := fun e => by
      subst e
      have := (mem_zs.1 hi).2
      rw [h] at this
      exact this hc
    rw [decide_eq_decide]
    omega
  generalize zs L = l at *
  induction l with
  | nil => rfl
  | cons a l ih =>
    rw [List.find?_cons, List.find?_cons, hp a (by simp), ih (fun i hi => hp i (by simp [hi]))]
/-- The reference's way: the next place that isn't in it. -/
theorem up_at {L : List Int} {k K : Nat} {c : Int} (h : L[k]? = some c) (hc : ¬ 0 < c) (hK : (zs (L.take k)).length = K) : (zs L)[K]?.getD L.length = k := by
  obtain ⟨T, hT⟩ := zs_split h hc
  rw [hT, List.getElem?_append_right (by omega), hK, Nat.sub_self]
  rfl
theorem split_at {l : List Nat} {i : Nat} {u : Nat} (h : l[i]? = some u) (hs : l.Pairwise (· < ·)) : ∃ A T, l = A ++ u :: T ∧ A.length = i ∧ (∀ a ∈ A, a < u) ∧ ∀ a ∈ T, u < a := by
  have hi := (List.getElem?_eq_some_iff.1 h).1
  have hu : l[i] = u := by rw [List.getElem?_eq_getElem hi] at h; exact Option.some.inj h
  have e : l = l.take i ++ u :: l.drop (i + 1) := by
    rw [← hu, ← List.drop_eq_getElem_cons hi, List.take_append_drop]
  refine ⟨l.take i, l.drop (i + 1), e, by simp; omega, ?_, ?_⟩
  · intro a ha
    rw [e, List.pairwise_append] at hs
    exact hs.2.2 a ha u (by simp)
  · intro a ha
    rw [e, List.pairwise_append] at hs
    exact (List.pairwise_cons.1 hs.2.1).1 a ha
/-- Up and down again. -/
theorem up_back {L : List Int} {i : Nat} (hi : i < (zs L).length) : ∃ u c, up L i = u ∧ u < L.length ∧ L[u]? = some c ∧ ¬ 0 < c ∧ dn L u = i ∧ dn L ((u : Int) + 1) = i + 1 ∧ nx L u = u := by
  obtain ⟨u, hu⟩ : ∃ u, (zs L)[i]? = some u := ⟨(zs L)[i], List.getElem?_eq_getElem hi⟩
  have hm := mem_zs.1 (List.mem_of_getElem? hu)
  obtain ⟨A, T, e, hA, h1, h2⟩ := split_at hu (zs_sorted L)
  obtain ⟨c, hc⟩ : ∃ c, L[u]? = some c := ⟨L[u]'hm.1, List.getElem?_eq_getElem hm.1⟩
  have hc0 : ¬ 0 < c := by have := hm.2; rw [hc] at this; exact this
  have hd : dn L u = i := by
    unfold dn
    rw [e, List.countP_append, List.countP_cons_of_neg (by simp)]
    rw [show A.countP (fun i : Nat => decide ((i : Int) < (u : Int))) = A.length from by rw [List.countP_eq_length]; intro a ha; have := h1 a ha; simp; omega,
      show T.countP (fun i : Nat => decide ((i : Int) < (u : Int))) = 0 from by rw [List.countP_eq_zero]; intro a ha; have := h2 a ha; simp; omega]
    omega
  refine ⟨u, c, ?_, hm.1, hc, hc0, hd, ?_, ?_⟩
  · unfold up
    rw [Int.toNat_natCast, hu]; rfl
  · rw [dn_one hc, if_neg hc0, hd]
  · refine nx_at hc hc0 (Int.le_refl _) (fun j _ hj => by omega)
/-- Intervals of alternating runs. -/
def ivf (b : Bool) (at' : Int) : List Sg → List Sg
  | [] => []
  | r :: rs => if decide (0 < r.2) = b then (at', at' + r.1) :: ivf b (at' + r.1) rs else ivf b (at' + r.1) rs
def tot (rs : List Sg) : Int := (rs.map (·.1)).sum
theorem tot_append (a b : List Sg) : tot (a ++ b) = tot a + tot b := by simp [tot]
theorem tot_one (r : Sg) : tot [r] = r.1 := by simp [tot]
theorem tot_cons (r : Sg) (rs : List Sg) : tot (r :: rs) = r.1 + tot rs := by simp [tot]
theorem tot_xp {rs : List Sg} (h : ∀ r ∈ rs, 1 ≤ r.1) : tot rs = (xp rs).length := by
  induction rs with
  | nil => rfl
  | cons r rs ih =>
    have := h r (by simp)
    rw [tot_cons, ih (fun q hq => h q (by simp [hq]))]
    simp [xp]
    omega
theorem ivf_append (b : Bool) : ∀ (xs ys : List Sg) (at' : Int), ivf b at' (xs ++ ys) = ivf b at' xs ++ ivf b (at' + tot xs) ys
  | [], ys, at' => by simp [ivf, tot]
  | r :: xs, ys, at' => by
    have ih := ivf_append b xs ys (at' + r.1)
    rw [tot_cons, ← Int.add_assoc, List.cons_append]
    simp only [ivf]
    rw [ih]
    split <;> rfl
theorem ivf_in {b : Bool} {rs : List Sg} : ∀ {at' : Int}, (∀ r ∈ rs, 1 ≤ r.1) → ∀ r ∈ ivf b at' rs, at' ≤ r.1 ∧ r.2 ≤ at' + tot rs := by
  induction rs with
  | nil => intro at' _ r hr; simp [ivf] at hr
  | cons q rs ih =>
    intro at' h r hr
    have hq := h q (by simp)
    have ih2 := ih (at' := at' + q.1) (fun r hr => h r (by simp [hr]))
    have ht : 0 ≤ tot rs := by rw [tot_xp (fun r hr => h r (by simp [hr]))]; omega
    rw [tot_cons]
    simp only [ivf] at hr
    split at hr
    · rcases List.mem_cons.1 hr with rfl | hr
      · simp only; omega
      · have := ih2 r hr; omega
    · have := ih2 r hr; omega
def sg9 (c : Int) : Int := if 0 < c then 1 else 0
theorem sg9_pos (c : Int) : decide (0 < sg9 c) = decide (0 < c) := by unfold sg9; split <;> simp_all
theorem rn_ivf (b : Bool) (L : List Int) : rn b L = ivf b 0 (rle (L.map sg9)) := by
  induction L using snoc_ind with
  | h0 => rfl
  | h1 l a ih =>
    rw [rn_snoc, ih, List.map_append, List.map_cons, List.map_nil, ← sg9_pos a]
    have hlen : ((l.map sg9).length : Int) = l.length := by simp
    have htot : tot (rle (l.map sg9)) = l.length := by rw [tot_xp (fun r hr => rle_pos hr), xp_rle, hlen]
    have hmem : ∀ r ∈ rle (l.map sg9), r.2 = 0 ∨ r.2 = 1 := fun r hr => by
      obtain ⟨c, _, e⟩ := List.mem_map.1 (rle_mem hr)
      rw [← e]; unfold sg9; split <;> simp
    have ha : sg9 a = 0 ∨ sg9 a = 1 := by unfold sg9; split <;> simp
    generalize sg9 a = s at *
    rcases List.eq_nil_or_concat (rle (l.map sg9)) with hr | ⟨rs, ⟨m, d⟩, hr⟩
    · have e : rle (l.map sg9 ++ [s]) = [(1, s)] := by
        have := add_other (A := l.map sg9) (n := 1) (c := s) (by rw [hr]; simp) (by omega)
        rw [hr] at this; exact this
      rw [e, hr]
      rw [hr] at htot
      have h0 : (l.length : Int) = 0 := by rw [← htot]; rfl
      rw [h0]
      simp [ivf, ad_nil]
    · rw [List.concat_eq_append] at hr
      have hp : ∀ r ∈ rs ++ [(m, d)], 1 ≤ r.1 := fun r h => rle_pos (by rw [hr]; exact h)
      have hm1 := hp (m, d) (by simp)
      have hd := hmem (m, d) (by rw [hr]; simp)
      rw [hr, tot_append, tot_one] at htot
      simp only at htot hm1 hd
      have hiv : ∀ r ∈ ivf b 0 rs, r.2 ≤ tot rs := fun r h => by have := (ivf_in (fun q hq => hp q (List.mem_append.2 (Or.inl hq))) r h).2; omega
      by_cases e : d = s
      · subst e
        have e2 : rle (l.map sg9 ++ [d]) = rs ++ [(m + 1, d)] := add_same (n := 1) hr (by omega)
        rw [e2, hr, ivf_append, ivf_append]
        simp only [ivf]
        split
        · rw [Int.zero_add, htot, ad_same]
          congr 3
          omega
        · rfl
      · have e2 : rle (l.map sg9 ++ [s]) = rs ++ [(m, d)] ++ [(1, s)] := by
          have := add_other (A := l.map sg9) (n := 1) (c := s) (by rw [hr]; intro x hx; simp at hx; subst hx; exact fun h => e h.symm) (by omega)
          rw [hr] at this; exact this
        rw [e2, hr, ivf_append, ivf_append, tot_append, tot_one, ivf_append]
        simp only [ivf]
        by_cases hs : decide (0 < s) = b
        · have hdb : decide (0 < d) ≠ b := by
            rw [← hs, Ne, decide_eq_decide]; omega
          rw [if_pos hs, if_neg hdb, if_pos hs, List.append_nil]
          rw [show (0 : Int) + (tot rs + m) = l.length from by omega]
          rcases List.eq_nil_or_concat (ivf b 0 rs) with hz | ⟨qs, ⟨x, y⟩, hz⟩
          · rw [hz]; rfl
          · rw [List.concat_eq_append] at hz
            have := hiv (x, y) (by rw [hz]; simp)
            simp only at this
            rw [hz, ad_other _ _ _ _ _ (by omega)]
        · rw [if_neg hs, if_neg hs, List.append_nil]
end Go.Proofs.Ytbkjcibfcpejfaa
