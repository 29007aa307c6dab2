/- Intervals put in order and joined: plain mathematics. -/
import Derived.Test.YtfohfdldpanfaaaSubMath
import Derived.Test.YtfohfdldpanfaaaIvSortM
namespace Go.Proofs.Ytfohfdldpanfaaa
open Go.RowKit Go.Sort
set_option linter.unusedSimpArgs false
set_option linter.unusedVariables false

/-- Ahead of: by where they begin, then by where they end. -/
def ltV (x y : Sg) : Bool := decide (x.1 < y.1 ∨ (x.1 = y.1 ∧ x.2 < y.2))
theorem swoV : SWO ltV where
  irrefl x := by simp [ltV]
  trans x y z h1 h2 := by simp only [ltV, decide_eq_true_eq] at *; omega
  ntrans x y z h1 h2 := by simp only [ltV, decide_eq_false_iff_not] at *; omega
theorem totV (x y : Sg) (h1 : ltV x y = false) (h2 : ltV y x = false) : x = y := by
  simp only [ltV, decide_eq_false_iff_not] at *
  exact Prod.ext (by omega) (by omega)
/-- In order. -/
def srt (L : List Sg) : List Sg := L.mergeSort fun x y => !ltV y x
theorem le_trans (a b c : Sg) (h1 : (!ltV b a) = true) (h2 : (!ltV c b) = true) : (!ltV c a) = true := by
  simp only [ltV, Bool.not_eq_true', decide_eq_false_iff_not] at *; omega
theorem le_total (a b : Sg) : ((!ltV b a) || (!ltV a b)) = true := by
  simp only [ltV, Bool.or_eq_true, Bool.not_eq_true', decide_eq_false_iff_not]; omega
theorem srt_perm (L : List Sg) : (srt L).Perm L := List.mergeSort_perm _ _
theorem srt_sorted (L : List Sg) : (srt L).Pairwise fun a b => (!ltV b a) = true := List.pairwise_mergeSort le_trans le_total L
theorem srt_first (L : List Sg) : (srt L).Pairwise fun a b => a.1 ≤ b.1 := (srt_sorted L).imp fun h => by
  simp only [ltV, Bool.not_eq_true', decide_eq_false_iff_not] at h; omega
theorem srt_of_sorted {L : List Sg} (h : L.Pairwise fun a b => (!ltV b a) = true) : srt L = L := List.mergeSort_of_pairwise h
/-- A sorted row with the same elements is that row. -/
theorem srt_unique {L M : List Sg} (hp : M.Perm L) (hs : SortedIn ltV 0 M.length M.toArray) : M = srt L := by
  have hl := hp.length_eq
  have := sorted_unique_holds (lt := ltV) swoV totV L.toArray M.toArray ⟨by simpa using hl, fun i hi => by
      rcases hi with h | h
      · omega
      · rw [getElem!_neg, getElem!_neg]
        · simpa using h
        · simp at h ⊢; omega, by
      have e1 : (M.toArray.extract 0 L.toArray.size).toList = M := by simp [← hl]
      have e2 : (L.toArray.extract 0 L.toArray.size).toList = L := by simp
      rw [e1, e2]; exact hp⟩ (by simpa [hl] using hs)
  simpa [srt] using this
theorem srt_congr {L M : List Sg} (h : M.Perm L) : srt M = srt L := by
  have e := (srt_perm M).trans h
  refine srt_unique e fun i j _ h2 h3 => ?_
  have hj : j < (srt M).length := by simpa using h3
  have := (List.pairwise_iff_getElem.1 (srt_sorted M)) i j (by omega) hj h2
  rw [getElem!_pos _ j (by simpa using hj), getElem!_pos _ i (by simp; omega)]
  simpa using this
/-- Those that don't begin behind their end. -/
def fwd (L : List Sg) : List Sg := L.filter fun x => decide (x.1 ≤ x.2)
theorem fwd_ok {L : List Sg} {x : Sg} (h : x ∈ fwd L) : x.1 ≤ x.2 := by simpa using (List.mem_filter.1 h).2
theorem fwd_sub {L : List Sg} {x : Sg} (h : x ∈ fwd L) : x ∈ L := (List.mem_filter.1 h).1
theorem fwd_in {L : List Sg} {x : Sg} (h : x ∈ L) (h2 : x.1 ≤ x.2) : x ∈ fwd L := List.mem_filter.2 ⟨h, by simpa using h2⟩
theorem fwd_all {L : List Sg} (h : ∀ x ∈ L, x.1 ≤ x.2) : fwd L = L := List.filter_eq_self.2 fun x hx => by simpa using h x hx
/-- Neither ends ahead of where the other one begins. -/
def tch (a b : Sg) : Bool := decide (b.1 ≤ a.2) && decide (a.1 ≤ b.2)
def jn (a b : Sg) : Sg := (min a.1 b.1, max a.2 b.2)
/-- One more, behind all. -/
def adM (M : List Sg) (x : Sg) : List Sg :=
  match M.getLast? with
  | some l => if tch l x then M.dropLast ++ [jn l x] else M ++ [x]
  | none => [x]
theorem adM_nil (x : Sg) : adM [] x = [x] := rfl
theorem adM_join {A : List Sg} {l x : Sg} (h : tch l x = true) : adM (A ++ [l]) x = A ++ [jn l x] := by simp [adM, h]
theorem adM_apart {A : List Sg} {l x : Sg} (h : tch l x = false) : adM (A ++ [l]) x = A ++ [l] ++ [x] := by simp [adM, h]
def mgs (L : List Sg) : List Sg := L.foldl adM []
theorem mgs_snoc (L : List Sg) (x : Sg) : mgs (L ++ [x]) = adM (mgs L) x := by simp [mgs]
def mrg (L : List Sg) : List Sg := mgs (srt (fwd L))
/-- What the joined are to those that they were made of. -/
structure Mrgd (S M : List Sg) : Prop where
  ok : ∀ m ∈ M, m.1 ≤ m.2
  apart : M.Pairwise fun a b => a.2 < b.1
  len : M.length ≤ S.length
  cover : ∀ s ∈ S, ∃ m ∈ M, m.1 ≤ s.1 ∧ s.2 ≤ m.2
  from' : ∀ k : Int, ∀ m ∈ M, m.1 ≤ k → k < m.2 → ∃ s ∈ S, s.1 ≤ k ∧ k < s.2
  first : ∀ m ∈ M, ∃ s ∈ S, m.1 = s.1
theorem mgs_ok : ∀ (n : Nat) (S : List Sg), S.length = n → (S.Pairwise fun a b => a.1 ≤ b.1) → (∀ s ∈ S, s.1 ≤ s.2) → Mrgd S (mgs S)
  | 0, S, hn, _, _ => by
    obtain rfl := List.eq_nil_of_length_eq_zero hn
    exact ⟨fun m h => by simp [mgs] at h, by simp [mgs], Nat.le_refl _, fun s h => by simp at h, fun k m h => by simp [mgs] at h, fun m h => by simp [mgs] at h⟩
  | n + 1, S, hn, hs, hf => by
    rcases List.eq_nil_or_concat S with rfl | ⟨T, x, rfl⟩
    · simp at hn
    · rw [List.concat_eq_append] at *
      rw [List.pairwise_append] at hs
      have ih := mgs_ok n T (by simp at hn; omega) hs.1 (fun s h => hf s (by simp [h]))
      have hx : x.1 ≤ x.2 := hf x (by simp)
      have hlo : ∀ m ∈ mgs T, m.1 ≤ x.1 := fun m hm => by
        obtain ⟨s, h1, h2⟩ := ih.first m hm
        have := hs.2.2 s h1 x (by simp)
        omega
      rw [mgs_snoc]
      rcases List.eq_nil_or_concat (mgs T) with hm | ⟨A, l, hm⟩
      · rw [hm] at ih ⊢
        rw [adM_nil]
        refine ⟨fun m h => by simp at h; subst h; exact hx, by simp, by simp, fun s h => ?_, fun k m h h1 h2 => ?_, fun m h => by simp at h; subst h; exact ⟨m, by simp, rfl⟩⟩
        · rcases List.mem_append.1 h with h | h
          · obtain ⟨m, h1, _⟩ := ih.cover s h; simp at h1
          · simp at h; subst h; exact ⟨s, by simp, by omega, by omega⟩
        · simp at h; subst h; exact ⟨m, by simp, h1, h2⟩
      · rw [List.concat_eq_append] at hm
        rw [hm] at ih hlo ⊢
        have hl1 := ih.ok l (by simp)
        have hl2 := hlo l (by simp)
        have hap := List.pairwise_append.1 ih.apart
        cases ht : tch l x with
        | true =>
          rw [adM_join ht]
          simp only [tch, Bool.and_eq_true, decide_eq_true_eq] at ht
          have e1 : (jn l x).1 = l.1 := by simp only [jn]; omega
          have e2 : (jn l x).2 = max l.2 x.2 := rfl
          refine ⟨fun m h => ?_, ?_, by have := ih.len; simp at this ⊢; omega, fun s h => ?_, fun k m h h1 h2 => ?_, fun m h => ?_⟩
          · rcases List.mem_append.1 h with h | h
            · exact ih.ok m (by simp [h])
            · simp at h; subst h; omega
          · refine List.pairwise_append.2 ⟨hap.1, by simp, fun a ha b hb => ?_⟩
            simp at hb; subst hb
            have := hap.2.2 a ha l (by simp)
            omega
          · rcases List.mem_append.1 h with h | h
            · obtain ⟨m, h1, h2, h3⟩ := ih.cover s h
              rcases List.mem_append.1 h1 with h1 | h1
              · exact ⟨m, by simp [h1], h2, h3⟩
              · simp at h1; subst h1; exact ⟨jn m x, by simp, by omega, by omega⟩
            · simp at h; subst h; exact ⟨jn l s, by simp, by omega, by omega⟩
          · rcases List.mem_append.1 h with h | h
            · obtain ⟨s, q1, q2⟩ := ih.from' k m (by simp [h]) h1 h2
              exact ⟨s, by simp [q1], q2⟩
            · simp at h; subst h
              by_cases hk : k < l.2
              · obtain ⟨s, q1, q2⟩ := ih.from' k l (by simp) (by omega) hk
                exact ⟨s, by simp [q1], q2⟩
              · exact ⟨x, by simp, by omega, by omega⟩
          · rcases List.mem_append.1 h with h | h
            · obtain ⟨s, q1, q2⟩ := ih.first m (by simp [h])
              exact ⟨s, by simp [q1], q2⟩
            · simp at h; subst h
              obtain ⟨s, q1, q2⟩ := ih.first l (by simp)
              exact ⟨s, by simp [q1], by omega⟩
        | false =>
          rw [adM_apart ht]
          have hgt : l.2 < x.1 := by
            simp only [tch, Bool.and_eq_false_iff, decide_eq_false_iff_not] at ht; omega
          refine ⟨fun m h => ?_, ?_, by have := ih.len; simp at this ⊢; omega, fun s h => ?_, fun k m h h1 h2 => ?_, fun m h => ?_⟩
          · rcases List.mem_append.1 h with h | h
            · exact ih.ok m h
            · simp at h; subst h; exact hx
          · refine List.pairwise_append.2 ⟨ih.apart, by simp, fun a ha b hb => ?_⟩
            simp at hb; subst hb
            rcases List.mem_append.1 ha with ha | ha
            · have := hap.2.2 a ha l (by simp); omega
            · simp at ha; subst ha; exact hgt
          · rcases List.mem_append.1 h with h | h
            · obtain ⟨m, h1, h2⟩ := ih.cover s h
              exact ⟨m, List.mem_append.2 (Or.inl h1), h2⟩
            · simp at h; subst h; exact ⟨s, by simp, by omega, by omega⟩
          · rcases List.mem_append.1 h with h | h
            · obtain ⟨s, q1, q2⟩ := ih.from' k m h h1 h2
              exact ⟨s, by simp [q1], q2⟩
            · simp at h; subst h; exact ⟨m, by simp, h1, h2⟩
          · rcases List.mem_append.1 h with h | h
            · obtain ⟨s, q1, q2⟩ := ih.first m h
              exact ⟨s, by simp [q1], q2⟩
            · simp at h; subst h; exact ⟨m, by simp, rfl⟩
theorem mrg_ok (L : List Sg) : Mrgd (fwd L) (mrg L) := by
  have h := mgs_ok _ (srt (fwd L)) rfl (srt_first _) (fun s hs => fwd_ok ((srt_perm _).mem_iff.1 hs))
  have hp := srt_perm (fwd L)
  exact ⟨h.ok, h.apart, by rw [← hp.length_eq]; exact h.len, fun s hs => h.cover s (hp.mem_iff.2 hs), fun k m hm h1 h2 => by
    obtain ⟨s, q1, q2⟩ := h.from' k m hm h1 h2
    exact ⟨s, hp.mem_iff.1 q1, q2⟩, fun m hm => by
    obtain ⟨s, q1, q2⟩ := h.first m hm
    exact ⟨s, hp.mem_iff.1 q1, q2⟩⟩
theorem mrg_len (L : List Sg) : (mrg L).length ≤ L.length := Nat.le_trans (mrg_ok L).len (List.length_filter_le _ _)
theorem mrg_perm {L M : List Sg} (h : M.Perm L) : mrg M = mrg L := by
  unfold mrg
  rw [srt_congr (show (fwd M).Perm (fwd L) from h.filter _)]
theorem mgs_apart : ∀ (n : Nat) (M : List Sg), M.length = n → (M.Pairwise fun a b => a.2 < b.1) → mgs M = M
  | 0, M, hn, _ => by obtain rfl := List.eq_nil_of_length_eq_zero hn; rfl
  | n + 1, M, hn, h => by
    rcases List.eq_nil_or_concat M with rfl | ⟨T, x, rfl⟩
    · rfl
    · rw [List.concat_eq_append] at *
      have hp := List.pairwise_append.1 h
      rw [mgs_snoc, mgs_apart n T (by simp at hn; omega) hp.1]
      rcases List.eq_nil_or_concat T with rfl | ⟨A, l, rfl⟩
      · rfl
      · rw [List.concat_eq_append] at *
        have := hp.2.2 l (by simp) x (by simp)
        exact adM_apart (by simp only [tch, Bool.and_eq_false_iff, decide_eq_false_iff_not]; omega)
theorem mrg_mrg (L : List Sg) : mrg (mrg L) = mrg L := by
  have h := mrg_ok L
  have e1 : fwd (mrg L) = mrg L := fwd_all h.ok
  have e2 : srt (mrg L) = mrg L := srt_of_sorted ((List.Pairwise.imp_of_mem (fun {a b} ha hb hab => by
    have := h.ok a ha
    simp only [ltV, Bool.not_eq_true', decide_eq_false_iff_not]; omega) h.apart))
  show mgs (srt (fwd (mrg L))) = _
  rw [e1, e2, mgs_apart _ _ rfl h.apart]
/-- All moved by the same. -/
def shV (c : Int) (x : Sg) : Sg := (x.1 + c, x.2 + c)
theorem fwd_sh (c : Int) (L : List Sg) : fwd (L.map (shV c)) = (fwd L).map (shV c) := by
  simp only [fwd, List.filter_map]
  congr 1
  refine List.filter_congr fun x _ => ?_
  simp only [Function.comp, shV]
  exact decide_eq_decide.2 (by omega)
theorem srt_sh (c : Int) (L : List Sg) : srt (L.map (shV c)) = (srt L).map (shV c) := by
  unfold srt
  rw [List.map_mergeSort]
  intro a _ b _
  simp only [ltV, shV]
  congr 1
  exact decide_eq_decide.2 (by omega)
theorem adM_sh (c : Int) (M : List Sg) (x : Sg) : adM (M.map (shV c)) (shV c x) = (adM M x).map (shV c) := by
  rcases List.eq_nil_or_concat M with rfl | ⟨A, l, rfl⟩
  · rfl
  · rw [List.concat_eq_append, List.map_append, List.map_cons, List.map_nil]
    have e : tch (shV c l) (shV c x) = tch l x := by
      simp only [tch, shV]
      congr 1
      · exact decide_eq_decide.2 (by omega)
      · exact decide_eq_decide.2 (by omega)
    cases ht : tch l x with
    | true =>
      rw [adM_join ht, adM_join (by rw [e]; exact ht), List.map_append]
      simp only [List.map_cons, List.map_nil, jn, shV]
      congr 3 <;> omega
    | false => rw [adM_apart ht, adM_apart (by rw [e]; exact ht)]; simp
theorem mgs_sh (c : Int) : ∀ (n : Nat) (L : List Sg), L.length = n → mgs (L.map (shV c)) = (mgs L).map (shV c)
  | 0, L, hn => by obtain rfl := List.eq_nil_of_length_eq_zero hn; rfl
  | n + 1, L, hn => by
    rcases List.eq_nil_or_concat L with rfl | ⟨T, x, rfl⟩
    · rfl
    · rw [List.concat_eq_append] at *
      rw [List.map_append, List.map_cons, List.map_nil, mgs_snoc, mgs_snoc, mgs_sh c n T (by simp at hn; omega), adM_sh]
theorem mrg_sh (c : Int) (L : List Sg) : mrg (L.map (shV c)) = (mrg L).map (shV c) := by
  unfold mrg
  rw [fwd_sh, srt_sh, mgs_sh c _ _ rfl]
end Go.Proofs.Ytfohfdldpanfaaa
