/- The reference's Build. -/
import Derived.Test.YtalolaajcmndeaaDoorDelRefTold
import Derived.Test.YtalolaajcmndeaaDoorDelRefMade
import Derived.Test.YtalolaajcmndeaaDoorDelRefOrd
namespace Go.Proofs.YtalolaajcmndeaaDoor
open Go.RowKit Go.Sort Go.Lib
set_option linter.unusedSimpArgs false
set_option linter.unusedVariables false

theorem bce_one {base : Int} (hb : base ≤ 20000) : ∀ (l : List El) (a : Int), 0 ≤ a → Chs base a l → ∀ c ∈ bce base a l, c.1 = -1 ∨ (0 ≤ c.1 ∧ c.1 ≤ 20000 ∧ c.2 = 0)
  | [], a, ha, h => by
    intro c hc
    unfold bce rng at hc
    obtain ⟨i, hi, rfl⟩ := List.mem_map.1 hc
    have := List.mem_range.1 hi
    exact Or.inr ⟨by simp only; omega, by simp only; omega, rfl⟩
  | (f, t, T) :: l, a, ha, h => by
    obtain ⟨h1, h2, h3, h4⟩ := h
    intro c hc
    unfold bce at hc
    rcases List.mem_append.1 hc with hc | hc
    · rcases List.mem_append.1 hc with hc | hc
      · unfold rng at hc
        obtain ⟨i, hi, rfl⟩ := List.mem_map.1 hc
        have := List.mem_range.1 hi
        exact Or.inr ⟨by simp only; omega, by simp only; omega, rfl⟩
      · obtain ⟨b, _, rfl⟩ := List.mem_map.1 hc
        exact Or.inl rfl
    · exact bce_one hb l t (by omega) h4 c hc
theorem cel_mem : ∀ (es : List El) (e : El), e ∈ es → e.2.2.length ≤ (cel es).length
  | x :: es, e, h => by
    rw [cel_cons, List.length_append]
    unfold ce1
    rw [List.length_append, own_len]
    rcases List.mem_cons.1 h with rfl | h
    · omega
    · have := cel_mem es e h; omega
theorem sz8_le {base : Int} : ∀ (l : List El), wthB base l = true → sz8 base l ≤ base + (inS l : Int)
  | [], _ => by simp [sz8, inS]
  | e :: l, h => by
    rw [show wthB base (e :: l) = (wthE base e && wthB base l) from rfl, Bool.and_eq_true] at h
    have ih := sz8_le l h.2
    have h1 := of_decide_eq_true h.1
    simp only [sz8, inS, List.map_cons, List.sum_cons] at *
    omega
theorem cw_bce {base : Int} {l : List El} (h : flt base l = 0) : Cw (bce base 0 l) := by
  have g := gd_of h
  have hsz := bce_size l 0 g.ch
  rw [Int.sub_zero] at hsz
  have hs := g.sz
  refine ⟨bce_one g.b0.2 l 0 (Int.le_refl _) g.ch, by omega, ?_⟩
  rw [← elG_tld g.ch]
  intro e he
  refine ⟨vld_elG l [] 0 vld_nil (fun e he => List.all_eq_true.1 g.vl e he) e he, ?_⟩
  have h1 := cel_mem _ e he
  rw [cel_elG l [] 0 g.ch] at h1
  simp only [List.length_append, own_len, List.length_nil] at h1
  omega
/-- What Build answers. -/
def BldR (base : Int) (l : List El) (e : Ending) (w' : World) : Prop :=
  if flt base l ≠ 0 then e = .returned (.tuple #[.agg #[.int .i64 0, .slice none 0 0], .int .i64 (flt base l)])
  else if 60 < (elG base [] 0 l).length then e = .returned (.tuple #[.agg #[.int .i64 0, .slice none 0 0], .int .i64 70])
  else ∃ v', e = .returned (.tuple #[.agg #[.int .i64 base, v'], .int .i64 0]) ∧ ElAt w' v' (elG base [] 0 l)
end Go.Proofs.YtalolaajcmndeaaDoor
