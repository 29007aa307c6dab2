/- algebra's Union, Minus, Xor, Shrink, Not. -/
import Derived.Test.YtalolaajcmndeaaDoorAlgTog
namespace Go.Proofs.YtalolaajcmndeaaDoor
open Go.RowKit Go.Sort
set_option linter.unusedSimpArgs false
set_option linter.unusedVariables false

def uF (a b : Int) : Int := min (a + b) 100
def mF (a b : Int) : Int := max (a - b) 0
def xF (a b : Int) : Int := if decide (0 < a) != decide (0 < b) then 1 else 0
def nF (a _b : Int) : Int := if a = 0 then 1 else 0
def sF (a b : Int) : Int := if 0 < b then -1 else a
theorem uF_in (a b : Int) (ha : In8 a) (hb : In8 b) : uF a b = -1 ∨ In8 (uF a b) := by unfold uF In8 at *; omega
theorem mF_in (a b : Int) (ha : In8 a) (hb : In8 b) : mF a b = -1 ∨ In8 (mF a b) := by unfold mF In8 at *; omega
theorem xF_in (a b : Int) (ha : In8 a) (hb : In8 b) : xF a b = -1 ∨ In8 (xF a b) := by unfold xF In8 at *; split <;> omega
theorem nF_in (a b : Int) (ha : In8 a) (hb : In8 b) : nF a b = -1 ∨ In8 (nF a b) := by unfold nF In8 at *; split <;> omega
theorem sF_in (a b : Int) (ha : In8 a) (hb : In8 b) : sF a b = -1 ∨ In8 (sF a b) := by unfold sF In8 at *; split <;> omega
theorem ret_i8 {a b : Int} (h : a = b) : Ending.returned (.int .i64 a) = Ending.returned (.int .i64 b) := by rw [h]
theorem rle_map_len (g : Int → Int) : ∀ L : List Int, (rle (L.map g)).length ≤ (rle L).length ∧ ∀ r, (rle L).head? = some r → ∃ n, (rle (L.map g)).head? = some (n, g r.2)
  | [] => ⟨Nat.le_refl _, fun r h => by simp [rle] at h⟩
  | c :: L => by
    obtain ⟨h1, h2⟩ := rle_map_len g L
    show (pushF (g c) (rle (L.map g))).length ≤ (pushF c (rle L)).length ∧ ∀ r, (pushF c (rle L)).head? = some r → ∃ n, (pushF (g c) (rle (L.map g))).head? = some (n, g r.2)
    cases hr : rle L with
    | nil =>
      have hL : L = [] := by rw [← xp_rle L, hr]; rfl
      subst hL
      refine ⟨by simp [rle, pushF], fun r h => ?_⟩
      simp [pushF] at h
      subst h
      exact ⟨1, by simp [rle, pushF]⟩
    | cons q qs =>
      rw [hr] at h1 h2
      obtain ⟨n, hn⟩ := h2 q rfl
      obtain ⟨ps, hps⟩ : ∃ ps, rle (L.map g) = (n, g q.2) :: ps := by
        cases hx : rle (L.map g) with
        | nil => rw [hx] at hn; simp at hn
        | cons a ps => rw [hx] at hn; simp at hn; subst hn; exact ⟨ps, rfl⟩
      rw [hps, pushF_cons, pushF_cons]
      rw [hps] at h1
      simp only [List.length_cons] at h1
      by_cases e : q.2 = c
      · rw [if_pos e, if_pos (by rw [e])]
        refine ⟨by simp; omega, fun r h => ?_⟩
        simp at h
        subst h
        exact ⟨_, rfl⟩
      · rw [if_neg e]
        constructor
        · split <;> simp <;> omega
        · intro r h
          simp at h
          subst h
          split
          · exact ⟨_, rfl⟩
          · exact ⟨_, rfl⟩
theorem zip_self (f : Int → Int → Int) (L : List Int) : List.zipWith f L L = L.map fun a => f a a := by induction L with | nil => rfl | cons a L ih => simp [ih]
/-- Where nothing is left out. -/
theorem tog_zip {f : Int → Int → Int} {L M : List Int} (h : ∀ a ∈ L, ∀ b ∈ M, f a b ≠ -1) : tog f L M = List.zipWith f L M := by
  unfold tog
  rw [List.filter_eq_self]
  intro c hc
  obtain ⟨i, hi, e⟩ := List.mem_iff_getElem.1 hc
  rw [List.getElem_zipWith] at e
  rw [← e]
  simpa using h _ (List.getElem_mem _) _ (List.getElem_mem _)
def notL (L : List Int) : List Int := L.map fun a => if a = 0 then 1 else 0
theorem tog_not (L : List Int) : tog nF L L = notL L := by
  rw [tog_zip fun a _ b _ => by unfold nF; split <;> simp, zip_self]; rfl
theorem ok8_not {L : List Int} (h : Ok8 L) : Ok8 (notL L) := ⟨by unfold notL; simpa using h.1, fun c hc => by
  unfold notL at hc
  obtain ⟨a, _, rfl⟩ := List.mem_map.1 hc
  split <;> decide⟩
end Go.Proofs.YtalolaajcmndeaaDoor
