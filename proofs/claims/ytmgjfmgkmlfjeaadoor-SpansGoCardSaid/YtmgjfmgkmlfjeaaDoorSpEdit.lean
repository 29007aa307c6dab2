/- Styles go along with their texts: plain mathematics (layer 15; written ahead of its code). -/
import Derived.Test.YtmgjfmgkmlfjeaaDoorSpProg
import Derived.Test.YtmgjfmgkmlfjeaaDoorOffPlainM
namespace Go.Proofs.YtmgjfmgkmlfjeaaDoor
set_option linter.unusedSimpArgs false
set_option linter.unusedVariables false

/-- Spans where a delta takes them. -/
def movS (base : Int) (E : List El) (l : List Sp) : List Sp := l.map fun x => (mvV base E x.1 true, max (mvV base E x.1 true) (mvV base E x.2.1 false), x.2.2)
def edS (base : Int) (E : List El) (l : List Sp) : List Sp := fewS (movS base E l)
theorem pd_mov {base m : Int} {E : List El} (hi : isB base E = true) (hm : ((cel E).length : Int) = m) : ∀ (l : List Sp) (a st b : Int), OkS base a st l → 0 ≤ a → b ≤ frK a (cel E) → PdS m b (movS base E l)
  | [], _, _, _, _, _, _ => trivial
  | (f, t, s) :: l, a, st, b, h, ha, hb => by
    obtain ⟨⟨h1, h2, h3, h4, h5, h6⟩, h7⟩ := h
    obtain ⟨_, e1⟩ := mvV_in (x := f) hi (by omega) (by omega)
    obtain ⟨e2, _⟩ := mvV_in (x := t) hi (by omega) h5
    have g1 := frK_mono (p := a) (p' := f) h3 (cel E)
    have g2 := frK_mono (p := a) (p' := t) (by omega) (cel E)
    have g3 := mvN_frK (p := t) (up_cel E 0 0 (Int.le_refl _) (dl_of hi).nm)
    have g4 := mvN_le t (cel E)
    show PdS m b ((mvV base E f true, max (mvV base E f true) (mvV base E t false), s) :: movS base E l)
    refine ⟨by omega, ?_⟩
    rw [e1, e2]
    split
    · exact ⟨by omega, by omega, pd_mov hi hm l t s _ h7 (by omega) (by omega)⟩
    · exact pd_mov hi hm l t s b h7 (by omega) (by omega)
/-- A kept byte has the style that it had. -/
theorem at_mov {base : Int} {E : List El} (hi : isB base E = true) {i : Int} (h0 : 0 ≤ i) {pre post : List Ce} (hc : cel E = pre ++ (i, 0) :: post) : ∀ (l : List Sp) (a st : Int), OkS base a st l → 0 ≤ a → atS (movS base E l) (pre.length : Nat) = atS l i
  | [], _, _, _, _ => rfl
  | (f, t, s) :: l, a, st, h, ha => by
    obtain ⟨⟨h1, h2, h3, h4, h5, h6⟩, h7⟩ := h
    obtain ⟨_, e1⟩ := mvV_in (x := f) hi (by omega) (by omega)
    obtain ⟨e2, _⟩ := mvV_in (x := t) hi (by omega) h5
    have hu := up_cel E 0 0 (Int.le_refl _) (dl_of hi).nm
    have hu2 := hu
    rw [hc] at hu2
    obtain ⟨k1, k2, _⟩ := kept_at h0 hu2
    rw [← hc] at k1 k2
    show atS ((mvV base E f true, max (mvV base E f true) (mvV base E t false), s) :: movS base E l) (pre.length : Nat) = _
    rw [e1, e2]
    simp only [atS]
    rw [at_mov hi h0 hc l t s h7 (by omega)]
    by_cases hk : f ≤ i ∧ i < t
    · have g1 := frK_mono hk.1 (cel E)
      have g2 := mvN_mono (p := i + 1) (p' := t) (by omega) (cel E)
      rw [if_pos (by omega), if_pos hk]
    · rw [if_neg hk]
      by_cases hf : f ≤ i
      · have g2 := mvN_mono (p := t) (p' := i) (by omega) (cel E)
        have g3 := mvN_frK (p := i) hu
        have g4 := frK_mono hf (cel E)
        rw [if_neg (by omega)]
      · have g1 := frK_mono (p := i + 1) (p' := f) (by omega) (cel E)
        have g3 := mvN_frK (p := i + 1) hu
        rw [if_neg (by omega)]
theorem edS_ok {base m : Int} {E : List El} (hi : isB base E = true) (hm : ((cel E).length : Int) = m) {l : List Sp} (h : OkS base 0 0 l) : OkS m 0 0 (edS base E l) ∧ ∀ k, atS (edS base E l) k = atS (movS base E l) k :=
  fewS_ok (pd_mov hi hm l 0 0 0 h (Int.le_refl _) (by omega))
theorem edS_len (base : Int) (E : List El) (l : List Sp) : (edS base E l).length ≤ l.length := by
  have h1 := foldS_len (movS base E l) []
  have h2 := ne_le (movS base E l)
  have h3 : (movS base E l).length = l.length := by simp [movS]
  unfold edS fewS
  simp only [List.length_nil] at h1
  omega
/-- One text put in at p: what is put in has a span's style where p lies within it. -/
theorem at_mov_ins {N p : Nat} {T : List UInt8} {E : List El} (hi : isB N E = true) (hc : cel E = bce N 0 [((p : Int), (p : Int), T)]) (hp : p ≤ N) {j : Nat} (hj : j < T.length) : ∀ (l : List Sp) (a st : Int), OkS N a st l → 0 ≤ a →
    atS (movS N E l) ((p : Int) + j) = if (∃ x ∈ l, x.1 < (p : Int) ∧ (p : Int) < x.2.1) then atS l p else 0
  | [], _, _, _, _ => by simp [movS, atS]
  | (f, t, s) :: l, a, st, h, ha => by
    obtain ⟨⟨h1, h2, h3, h4, h5, h6⟩, h7⟩ := h
    obtain ⟨_, e1⟩ := mvV_in (x := f) hi (by omega) (by omega)
    obtain ⟨e2, _⟩ := mvV_in (x := t) hi (by omega) h5
    rw [hc, frK_ins (by omega) (by omega) (by omega) (by omega)] at e1
    rw [hc, mvN_ins (by omega) (by omega) (by omega) (by omega)] at e2
    have ih := at_mov_ins hi hc hp hj l t s h7 (by omega)
    show atS ((mvV N E f true, max (mvV N E f true) (mvV N E t false), s) :: movS N E l) ((p : Int) + j) = _
    rw [e1, e2]
    simp only [atS]
    rw [ih]
    by_cases hk : f < p ∧ (p : Int) < t
    · rw [if_pos (by split <;> split <;> omega), if_pos ⟨_, List.mem_cons_self, hk⟩, if_pos (by omega)]
    · rw [if_neg (by split <;> split <;> omega)]
      by_cases hx : ∃ x ∈ l, x.1 < (p : Int) ∧ (p : Int) < x.2.1
      · rw [if_pos hx, if_pos (by obtain ⟨x, hx1, hx2⟩ := hx; exact ⟨x, List.mem_cons_of_mem _ hx1, hx2⟩)]
        by_cases hq : f ≤ p ∧ (p : Int) < t
        · exfalso
          obtain ⟨⟨x1, x2, x3⟩, hx1, hx2, hx3⟩ := hx
          simp only at hx2 hx3
          have hge : ∀ (l : List Sp) (a st : Int), OkS N a st l → ∀ x ∈ l, a ≤ x.1 := by
            intro l
            induction l with
            | nil => intro a st _ x hx; cases hx
            | cons y l ihl =>
              obtain ⟨y1, y2, y3⟩ := y
              intro a st h x hx
              rcases List.mem_cons.1 hx with rfl | hx
              · exact h.1.2.2.1
              · have := ihl _ _ h.2 x hx
                have := h.1
                omega
          have := hge l t s h7 _ hx1
          simp only at this
          omega
        · rw [if_neg hq]
      · rw [if_neg hx, if_neg]
        rintro ⟨x, hx1, hx2⟩
        rcases List.mem_cons.1 hx1 with rfl | hx1
        · exact hk hx2
        · exact hx ⟨x, hx1, hx2⟩
end Go.Proofs.YtmgjfmgkmlfjeaaDoor
