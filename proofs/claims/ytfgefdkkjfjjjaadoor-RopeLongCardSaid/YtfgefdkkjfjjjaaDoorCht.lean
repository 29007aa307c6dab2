/- Texts in chunks: plain. -/
import Derived.Test.YtfgefdkkjfjjjaaDoorLoc
import Derived.Test.YtfgefdkkjfjjjaaDoorPieces
namespace Go.Proofs.YtfgefdkkjfjjjaaDoor
open Go.RowKit Go.Sort
set_option linter.unusedSimpArgs false
set_option linter.unusedVariables false

/-- The text of a row of chunks. -/
def cat (ls : List ByteArray) : List UInt8 := ls.flatMap fun s => s.data.toList
theorem cat_nil : cat [] = [] := rfl
theorem cat_append (a b : List ByteArray) : cat (a ++ b) = cat a ++ cat b := by simp [cat]
theorem cat_cons (s : ByteArray) (r : List ByteArray) : cat (s :: r) = s.data.toList ++ cat r := by simp [cat]
theorem cat_one (s : ByteArray) : cat [s] = s.data.toList := by simp [cat]
theorem cat_length (ls : List ByteArray) : (cat ls).length = szs ls := by
  induction ls with
  | nil => rfl
  | cons s r ih => rw [cat_cons, List.length_append, ih, szs_cons]; rfl
/-- A chunk: valid, not empty, at most 64 bytes. -/
def Ck (s : ByteArray) : Prop := vld s.data.toList = true ∧ 1 ≤ s.size ∧ s.size ≤ 64
/-- Chunks none of which is short. -/
def Big (ls : List ByteArray) : Prop := ∀ s ∈ ls, Ck s ∧ 29 ≤ s.size
/-- A rope's chunks. -/
def Inv (ls : List ByteArray) : Prop := (∀ s ∈ ls, Ck s) ∧ (2 ≤ ls.length → ∀ s ∈ ls, 29 ≤ s.size)
theorem cat_valid {ls : List ByteArray} (h : ∀ s ∈ ls, Ck s) : vld (cat ls) = true := by
  induction ls with
  | nil => rfl
  | cons s r ih =>
    rw [cat_cons]
    exact vld_append (h s (by simp)).1 (ih fun x hx => h x (by simp [hx]))
theorem szs_ge {ls : List ByteArray} (h : ∀ s ∈ ls, Ck s) : ls.length ≤ szs ls := by
  induction ls with
  | nil => simp
  | cons s r ih =>
    have h1 := (h s (by simp)).2.1
    have h2 := ih fun x hx => h x (by simp [hx])
    rw [szs_cons, List.length_cons]
    omega
theorem szs_ge29 {ls : List ByteArray} (h : ∀ s ∈ ls, 29 ≤ s.size) : 29 * ls.length ≤ szs ls := by
  induction ls with
  | nil => simp
  | cons s r ih =>
    have h1 := h s (by simp)
    have h2 := ih fun x hx => h x (by simp [hx])
    rw [szs_cons, List.length_cons]
    omega
/-- Few chunks. -/
theorem Inv.few {ls : List ByteArray} (h : Inv ls) : ls.length ≤ szs ls / 16 + 2 := by
  by_cases h2 : 2 ≤ ls.length
  · have := szs_ge29 (h.2 h2)
    omega
  · omega
/-- Which texts may be chunks of a text. -/
def Dt (E : Env) (t : List UInt8) : Prop := ∀ a b c : List UInt8, t = a ++ (b ++ c) → b ≠ [] → vld b = true → (b = t ∨ 29 ≤ b.length) → ∀ s : ByteArray, s.data.toList = b → E.D s
theorem Inv.big {ls : List ByteArray} (h : Inv ls) (h2 : 2 ≤ ls.length) : Big ls := fun s hs => ⟨h.1 s hs, h.2 h2 s hs⟩
theorem Big.take {ls : List ByteArray} (h : Big ls) (n : Nat) : Big (ls.take n) := fun s hs => h s (List.mem_of_mem_take hs)
theorem Big.drop {ls : List ByteArray} (h : Big ls) (n : Nat) : Big (ls.drop n) := fun s hs => h s (List.mem_of_mem_drop hs)
theorem Inv.takeBig {ls : List ByteArray} (h : Inv ls) {p : Nat} (hp : p < ls.length ∨ ls = []) : Big (ls.take p) := by
  by_cases h2 : 2 ≤ ls.length
  · exact (h.big h2).take p
  · intro s hs
    rcases hp with hp | rfl
    · obtain rfl : p = 0 := by omega
      simp at hs
    · simp at hs
theorem Inv.dropBig {ls : List ByteArray} (h : Inv ls) (p : Nat) : Big (ls.drop (p + 1)) := by
  by_cases h2 : 2 ≤ ls.length
  · exact (h.big h2).drop _
  · intro s hs
    rw [List.drop_of_length_le (by omega)] at hs
    simp at hs
/-- What pieces makes of a text. -/
def Pcs (t : List UInt8) (ls : List ByteArray) : Prop := cat ls = t ∧ (∀ s ∈ ls, Ck s) ∧ (64 < t.length → Big ls ∧ 2 ≤ ls.length) ∧ (t.length ≤ 64 → ls = [] ∧ t = [] ∨ ∃ s : ByteArray, ls = [s] ∧ s.data.toList = t)
theorem mem_cat {ls : List ByteArray} {s : ByteArray} (h : s ∈ ls) : ∃ a c, cat ls = a ++ (s.data.toList ++ c) := by
  obtain ⟨x, y, rfl⟩ := List.append_of_mem h
  exact ⟨cat x, cat y, by rw [cat_append, cat_cons]⟩
/-- The chunks of a text that was cut to pieces between two rows. -/
theorem weld_inv {E : Env} {la lb lp : List ByteArray} {t : List UInt8} (ha : Big la) (hb : Big lb) (hp : Pcs t lp) (hs : 29 ≤ t.length ∨ (la = [] ∧ lb = [])) (hD : Dt E (cat la ++ (t ++ cat lb))) :
    Inv (la ++ (lp ++ lb)) ∧ cat (la ++ (lp ++ lb)) = cat la ++ (t ++ cat lb) ∧ (∀ s ∈ lp, E.D s) := by
  have hck : ∀ s ∈ la ++ (lp ++ lb), Ck s := by
    intro s hs
    rcases List.mem_append.1 hs with h | h
    · exact (ha s h).1
    · rcases List.mem_append.1 h with h | h
      · exact hp.2.1 s h
      · exact (hb s h).1
  refine ⟨⟨hck, ?_⟩, by rw [cat_append, cat_append, hp.1], ?_⟩
  · intro h2 s hsm
    rcases List.mem_append.1 hsm with h | h
    · exact (ha s h).2
    · rcases List.mem_append.1 h with h | h
      · by_cases h64 : 64 < t.length
        · exact ((hp.2.2.1 h64).1 s h).2
        · rcases hp.2.2.2 (by omega) with ⟨e, _⟩ | ⟨x, e, ex⟩
          · rw [e] at h; simp at h
          · rw [e] at h
            simp at h
            subst h
            rcases hs with hs | ⟨e1, e2⟩
            · rw [← ex, bytes_length] at hs; exact hs
            · rw [e1, e2, e] at h2; simp at h2
      · exact (hb s h).2
  · intro s hsm
    obtain ⟨a, c, e⟩ := mem_cat hsm
    rw [hp.1] at e
    refine hD (cat la ++ a) s.data.toList (c ++ cat lb) (by rw [e]; simp) (fun e0 => ?_) (hp.2.1 s hsm).1 ?_ s rfl
    · have h1 := (hp.2.1 s hsm).2.1
      rw [← bytes_length, e0] at h1
      simp at h1
    · by_cases h64 : 64 < t.length
      · right
        rw [bytes_length]
        exact ((hp.2.2.1 h64).1 s hsm).2
      · rcases hp.2.2.2 (by omega) with ⟨e1, _⟩ | ⟨x, e1, ex⟩
        · rw [e1] at hsm; simp at hsm
        · rw [e1] at hsm
          simp at hsm
          subst hsm
          rcases hs with hs | ⟨ea, eb⟩
          · right; rw [ex]; exact hs
          · left; rw [ea, eb, ex]; simp [cat_nil]
end Go.Proofs.YtfgefdkkjfjjjaaDoor
