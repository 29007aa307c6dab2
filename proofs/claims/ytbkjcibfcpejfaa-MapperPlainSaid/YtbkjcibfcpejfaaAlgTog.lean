/- algebra's together: two rows place by place. -/
import Derived.Test.YtbkjcibfcpejfaaAlgMath
namespace Go.Proofs.Ytbkjcibfcpejfaa
open Go.RowKit Go.Sort
set_option linter.unusedSimpArgs false
set_option linter.unusedVariables false

def slen : Value → Nat
  | .slice _ n _ => n
  | _ => 0
def In8 (c : Int) : Prop := 0 ≤ c ∧ c ≤ 100
/-- What is left of a row, or nothing. -/
def Tl (w : World) (B g : Nat) (v : Value) (rs : List Sg) : Prop := (rs ≠ [] → Tk w B g v rs) ∧ (rs = [] → ∃ a cap, v = .slice a 0 cap)
theorem Tl.kept {w w' : World} {B g : Nat} {v : Value} {rs : List Sg} (h : Tl w B g v rs) {row : Option Nat} (hg : w.grownBy w' row) (hne : some g ≠ row) : Tl w' B g v rs :=
  ⟨fun e => (h.1 e).kept hg hne, h.2⟩
theorem tl_less {w : World} {B g : Nat} {v : Value} {rs : List Sg} (h : Tk w B g v rs) : Tl w B g v rs :=
  ⟨fun _ => h, fun e => by obtain ⟨a, cap, e2⟩ := h.shape; subst e; exact ⟨a, cap, e2⟩⟩

/-- Segs of a subset: what is left of it is all. -/
theorem segs_tl {w : World} {p : Value} {L : List Int} (h : Sub w p L) (hl : L.length ≤ 20000) : Calls Try.prog 27 #[p] w fun e w' => ∃ v g, e = .returned v ∧ Tl w' w.heap.size g v (rle L) ∧ (L ≠ [] → g < w'.heap.size) ∧ Below w.heap.size w w' := by
  refine (segs_own h (by omega)).mono ?_
  rintro e w' ⟨v, rfl, ho, b⟩
  obtain ⟨a, cap, rfl, hc, hg⟩ := own_shape ho
  by_cases hL : L = []
  · subst hL
    exact ⟨_, 0, rfl, ⟨fun h => absurd rfl h, fun _ => ⟨a, cap, rfl⟩⟩, fun h => absurd rfl h, b⟩
  · have hne : rle L ≠ [] := fun e => hL (by rw [← xp_rle L, e]; rfl)
    obtain ⟨g, rfl⟩ := hg hne
    have t : Tk w' w.heap.size g (.slice (some ⟨g, 0, none⟩) (rle L).length cap) (rle L) := ⟨rle L, 0, cap, _, ho, hc, Nat.zero_le _, rfl, rfl, fun _ => rfl⟩
    exact ⟨_, g, rfl, tl_less t, fun _ => t.lt.2, b⟩
theorem ok8_done {f : Int → Int → Int} {L M done A B : List Int} (hL : Ok8 L) (h : tog f L M = done ++ tog f A B) : done.length ≤ 20000 := by
  have := congrArg List.length h
  rw [List.length_append] at this
  have := tog_len f L M
  have := hL.1
  omega
theorem ok8_tog {f : Int → Int → Int} {L M : List Int} (hL : Ok8 L) (hM : Ok8 M) (hf : ∀ a b, In8 a → In8 b → f a b = -1 ∨ In8 (f a b)) : Ok8 (tog f L M) := by
  refine ⟨Nat.le_trans (tog_len f L M) hL.1, fun c hc => ?_⟩
  obtain ⟨a, b, ha, hb, rfl, hn⟩ := tog_mem hc
  rcases hf a b (hL.2 a ha) (hM.2 b hb) with h | h
  · exact absurd h hn
  · exact h
/-- Two rows that are gone through, and one that grows. -/
structure Tm (w : World) (B1 B2 B3 gx gy : Nat) (wr : World) (rv xv yv : Value) (xs ys : List Sg) (done : List Int) : Prop where
  tx : Tl wr B1 gx xv xs
  ty : Tl wr B2 gy yv ys
  own : Own wr B3 rv (rle done)
  be : Below w.heap.size w wr
  sz : B3 ≤ wr.heap.size
theorem Tm.grown {w : World} {B1 B2 B3 gx gy : Nat} {wr w' : World} {rv xv yv : Value} {xs ys : List Sg} {done : List Int} (h : Tm w B1 B2 B3 gx gy wr rv xv yv xs ys done) (hg : Below wr.heap.size wr w') : Tm w B1 B2 B3 gx gy w' rv xv yv xs ys done :=
  ⟨h.tx.kept (grown_below hg none) (by simp), h.ty.kept (grown_below hg none) (by simp), h.own.later hg, h.be.trans (hg.mono h.be.size), Nat.le_trans h.sz hg.size⟩
/-- What the loop hands on. -/
structure Tg (f : Int → Int → Int) (L M : List Int) (w : World) (B1 B2 B3 gx gy : Nat) (wr : World) (rv xv yv : Value) (xs ys : List Sg) (done : List Int) : Prop where
  tm : Tm w B1 B2 B3 gx gy wr rv xv yv xs ys done
  eq : tog f L M = done ++ tog f (xp xs) (xp ys)
  len : (xp xs).length = (xp ys).length
  px : ∀ r ∈ xs, 1 ≤ r.1
  py : ∀ r ∈ ys, 1 ≤ r.1
  mx : ∀ c ∈ xp xs, In8 c
  my : ∀ c ∈ xp ys, In8 c
  lx : (xp xs).length ≤ 20000
  ln : (xp xs).length ≤ L.length
theorem sgs_len {rs : List Sg} (h : ∀ r ∈ rs, 1 ≤ r.1) : rs.length ≤ (xp rs).length := by
  induction rs with
  | nil => simp
  | cons r rs ih =>
    have := ih (fun q hq => h q (List.mem_cons_of_mem _ hq))
    have := h r (by simp)
    simp [xp]
    omega

end Go.Proofs.Ytbkjcibfcpejfaa
