/- algebra's together: two rows place by place. -/
import Derived.Test.YtalolaajcmndeaaDoorAlgMath
namespace Go.Proofs.YtalolaajcmndeaaDoor
open Go.RowKit Go.Sort
set_option linter.unusedSimpArgs false
set_option linter.unusedVariables false

def slen : Value → Nat
  | .slice _ n _ => n
  | _ => 0
def In8 (c : Int) : Prop := 0 ≤ c ∧ c ≤ 100
/-- What is left of a row, or nothing. -/
def Tl (w : World) (B g : Nat) (v : Value) (rs : List Sg) : Prop := (rs ≠ [] → Tk w B g v rs) ∧ (rs = [] → ∃ a cap, v = .slice a 0 cap)
theorem Tl.kept {w w' : World} {B g : Nat} {v : Value} {rs : List Sg} (h : Tl w B g v rs) {row : Option Nat} (hg : w.grownBy w' row) (hne : some g ≠ row) : Tl w' B g v rs :=
  ⟨fun e => (h.1 e).kept hg hne, h.2⟩
theorem tl_less {w : World} {B g : Nat} {v : Value} {rs : List Sg} (h : Tk w B g v rs) : Tl w B g v rs :=
  ⟨fun _ => h, fun e => by obtain ⟨a, cap, e2⟩ := h.shape; subst e; exact ⟨a, cap, e2⟩⟩

/-- Segs of a subset: what is left of it is all. -/
theorem segs_tl {w : World} {p : Value} {L : List Int} (h : Sub w p L) (hl : L.length ≤ 20000) : Calls Tryd.prog 49 #[p] w fun e w' => ∃ v g, e = .returned v ∧ Tl w' w.heap.size g v (rle L) ∧ (L ≠ [] → g < w'.heap.size) ∧ Below w.heap.size w w' := by
  refine (segs_own h (by omega)).mono ?_
  rintro e w' ⟨v, rfl, ho, b⟩
  obtain ⟨a, cap, rfl, hc, hg⟩ := own_shape ho
  by_cases hL : L = []
  · subst hL
    exact ⟨_, 0, rfl, ⟨fun h => absurd rfl h, fun _ => ⟨a, cap, rfl⟩⟩, fun h => absurd rfl h, b⟩
  · have hne : rle L ≠ [] := fun e => hL (by rw [← xp_rle L, e]; rfl)
    obtain ⟨g, rfl⟩ := hg hne
    have t : Tk w' w.heap.size g (.slice (some ⟨g, 0, none⟩) (rle L).length cap) (rle L) := ⟨rle L, 0, cap, _, ho, hc, Nat.zero_le _, rfl, rfl, fun _ => rfl⟩
    exact ⟨_, g, rfl, tl_less t, fun _ => t.lt.2, b⟩
theorem ok8_done {f : Int → Int → Int} {L M done A B : List Int} (hL : Ok8 L) (h : tog f L M = done ++ tog f A B) : done.length ≤ 20000 := by
  have := congrArg List.length h
  rw [List.length_append] at this
  have := tog_len f L M
  have := hL.1
  omega
theorem ok8_tog {f : Int → Int → Int} {L M : List Int} (hL : Ok8 L) (hM : Ok8 M) (hf : ∀ a b, In8 a → In8 b → f a b = -1 ∨ In8 (f a b)) : Ok8 (tog f L M) := by
  refine ⟨Nat.le_trans (tog_len f L M) hL.1, fun c hc => ?_⟩
  obtain ⟨a, b, ha, hb, rfl, hn⟩ := tog_mem hc
  rcases hf a b (hL.2 a ha) (hM.2 b hb) with h | h
  · exact absurd h hn
  · exact h
/-- Two rows that are gone through, and one that grows. -/
structure Tm (w : World) (B1 B2 B3 gx gy : Nat) (wr : World) (rv xv yv : Value) (xs ys : List Sg) (done : List Int) : Prop where
  tx : Tl wr B1 gx xv xs
  ty : Tl wr B2 gy yv ys
  own : Own wr B3 rv (rle done)
  be : Below w.heap.size w wr
  sz : B3 ≤ wr.heap.size
theorem Tm.grown {w : World} {B1 B2 B3 gx gy : Nat} {wr w' : World} {rv xv yv : Value} {xs ys : List Sg} {done : List Int} (h : Tm w B1 B2 B3 gx gy wr rv xv yv xs ys done) (hg : Below wr.heap.size wr w') : Tm w B1 B2 B3 gx gy w' rv xv yv xs ys done :=
  ⟨h.tx.kept (grown_below hg none) (by simp), h.ty.kept (grown_below hg none) (by simp), h.own.later hg, h.be.trans (hg.mono h.be.size), Nat.le_trans h.sz hg.size⟩
theorem tm_add {w : World} {B1 B2 B3 gx gy : Nat} {wr : World} {rv xv yv : Value} {xs ys : List Sg} {done : List Int} (h : Tm w B1 B2 B3 gx gy wr rv xv yv xs ys done) (hw : w.heap.size ≤ B3) (hx : gx < B3) (hy : gy < B3) (n c : Int) (hn : 1 ≤ n) (hn2 : n ≤ 20000) (hd : done.length ≤ 20000) :
    Calls Tryd.prog 56 #[rv, .int .i64 n, .int .i64 c] wr fun e w' => ∃ rv', e = .returned rv' ∧ Tm w B1 B2 B3 gx gy w' rv' xv yv xs ys (done ++ List.replicate n.toNat c) := by
  refine (aadd_any B3 rv done n c wr h.sz (by omega) hn (by omega) h.own).mono ?_
  rintro e w' ⟨rv', rfl, o', g'⟩
  refine ⟨rv', rfl, h.tx.kept g' ?_, h.ty.kept g' ?_, o', h.be.grown g' h.be.size ?_, Nat.le_trans h.sz g'.size⟩
  · intro e; have := (h.own.lt _ e.symm).1; omega
  · intro e; have := (h.own.lt _ e.symm).1; omega
  · intro j hj; have := (h.own.lt _ hj).1; omega
theorem tm_tx {w : World} {B1 B2 B3 gx gy : Nat} {wr : World} {rv xv yv : Value} {xs ys : List Sg} {done : List Int} {m c : Int} (h : Tm w B1 B2 B3 gx gy wr rv xv yv ((m, c) :: xs) ys done) (hw : w.heap.size ≤ B1) (hx : gx < B3) (hxy : gx ≠ gy) (n : Int) (hn : 1 ≤ n) (hn2 : n ≤ m) (hm : m ≤ 20000) (hl : xs.length ≤ 20000) :
    Calls Tryd.prog 55 #[xv, .int .i64 n] wr fun e w' => ∃ xv', e = .returned xv' ∧ slen xv' = (less m c n xs).length ∧ Tm w B1 B2 B3 gx gy w' rv xv' yv (less m c n xs) ys done := by
  have tk := h.tx.1 (by simp)
  refine (taken_any m c n tk hn hn2 (by omega) (by omega)).mono ?_
  rintro e w' ⟨xv', rfl, t', g'⟩
  obtain ⟨a, cap, e⟩ := t'.shape
  refine ⟨xv', rfl, by rw [e]; rfl, tl_less t', h.ty.kept g' ?_, World.ownsRow.kept h.own g' ?_, h.be.grown g' h.be.size ?_, Nat.le_trans h.sz g'.size⟩
  · intro e; simp at e; exact hxy e.symm
  · by_cases hv : rv.ownBlock = none
    · exact Or.inl hv
    · refine Or.inr fun e => ?_
      have := (h.own.lt gx e).1
      omega
  · intro j hj; cases hj; have := tk.lt.1; omega
theorem tm_ty {w : World} {B1 B2 B3 gx gy : Nat} {wr : World} {rv xv yv : Value} {xs ys : List Sg} {done : List Int} {m c : Int} (h : Tm w B1 B2 B3 gx gy wr rv xv yv xs ((m, c) :: ys) done) (hw : w.heap.size ≤ B2) (hx : gy < B3) (hxy : gx ≠ gy) (n : Int) (hn : 1 ≤ n) (hn2 : n ≤ m) (hm : m ≤ 20000) (hl : ys.length ≤ 20000) :
    Calls Tryd.prog 55 #[yv, .int .i64 n] wr fun e w' => ∃ yv', e = .returned yv' ∧ slen yv' = (less m c n ys).length ∧ Tm w B1 B2 B3 gx gy w' rv xv yv' xs (less m c n ys) done := by
  have tk := h.ty.1 (by simp)
  refine (taken_any m c n tk hn hn2 (by omega) (by omega)).mono ?_
  rintro e w' ⟨yv', rfl, t', g'⟩
  obtain ⟨a, cap, e⟩ := t'.shape
  refine ⟨yv', rfl, by rw [e]; rfl, h.tx.kept g' ?_, tl_less t', World.ownsRow.kept h.own g' ?_, h.be.grown g' h.be.size ?_, Nat.le_trans h.sz g'.size⟩
  · intro e; simp at e; exact hxy e
  · by_cases hv : rv.ownBlock = none
    · exact Or.inl hv
    · refine Or.inr fun e => ?_
      have := (h.own.lt gy e).1
      omega
  · intro j hj; cases hj; have := tk.lt.1; omega
/-- What the loop hands on. -/
structure Tg (f : Int → Int → Int) (L M : List Int) (w : World) (B1 B2 B3 gx gy : Nat) (wr : World) (rv xv yv : Value) (xs ys : List Sg) (done : List Int) : Prop where
  tm : Tm w B1 B2 B3 gx gy wr rv xv yv xs ys done
  eq : tog f L M = done ++ tog f (xp xs) (xp ys)
  len : (xp xs).length = (xp ys).length
  px : ∀ r ∈ xs, 1 ≤ r.1
  py : ∀ r ∈ ys, 1 ≤ r.1
  mx : ∀ c ∈ xp xs, In8 c
  my : ∀ c ∈ xp ys, In8 c
  lx : (xp xs).length ≤ 20000
  ln : (xp xs).length ≤ L.length
theorem sgs_len {rs : List Sg} (h : ∀ r ∈ rs, 1 ≤ r.1) : rs.length ≤ (xp rs).length := by
  induction rs with
  | nil => simp
  | cons r rs ih =>
    have := ih (fun q hq => h q (List.mem_cons_of_mem _ hq))
    have := h r (by simp)
    simp [xp]
    omega

end Go.Proofs.YtalolaajcmndeaaDoor
