/- Layer 8's made, is, of. -/
import Derived.Test.YtbkjcibfcpejfaaAlgDel
import Derived.Test.YtbkjcibfcpejfaaSubRefS
namespace Go.Proofs.Ytbkjcibfcpejfaa
open Go.RowKit Go.Sort
set_option linter.unusedSimpArgs false
set_option linter.unusedVariables false

theorem cell_one8 (w : World) (x : Value) (e : TypeId) : ∀ (j : Nat) (u : Value), ([x] : List Value)[j]? = some u → (w.alloc (.cells #[x] e)).cell? ((⟨w.heap.size, 0, none⟩ : Addr).add j) = some u := by
  intro j u h
  rw [addr_add7, World.cell?_alloc_new]
  match j, h with
  | 0, h => simpa using h
/-- A row of Bools in memory. -/
def BoolAt (w : World) (v : Value) (bs : List Bool) : Prop :=
  ∃ a cap, v = .slice a bs.length cap ∧ bs.length ≤ cap ∧ ∀ i b, bs[i]? = some b → ∃ g off, a = some ⟨g, off, none⟩ ∧ w.cell? ⟨g, off + i, none⟩ = some (.bool b)
theorem BoolAt.later {w w' : World} {v : Value} {bs : List Bool} (h : BoolAt w v bs) (hb : Below w.heap.size w w') : BoolAt w' v bs := by
  obtain ⟨a, cap, e, hc, h⟩ := h
  refine ⟨a, cap, e, hc, fun i r hr => ?_⟩
  obtain ⟨g, off, ea, h1⟩ := h i r hr
  exact ⟨g, off, ea, cell_later7 hb (Nat.le_refl _) h1⟩
theorem BoolAt.take {w : World} {a : Option Addr} {n cap : Nat} {bs : List Bool} (h : BoolAt w (.slice a n cap) bs) (m : Nat) (hm : m ≤ n) : BoolAt w (.slice a m cap) (bs.take m) := by
  obtain ⟨a', cap', e, hc, h⟩ := h
  cases e
  have hl : (bs.take m).length = m := by simp; omega
  refine ⟨a, cap, by rw [hl], by omega, fun i b hb => ?_⟩
  rw [List.getElem?_take] at hb
  split at hb
  · exact h i b hb
  · cases hb
def b2i (b : Bool) : Int := if b then 1 else 0
/-- One number more, at the end of a row of one's own. -/
theorem ownI_push {w' : World} {B : Nat} {v' : Value} {X : List Int} {c : Int} {n : Nat} (hn : X.length = n) (h : w'.ownsRow B 3 1 v' (n + 1) (X.map (Value.int .i64) ++ [.int .i64 c])) : OwnI w' B v' (X ++ [c]) := by
  show World.ownsRow _ _ _ _ _ _ _
  rw [List.length_append, hn, List.map_append]
  exact h
theorem take_map_succ {α β : Type} {l : List α} {k : Nat} {x : α} (f : α → β) (h : l[k]? = some x) : (l.take (k + 1)).map f = (l.take k).map f ++ [f x] := by
  rw [take_snoc7 h]; simp
theorem ok8_bools (bs : List Bool) (h : bs.length ≤ 20000) : Ok8 (bs.map b2i) := ⟨by simpa using h, fun c hc => by
  obtain ⟨b, _, rfl⟩ := List.mem_map.1 hc
  cases b <;> decide⟩
end Go.Proofs.Ytbkjcibfcpejfaa
