/- Runs in memory; subsets in memory. -/
import Derived.Test.YtafhogfbjklboaaDoorRows
import Derived.Test.YtafhogfbjklboaaDoorSubMath
import Derived.Test.YtafhogfbjklboaaDoorTurns
import Derived.WalkKit
import Derived.WalkSpells
import Derived.WalkLawsBesides
import Derived.OwnWalk
import Derived.Laws.Rows
import Derived.Deep.QuietTactic
import Derived.BigQuiet
import Derived.Lib.QuietBelow
import Derived.Lib.OthersKept
import Derived.WalkSmall
namespace Go.Proofs.YtafhogfbjklboaaDoor
open Go.RowKit Go.Sort
set_option linter.unusedSimpArgs false
set_option linter.unusedVariables false

/-- Runs as cells. -/
def cs (rs : List Sg) : List Value := rs.flatMap fun r => [.int .i64 r.1, .int .i64 r.2]
theorem cs_nil : cs [] = [] := rfl
theorem cs_append (a b : List Sg) : cs (a ++ b) = cs a ++ cs b := by simp [cs]
theorem cs_one (r : Sg) : cs [r] = [.int .i64 r.1, .int .i64 r.2] := by simp [cs]
theorem cs_cons (r : Sg) (rs : List Sg) : cs (r :: rs) = .int .i64 r.1 :: .int .i64 r.2 :: cs rs := by simp [cs]
theorem cs_length (rs : List Sg) : (cs rs).length = rs.length * 2 := by
  induction rs with
  | nil => rfl
  | cons r rs ih => rw [cs_cons]; simp [ih]; omega
theorem cs_get : ∀ {rs : List Sg} {i : Nat} {r : Sg}, rs[i]? = some r → (cs rs)[i * 2]? = some (.int .i64 r.1) ∧ (cs rs)[i * 2 + 1]? = some (.int .i64 r.2)
  | q :: rs, 0, r, h => by simp at h; subst h; rw [cs_cons]; simp
  | q :: rs, i + 1, r, h => by
    have ih := cs_get (rs := rs) (i := i) (r := r) (by simpa using h)
    rw [cs_cons, show (i + 1) * 2 = i * 2 + 1 + 1 from by omega, show i * 2 + 1 + 1 + 1 = (i * 2 + 1) + 1 + 1 from rfl]
    simpa using ih
theorem cs_oneCell {rs : List Sg} : ∀ u ∈ cs rs, u.oneCell' = true := by
  intro u hu
  simp only [cs, List.mem_flatMap] at hu
  obtain ⟨r, _, hu⟩ := hu
  simp at hu
  rcases hu with rfl | rfl <;> rfl
/-- Runs lie in memory. -/
def SgAt (w : World) (v : Value) (rs : List Sg) : Prop :=
  ∃ a cap, v = .slice a rs.length cap ∧ rs.length ≤ cap ∧ (a = none → cap = 0) ∧ ∀ i r, rs[i]? = some r → ∃ g off, a = some ⟨g, off, none⟩ ∧ w.cell? ⟨g, off + i * 2, none⟩ = some (.int .i64 r.1) ∧ w.cell? ⟨g, off + i * 2 + 1, none⟩ = some (.int .i64 r.2)
theorem cell_later7 {w w' : World} {B : Nat} (hb : Below B w w') (hB : w.heap.size ≤ B) {a : Addr} {v : Value} (h : w.cell? a = some v) : w'.cell? a = some v :=
  (hb.cell (p := a) (Nat.lt_of_lt_of_le (World.block_lt_of_cell? w a h) hB)).trans h
theorem SgAt.later {w w' : World} {v : Value} {rs : List Sg} (h : SgAt w v rs) (hb : Below w.heap.size w w') : SgAt w' v rs := by
  obtain ⟨a, cap, e, hc, hn, h⟩ := h
  refine ⟨a, cap, e, hc, hn, fun i r hr => ?_⟩
  obtain ⟨g, off, ea, h1, h2⟩ := h i r hr
  exact ⟨g, off, ea, cell_later7 hb (Nat.le_refl _) h1, cell_later7 hb (Nat.le_refl _) h2⟩
theorem SgAt.nil (w : World) : SgAt w (.slice none 0 0) [] := ⟨none, 0, rfl, Nat.le_refl _, fun _ => rfl, fun i r h => by simp at h⟩
/-- A row of numbers in memory. -/
def NumAt (k : IntKind) (w : World) (v : Value) (zs : List Int) : Prop :=
  ∃ a cap, v = .slice a zs.length cap ∧ zs.length ≤ cap ∧ ∀ i z, zs[i]? = some z → ∃ g off, a = some ⟨g, off, none⟩ ∧ w.cell? ⟨g, off + i, none⟩ = some (.int k z)
theorem NumAt.later {k : IntKind} {w w' : World} {v : Value} {zs : List Int} (h : NumAt k w v zs) (hb : Below w.heap.size w w') : NumAt k w' v zs := by
  obtain ⟨a, cap, e, hc, h⟩ := h
  refine ⟨a, cap, e, hc, fun i r hr => ?_⟩
  obtain ⟨g, off, ea, h1⟩ := h i r hr
  exact ⟨g, off, ea, cell_later7 hb (Nat.le_refl _) h1⟩
/-- A row of triples in memory. -/
def StAt (w : World) (v : Value) (xs : List (Int × Int × Int)) : Prop :=
  ∃ a cap, v = .slice a xs.length cap ∧ xs.length ≤ cap ∧ ∀ i x, xs[i]? = some x → ∃ g off, a = some ⟨g, off, none⟩ ∧ w.cell? ⟨g, off + i * 3, none⟩ = some (.int .i64 x.1) ∧ w.cell? ⟨g, off + i * 3 + 1, none⟩ = some (.int .i64 x.2.1) ∧ w.cell? ⟨g, off + i * 3 + 2, none⟩ = some (.int .i64 x.2.2)
theorem addr_add7 (b o j : Nat) : (⟨b, o, none⟩ : Addr).add j = ⟨b, o + j, none⟩ := by
  unfold Addr.add
  split
  · subst_vars; rfl
  · rfl
theorem grown_trans {a b c : World} {row : Option Nat} (h : a.grownBy b row) (k : b.grownBy c row) : a.grownBy c row :=
  ⟨k.os.trans h.os, k.tape.trans h.tape, k.output.trans h.output, Nat.le_trans h.size k.size, fun i hi hn => (k.block i (Nat.lt_of_lt_of_le hi h.size) hn).trans (h.block i hi hn)⟩
theorem grown_drew {a : World} (n : Nat) (row : Option Nat) : a.grownBy (a.drewN n) row := ⟨rfl, rfl, rfl, Nat.le_refl _, fun _ _ _ => rfl⟩
theorem grown_below {a b : World} (h : Below a.heap.size a b) (row : Option Nat) : a.grownBy b row := ⟨h.os, h.tape, h.output, h.size, fun i hi _ => h.block i hi⟩
end Go.Proofs.YtafhogfbjklboaaDoor
