/- Breaks of lines in memory: rows of numbers, those of one's own; Is, Line, same. -/
import Derived.Test.YtafhogfbjklboaaDoorBrkM
import Derived.Test.YtafhogfbjklboaaDoorSubMem
import Derived.Laws.AppendOwnNone
namespace Go.Proofs.YtafhogfbjklboaaDoor
open Go.RowKit Go.Sort
set_option linter.unusedSimpArgs false
set_option linter.unusedVariables false

theorem Tryd.info_z : (Tryd.prog.info? 3).map (fun i => (i.zero, i.size, i.bytes)) = some (some (.int .i64 0), 1, 8) := by kernel_rfl
/-- A row of numbers in memory. -/
def NAt (w : World) (v : Value) (L : List Int) : Prop :=
  ∃ a cap, v = .slice a L.length cap ∧ L.length ≤ cap ∧ (a = none → cap = 0) ∧ ∀ i z, L[i]? = some z → ∃ g off, a = some ⟨g, off, none⟩ ∧ w.cell? ⟨g, off + i, none⟩ = some (.int .i64 z)
theorem NAt.later {w w' : World} {v : Value} {L : List Int} (h : NAt w v L) (hb : Below w.heap.size w w') : NAt w' v L := by
  obtain ⟨a, cap, e, hc, hn, h⟩ := h
  refine ⟨a, cap, e, hc, hn, fun i r hr => ?_⟩
  obtain ⟨g, off, ea, h1⟩ := h i r hr
  exact ⟨g, off, ea, cell_later7 hb (Nat.le_refl _) h1⟩
theorem nat_nil (w : World) : NAt w (.slice none 0 0) [] := ⟨none, 0, rfl, Nat.le_refl _, fun _ => rfl, fun i r h => by simp at h⟩
theorem nat_nil' {w : World} {L : List Int} (h : L = []) : NAt w (.slice none 0 0) L := by subst h; exact nat_nil w
theorem nat_alloc {w : World} {v : Value} {L : List Int} (h : NAt w v L) (o : Obj) : NAt (w.alloc o) v L := h.later ((Below.refl _ _).alloc (Nat.le_refl _) o)
theorem nat_shape {w : World} {v : Value} {L : List Int} (h : NAt w v L) : ∃ a cap, v = .slice a L.length cap := by obtain ⟨a, cap, e, _⟩ := h; exact ⟨a, cap, e⟩
theorem nat_cell {w : World} {a : Option Addr} {n cap : Nat} {L : List Int} (h : NAt w (.slice a n cap) L) {i : Nat} {x : Int} (hx : L[i]? = some x) : ∃ g off, a = some ⟨g, off, none⟩ ∧ w.cell? ⟨g, off + i, none⟩ = some (.int .i64 x) := by
  obtain ⟨a', cap', e, _, _, hc⟩ := h
  cases e
  exact hc i x hx
/-- A row of numbers of one's own. -/
def OwnZ (w : World) (B : Nat) (v : Value) (L : List Int) : Prop := w.ownsRow B 3 1 v L.length (L.map (Value.int .i64))
theorem OwnZ.nil (w : World) (B : Nat) : OwnZ w B (.slice none 0 0) [] := World.ownsRow_nil _ _ _ _
theorem OwnZ.num {w : World} {B : Nat} {v : Value} {L : List Int} (h : OwnZ w B v L) : NAt w v L := by
  rcases h.2 with ⟨h1, h2⟩ | ⟨g, cap, cur, h1, _, h3, h4, _, h6, h7⟩
  · obtain rfl : L = [] := List.eq_nil_of_length_eq_zero h2
    rw [h1]; exact nat_nil w
  · refine ⟨_, cap, h1, h4, (fun e => by cases e), fun i r hr => ⟨g, 0, rfl, ?_⟩⟩
    have := World.ownsRow.cells h (g := g) (by rw [h1]; rfl) i (.int .i64 r) (by rw [List.getElem?_map, hr]; rfl)
    rwa [addr_add7] at this
theorem OwnZ.later {w w' : World} {B : Nat} {v : Value} {L : List Int} (h : OwnZ w B v L) (hb : Below w.heap.size w w') : OwnZ w' B v L := by
  refine World.ownsRow.kept h (row := none) ⟨hb.os, hb.tape, hb.output, hb.size, fun k hk _ => hb.block k hk⟩ ?_
  cases hv : v.ownBlock <;> simp
theorem OwnZ.alloc {w : World} {B : Nat} {v : Value} {L : List Int} (h : OwnZ w B v L) (o : Obj) : OwnZ (w.alloc o) B v L := World.ownsRow.alloc h o
theorem OwnZ.shape {w : World} {B : Nat} {v : Value} {L : List Int} (h : OwnZ w B v L) : ∃ a cap, v = .slice a L.length cap ∧ L.length ≤ cap ∧ (L ≠ [] → ∃ g, a = some ⟨g, 0, none⟩) := by
  rcases h.2 with ⟨h1, h2⟩ | ⟨g, cap, cur, h1, _, _, h4, _⟩
  · exact ⟨none, 0, by rw [h1, h2], by omega, fun hne => absurd (List.eq_nil_of_length_eq_zero h2) hne⟩
  · exact ⟨_, _, h1, h4, fun _ => ⟨g, rfl⟩⟩
theorem OwnZ.low {w : World} {B B' : Nat} {v : Value} {L : List Int} (h : OwnZ w B v L) (hB : B' ≤ B) : OwnZ w B' v L := by
  refine ⟨h.1, ?_⟩
  rcases h.2 with hn | ⟨g, cap, cur, h1, hb, rest⟩
  · exact .inl hn
  · exact .inr ⟨g, cap, cur, h1, Nat.le_trans hB hb, rest⟩
theorem below16 {a w : World} (h : Below a.heap.size a w) (o : Obj) : Below a.heap.size a (w.alloc o) := h.alloc h.size o
theorem ret_bool16 {a b : Bool} (h : a = b) : Ending.returned (.bool a) = .returned (.bool b) := by rw [h]
theorem ret_int16 {a b : Int} (h : a = b) : Ending.returned (.int .i64 a) = .returned (.int .i64 b) := by rw [h]
theorem tup16 {v : Value} {a b : Int} (h : a = b) : Ending.returned (.tuple #[v, .int .i64 a]) = .returned (.tuple #[v, .int .i64 b]) := by rw [h]
/-- append onto a row of numbers of one's own: a row of numbers that lies in memory. -/
theorem wpList_append_row16 {w : World} {ops : Array Oper} {rest : List Oper} {o : Oper} {a : Act} {Q : Exit → Act → World → Prop} (hgd : o.guard = none) (s x : Operand)
    (ho : o.op = .call { callee := .builtin .append, args := #[s, x], argTypes := #[22, 22] }) (B : Nat) (v u : Value) (X Y : List Int) (hs : a.eval s = v) (hown : OwnZ w B v X) (hx : a.eval x = u) (hu : NAt w u Y)
    (hX : X.length ≤ 1073741824) (hY : Y.length ≤ 1073741824) (hB : B ≤ w.heap.size)
    (h : ∀ v' w', OwnZ w' B v' (X ++ Y) → w.grownBy w' v.ownBlock → wpList Tryd.prog ops Q rest (a.put o.dst v') w') : wpList Tryd.prog ops Q (o :: rest) a w := by
  obtain ⟨i0, hi, hz0, hz1, hz2⟩ := info_parts Tryd.info_z
  obtain ⟨ad, cap, rfl, _, hnn, hc⟩ := hu
  cases ad with
  | none =>
    obtain rfl : Y = [] := by
      cases Y with
      | nil => rfl
      | cons y Y => obtain ⟨g, off, e, _⟩ := hc 0 y rfl; cases e
    obtain rfl := hnn rfl
    refine wpList_append_own_none hgd s x 22 ho B 3 i0 1 Tryd.underlying22 hi _ _ _ hs hown hx (h _ w (by rw [List.append_nil]; exact hown) ⟨rfl, rfl, rfl, Nat.le_refl _, fun _ _ _ => rfl⟩)
  | some ad =>
    refine wpList_append_own _ hgd s x 22 ho B 3 i0 (.int .i64 0) 1 8 Tryd.underlying22 hi hz0 hz1 hz2 rfl (by decide) _ _ _ hs hown ad Y.length cap (Y.map (Value.int .i64)) hx (by simp) ?_ ?_ (by unfold maxLen; omega) (by omega) hB ?_
    · intro j r hr
      rw [List.getElem?_map] at hr
      obtain ⟨y, hy, rfl⟩ := Option.map_eq_some_iff.1 hr
      obtain ⟨g, off, e, hcell⟩ := hc j y hy
      cases e
      rw [addr_add7]
      exact hcell
    · intro r hr
      obtain ⟨y, _, rfl⟩ := List.mem_map.1 hr
      rfl
    · intro v' w' ho' hg' _
      refine h v' w' ?_ hg'
      unfold OwnZ
      simpa using ho'
/-- A literal of one number, laid into a block. -/
theorem nat_one {w : World} {g : Nat} (hg : g = w.heap.size) (c : Int) (e : TypeId) : NAt (w.alloc (.cells #[.int .i64 c] e)) (.slice (some ⟨g, 0, none⟩) 1 1) [c] := by
  subst hg
  refine ⟨_, 1, rfl, Nat.le_refl _, (fun e => by cases e), fun i r hr => ⟨w.heap.size, 0, rfl, ?_⟩⟩
  match i, hr with
  | 0, hr =>
    simp at hr
    subst hr
    have := cell_one_new w (.int .i64 c) e 0 (.int .i64 c) rfl
    rwa [addr_add7] at this
theorem grown16 {B : Nat} {a w w' : World} {v : Value} {L : List Int} (h : Below a.heap.size a w) (hg : w.grownBy w' v.ownBlock) (ho : OwnZ w B v L) (hB : a.heap.size ≤ B) : Below a.heap.size a w' := h.grown hg h.size (fun k hk => by have := (World.ownsRow.lt ho k hk).1; omega)
end Go.Proofs.YtafhogfbjklboaaDoor
