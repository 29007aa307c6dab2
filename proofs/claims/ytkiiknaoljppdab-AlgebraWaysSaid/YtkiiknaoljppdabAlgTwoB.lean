/- Two rows of Bools of one's own that grow side by side. -/
import Derived.Test.YtkiiknaoljppdabAlgTwo
namespace Go.Proofs.Ytkiiknaoljppdab
open Go.RowKit Go.Sort
set_option linter.unusedSimpArgs false
set_option linter.unusedVariables false

theorem Try.info_bool8 : (Try.prog.info? 4).map (fun i => (i.zero, i.size, i.bytes)) = some (some (.bool false), 1, 1) := by kernel_rfl
/-- A row of one's own, of these Bools. -/
def OwnB (w : World) (B : Nat) (v : Value) (L : List Bool) : Prop := w.ownsRow B 4 1 v L.length (L.map Value.bool)
theorem OwnB.nil (w : World) (B : Nat) : OwnB w B (.slice none 0 0) [] := World.ownsRow_nil _ _ _ _
theorem OwnB.row {w : World} {B : Nat} {v : Value} {L : List Bool} (h : OwnB w B v L) : BoolAt w v L := by
  rcases h.2 with ⟨h1, h2⟩ | ⟨g, cap, cur, h1, _, h3, h4, _⟩
  · obtain rfl : L = [] := List.eq_nil_of_length_eq_zero h2
    exact ⟨none, 0, h1, Nat.le_refl _, fun i z hz => by simp at hz⟩
  · refine ⟨some ⟨g, 0, none⟩, cap, h1, h4, fun i z hz => ⟨g, 0, rfl, ?_⟩⟩
    have hg := World.ownsRow.cells h (g := g) (by rw [h1]; rfl) i (.bool z) (by simp [hz])
    rw [addr_add7] at hg
    exact hg
theorem OwnB.later {w w' : World} {B : Nat} {v : Value} {L : List Bool} (h : OwnB w B v L) (hb : Below w.heap.size w w') : OwnB w' B v L := by
  refine ⟨h.1, h.2.imp id ?_⟩
  rintro ⟨g, cap, cur, h1, h2, h3, h4⟩
  exact ⟨g, cap, cur, h1, h2, (hb.block g (Array.getElem?_eq_some_iff.1 h3).1).trans h3, h4⟩
theorem ownB_push {w' : World} {B : Nat} {v' : Value} {X : List Bool} {c : Bool} {n : Nat} (hn : X.length = n) (h : w'.ownsRow B 4 1 v' (n + 1) (X.map Value.bool ++ [.bool c])) : OwnB w' B v' (X ++ [c]) := by
  show World.ownsRow _ _ _ _ _ _ _
  rw [List.length_append, hn, List.map_append]
  exact h
/-- append onto a row of Bools of one's own: its row lies where it lay, or is new. -/
theorem wp_append_bool {w : World} {o : Oper} {a : Act} {K : Act → World → Prop} {Q : Exit → Act → World → Prop} (s x : Operand)
    (ho : o.op = .call { callee := .builtin .append, args := #[s, x], argTypes := #[22, 22] }) (B : Nat) (v : Value) (X : List Bool) (hs : a.eval s = v) (hown : OwnB w B v X) (ad : Addr) (c : Bool) (hx : a.eval x = .slice (some ad) 1 1)
    (hc : w.cell? ad = some (.bool c)) (hsp : ad.spot = none) (hX : X.length ≤ 1073741824) (hB : B ≤ w.heap.size)
    (h : ∀ v' w', OwnB w' B v' (X ++ [c]) → w.grownBy w' v.ownBlock → (v'.ownBlock = v.ownBlock ∨ v'.ownBlock = some w.heap.size) → K (a.put o.dst v') w') : o.wp Try.prog a w K Q := by
  obtain ⟨i0, hi, hz0, hz1, hz2⟩ := info_parts Try.info_bool8
  have hnews : ∀ (j : Nat) (u : Value), ([.bool c] : List Value)[j]? = some u → w.cell? (ad.add j) = some u := by
    intro j u hu
    match j, hu with
    | 0, hu =>
      simp at hu
      subst hu
      obtain ⟨b, off, spot⟩ := ad
      simp only at hsp
      subst hsp
      rw [addr_add7]
      exact hc
  have h1 : ∀ u ∈ ([.bool c] : List Value), u.oneCell' = true := fun u hu => by simp at hu; subst hu; rfl
  have hown' : w.ownsRow B 4 1 v X.length (X.map Value.bool) := hown
  have h63 : X.length + 1 ≤ maxLen := by unfold maxLen; omega
  obtain ⟨v', w', hr, r1, r2, _⟩ := run_append_own (P := Try.prog) w B 22 o.type 4 i0 (.bool false) 1 1 Try.underlying22 hi hz0 hz1 hz2 rfl (by decide) v X.length (X.map Value.bool) hown' ad 1 1 [.bool c] rfl hnews h1 h63 (by omega) hB
  have hb := append_block (P := Try.prog) w B 22 o.type 4 i0 (.bool false) 1 1 Try.underlying22 hi hz0 hz1 hz2 v X.length (X.map Value.bool) hown' ad 1 1 [.bool c] rfl hnews h1 h63 (by omega) (by omega) hr
  unfold Oper.wp execOp
  simp only [ho, resolve, invoke, builtin, Sem.run_bind, Sem.run_pure, Result.andThen_ok, List.map_toArray, List.map_cons, List.map_nil, hs, hx, hr]
  exact h v' w' (ownB_push rfl r1) r2 hb
theorem wpList_append_bool {w : World} {ops : Array Oper} {rest : List Oper} {o : Oper} {a : Act} {Q : Exit → Act → World → Prop} (hgd : o.guard = none) (s x : Operand)
    (ho : o.op = .call { callee := .builtin .append, args := #[s, x], argTypes := #[22, 22] }) (B : Nat) (v : Value) (X : List Bool) (hs : a.eval s = v) (hown : OwnB w B v X) (ad : Addr) (c : Bool) (hx : a.eval x = .slice (some ad) 1 1)
    (hc : w.cell? ad = some (.bool c)) (hsp : ad.spot = none) (hX : X.length ≤ 1073741824) (hB : B ≤ w.heap.size)
    (h : ∀ v' w', OwnB w' B v' (X ++ [c]) → w.grownBy w' v.ownBlock → (v'.ownBlock = v.ownBlock ∨ v'.ownBlock = some w.heap.size) → wpList Try.prog ops Q rest (a.put o.dst v') w') : wpList Try.prog ops Q (o :: rest) a w :=
  wpList_plain hgd fun K hK => wp_append_bool s x ho B v X hs hown ad c hx hc hsp hX hB fun v' w' h1 h2 h3 => hK _ _ (h v' w' h1 h2 h3)
/-- TwoB rows of one's own, apart. -/
def TwoB (w : World) (B : Nat) (u v : Value) (X Y : List Bool) : Prop := OwnB w B u X ∧ OwnB w B v Y ∧ (u.ownBlock = none ∨ u.ownBlock ≠ v.ownBlock)
theorem TwoB.nil (w : World) (B : Nat) : TwoB w B (.slice none 0 0) (.slice none 0 0) [] [] := ⟨OwnB.nil _ _, OwnB.nil _ _, Or.inl rfl⟩
theorem ownB_lt {w : World} {B : Nat} {v : Value} {X : List Bool} (h : OwnB w B v X) {g : Nat} (hg : v.ownBlock = some g) : B ≤ g ∧ g < w.heap.size := World.ownsRow.lt h g hg
theorem TwoB.later {w w' : World} {B : Nat} {u v : Value} {X Y : List Bool} (h : TwoB w B u v X Y) (hb : Below w.heap.size w w') : TwoB w' B u v X Y := ⟨h.1.later hb, h.2.1.later hb, h.2.2⟩
/-- The first one grew. -/
theorem TwoB.left {w w' : World} {B : Nat} {u v u' : Value} {X Y X' : List Bool} (h : TwoB w B u v X Y) (ho : OwnB w' B u' X') (hg : w.grownBy w' u.ownBlock) (hb : u'.ownBlock = u.ownBlock ∨ u'.ownBlock = some w.heap.size) : TwoB w' B u' v X' Y := by
  obtain ⟨h1, h2, h3⟩ := h
  refine ⟨ho, World.ownsRow.kept h2 hg ?_, ?_⟩
  · rcases h3 with h3 | h3
    · by_cases hv : v.ownBlock = none
      · exact Or.inl hv
      · exact Or.inr (by rw [h3]; exact hv)
    · exact Or.inr (Ne.symm h3)
  · rcases hb with hb | hb
    · rw [hb]; exact h3
    · refine Or.inr fun e => ?_
      have := (ownB_lt h2 (e ▸ hb)).2
      omega
theorem TwoB.swap {w : World} {B : Nat} {u v : Value} {X Y : List Bool} (h : TwoB w B u v X Y) : TwoB w B v u Y X := by
  refine ⟨h.2.1, h.1, ?_⟩
  rcases h.2.2 with h3 | h3
  · by_cases hv : v.ownBlock = none
    · exact Or.inl hv
    · exact Or.inr (by rw [h3]; exact hv)
  · exact Or.inr (Ne.symm h3)
theorem TwoB.right {w w' : World} {B : Nat} {u v v' : Value} {X Y Y' : List Bool} (h : TwoB w B u v X Y) (ho : OwnB w' B v' Y') (hg : w.grownBy w' v.ownBlock) (hb : v'.ownBlock = v.ownBlock ∨ v'.ownBlock = some w.heap.size) : TwoB w' B u v' X Y' :=
  (h.swap.left ho hg hb).swap
end Go.Proofs.Ytkiiknaoljppdab
