/- A block of another make is no part of a node. -/
import Derived.Test.YtbpklbhaoemkkabDoorSplit
namespace Go.Proofs.YtbpklbhaoemkkabDoor
open Go.RowKit Go.Sort
set_option linter.unusedSimpArgs false
set_option linter.unusedVariables false

theorem NdC.ne {E : Env} {t : TypeId} {w : World} {g d r : Nat} {ls : List ByteArray} {s : ByteArray} {kids : Value} {a : Array Value} (h : NdC E w g d ls s kids) (ht : t ≠ 90) (hr : Rt t w r a) : g ≠ r := by
  rintro rfl
  obtain ⟨_, _, _, _, _, _, hn, _⟩ := h
  unfold Rt at hn hr
  rw [hn] at hr
  simp at hr
  exact ht hr.2.symm
/-- A row in which no two neighbours are pointers to something. -/
def Lone (a : Array Value) : Prop := ∀ i x y, a[i]? = some (.pointer (some x)) → a[i + 1]? = some (.pointer (some y)) → False
theorem NdA.avoid {E : Env} {A : Nat → Prop} {t : TypeId} {w : World} {r : Nat} {a : Array Value} (ht : t ≠ 90) (hr : Rt t w r a) (ha : Lone a) : ∀ {d g : Nat} {ls : List ByteArray}, NdA E A w d g ls → NdA E (fun b => b ≠ r) w d g ls
  | 0, _, _, ⟨_, s, e, h⟩ => ⟨h.ne ht hr, s, e, h⟩
  | d + 1, g, ls, ⟨_, ks, kb, off, cap, _, hc, h2, h3, hk, e, h, hp⟩ => by
    refine ⟨h.ne ht hr, ks, kb, off, cap, ?_, hc, h2, h3, fun k hm => NdA.avoid ht hr ha (hk k hm), e, h, hp⟩
    rintro rfl
    match ks, h2 with
    | k1 :: k2 :: kr, _ =>
      have p0 := hp 0 k1.1 (by simp)
      have p1 := hp 1 k2.1 (by simp)
      rw [hr.cell] at p0 p1
      exact ha off _ _ p0 p1
theorem lone1 (x : Value) : Lone #[x] := by
  intro i a b h1 h2
  cases i with
  | zero => simp at h2
  | succ n => simp at h1
theorem lone4 (x0 x1 x2 x3 : Int) : Lone #[.int .i64 x0, .int .i64 x1, .int .i64 x2, .int .i64 x3] := by
  intro i a b h1 _
  match i, h1 with
  | 0, h1 => simp at h1
  | 1, h1 => simp at h1
  | 2, h1 => simp at h1
  | 3, h1 => simp at h1
  | n + 4, h1 => simp at h1
/-- What is stored into such a block doesn't touch a tree. -/
theorem Nd.put {E : Env} {t : TypeId} {w : World} {r : Nat} {a : Array Value} (ht : t ≠ 90) (hr : Rt t w r a) (ha : Lone a) {d g : Nat} {ls : List ByteArray} (h : Nd E w d g ls) (j : Nat) (x : Value) : Nd E (w.setCell ⟨r, j, none⟩ x) d g ls :=
  ((NdA.avoid ht hr ha h).keep fun b hb _ => heap_setCell_other _ _ _ _ hb).nd
theorem Tr.put {E : Env} {t : TypeId} {w : World} {r : Nat} {a : Array Value} (ht : t ≠ 90) (hr : Rt t w r a) (ha : Lone a) {v : Value} {ls : List ByteArray} (h : Tr E w v ls) (j : Nat) (x : Value) : Tr E (w.setCell ⟨r, j, none⟩ x) v ls := by
  rcases h with h | ⟨d, g, e, h⟩
  · exact Or.inl h
  · exact Or.inr ⟨d, g, e, h.put ht hr ha j x⟩
theorem Tr.putT {E : Env} {w : World} {r : Nat} {y : Value} (hr : Rt 38 w r #[y]) {v : Value} {ls : List ByteArray} (h : Tr E w v ls) (x : Value) : Tr E (w.setCell ⟨r, 0, none⟩ x) v ls := h.put (by decide) hr (lone1 _) 0 x
end Go.Proofs.YtbpklbhaoemkkabDoor
