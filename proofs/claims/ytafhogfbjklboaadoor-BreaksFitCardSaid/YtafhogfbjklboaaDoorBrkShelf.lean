/- The library's functions on rows of numbers, laid here: slices.BinarySearch, Clone, Insert, Index, Delete. -/
import Derived.Test.YtafhogfbjklboaaDoorBrkMem
import Derived.Shelf.Lay
import Derived.Ground.NamesProg
import Derived.Ground.Names2Prog
import Derived.Shelf.Slices.SearchI
import Derived.Shelf.Slices.Empties
import Derived.Shelf.Slices.Clone
import Derived.Shelf.Slices.Delete
import Derived.Shelf.Slices.Turned
import Derived.Shelf.Spec.SlicesInsertGrow
import Derived.Lib.OwnBridge
import Derived.WalkSmall
namespace Go.Proofs.YtafhogfbjklboaaDoor
open Go.Shelf Go.RowKit Go.Lib Go.Sort
set_option linter.unusedSimpArgs false
set_option linter.unusedVariables false
shelf_lay Lays2.n25 Nm2 25 at Tryd as Tryd.laysBs
shelf_lay Lays2.n15 Nm2 15 at Tryd as Tryd.laysCl
shelf_lay Lays2.n23 Nm2 23 at Tryd as Tryd.laysDe
shelf_lay Lays2.n21 Nm2 21 at Tryd as Tryd.laysIn
shelf_lay Lays.n108 Nm 108 at Tryd as Tryd.laysIx

theorem getD_of {L : List Int} {j : Nat} (h : j < L.length) : L[j]? = some (L.getD j 0) := by simp [List.getD_eq_getElem?_getD, h]
theorem nat_some {w : World} {a : Option Addr} {n cap : Nat} {L : List Int} (h : NAt w (.slice a n cap) L) (hne : L ≠ []) : ∃ g off, a = some ⟨g, off, none⟩ ∧ n = L.length ∧ ∀ j, j < L.length → w.cell? ⟨g, off + j, none⟩ = some (.int .i64 (L.getD j 0)) := by
  obtain ⟨a', cap', e, _, _, hc⟩ := h
  cases e
  have hp : 0 < L.length := List.length_pos_iff.2 hne
  obtain ⟨g, off, rfl, _⟩ := hc 0 _ (getD_of hp)
  refine ⟨g, off, rfl, rfl, fun j hj => ?_⟩
  obtain ⟨g', off', e, q⟩ := hc j _ (getD_of hj)
  cases e
  exact q
theorem clone16 {w : World} {v : Value} {L : List Int} (h : NAt w v L) (hl : L.length ≤ 1073741824) :
    Calls Tryd.prog 28 #[v] w fun e w' => ∃ v', e = .returned v' ∧ OwnZ w' w.heap.size v' L ∧ Below w.heap.size w w' := by
  obtain ⟨a, cap, rfl⟩ := nat_shape h
  by_cases hne : L = []
  · subst hne
    cases a with
    | none =>
      refine (Any.slices_Clone_int_nil Tryd.laysCl 0 cap w).mono ?_
      rintro e w' ⟨rfl, rfl⟩
      exact ⟨_, rfl, OwnZ.nil _ _, Below.refl _ _⟩
    | some a =>
      refine (Any.slices_Clone_int_zero Tryd.laysCl a cap w).mono ?_
      rintro e w' ⟨v', rfl, ho, _, hb⟩
      exact ⟨_, rfl, ho, hb⟩
  · obtain ⟨g, off, rfl, _, hc⟩ := nat_some h hne
    refine (Any.slices_Clone_int Tryd.laysCl g off L.length cap L w (Nat.le_refl _) (by omega) hc).mono ?_
    rintro e w' ⟨v', rfl, ho, _, hb⟩
    rw [List.take_length] at ho
    exact ⟨_, rfl, ho, hb⟩
theorem bsearch16 {w : World} {v : Value} {L : List Int} {m a : Int} (y : Int) (h : NAt w v L) (hr : Ris m a L) (hl : L.length ≤ 1073741824) :
    Calls Tryd.prog 27 #[v, .int .i64 y] w fun e w' => e = .returned (.tuple #[.int .i64 (cntL y L : Nat), .bool (decide (y ∈ L))]) ∧ Below w.heap.size w w' := by
  obtain ⟨ad, cap, rfl⟩ := nat_shape h
  by_cases hne : L = []
  · subst hne
    refine (Any.slices_BinarySearch_int_empty Tryd.laysBs ad cap y w).mono ?_
    rintro e w' ⟨rfl, rfl⟩
    exact ⟨rfl, Below.refl _ _⟩
  · obtain ⟨g, off, rfl, _, hc⟩ := nat_some h hne
    refine (Any.slices_BinarySearch_int Tryd.laysBs g off L.length cap L y w (Nat.le_refl _) (by omega) hc (by rw [List.take_length]; exact ris_pair_le hr)).mono ?_
    rintro e w' ⟨rfl, q, rfl⟩
    rw [List.take_length]
    refine ⟨?_, below_drewN (Below.refl _ _) q⟩
    have e1 : L.contains y = decide (y ∈ L) := by simp
    rw [e1]; rfl
theorem idx_there {L : List Int} {y : Int} (h : y ∈ L) : ∃ k : Nat, Lib.idxOf L y = k ∧ k < L.length ∧ L[k]? = some y ∧ L.erase y = L.take k ++ L.drop (k + 1) := by
  have : ∃ k : Nat, k < L.length ∧ L[k]? = some y ∧ ∀ j x, j < k → L[j]? = some x → x ≠ y := by
    induction L with
    | nil => cases h
    | cons x l ih =>
      by_cases e : x = y
      · exact ⟨0, by simp, by simp [e], fun j x hj => absurd hj (Nat.not_lt_zero _)⟩
      · rcases List.mem_cons.1 h with h | h
        · exact absurd h.symm e
        · obtain ⟨k, h1, h2, h3⟩ := ih h
          refine ⟨k + 1, by simp; omega, by simpa using h2, fun j z hj hz => ?_⟩
          cases j with
          | zero => simp at hz; subst hz; exact e
          | succ j => exact h3 j z (by omega) (by simpa using hz)
  obtain ⟨k, h1, h2, h3⟩ := this
  refine ⟨k, ?_, h1, h2, erase_at h3 h2⟩
  have := Lib.idxOf_hit L L.length k y h1 (Nat.le_refl _) (by simp [List.getD_eq_getElem?_getD, h2]) (fun j hj => h3 j _ hj (getD_of (by omega)))
  rwa [List.take_length] at this
theorem idx_none {L : List Int} {y : Int} (h : ¬ y ∈ L) : Lib.idxOf L y = -1 := by
  have := Lib.idxOf_miss L L.length y (fun j hj e => h (by rw [← e]; exact List.mem_of_getElem? (getD_of hj)))
  rwa [List.take_length] at this
theorem index16 {w : World} {v : Value} {L : List Int} (y : Int) (h : NAt w v L) (hl : L.length ≤ 1073741824) :
    Calls Tryd.prog 30 #[v, .int .i64 y] w fun e w' => e = .returned (.int .i64 (Lib.idxOf L y)) ∧ w' = w := by
  obtain ⟨ad, cap, rfl⟩ := nat_shape h
  by_cases hne : L = []
  · subst hne
    exact Any.slices_Index_int_empty Tryd.laysIx ad cap y w
  · obtain ⟨g, off, rfl, _, hc⟩ := nat_some h hne
    have := Any.slices_Index_int Tryd.laysIx g off L.length cap L y w (Nat.le_refl _) (by omega) hc
    rw [List.take_length] at this
    exact this
theorem own_ne {w : World} {B : Nat} {v : Value} {L : List Int} (h : OwnZ w B v L) (hl : 0 < L.length) : v ≠ .slice none 0 0 := by
  rintro rfl
  rcases h.2 with ⟨_, h2⟩ | ⟨_, _, _, e, _⟩
  · omega
  · cases e
theorem delete16 {w : World} {B : Nat} {v : Value} {L : List Int} {k : Nat} (h : OwnZ w B v L) (hk : k < L.length) (hl : L.length ≤ 1073741824) :
    Calls Tryd.prog 31 #[v, .int .i64 (k : Nat), .int .i64 ((k + 1 : Nat) : Int)] w fun e w' => ∃ v', e = .returned v' ∧ NAt w' v' (L.take k ++ L.drop (k + 1)) ∧ Below B w w' := by
  obtain ⟨g, cap, rfl, hB, hg, hn, hm, _, hH⟩ := holds_of_ownsRow h (own_ne h (by omega))
  refine (Any.slices_Delete_int Tryd.laysDe g 0 cap k (k + 1) L w hH hn (by unfold maxLen at hm; omega) (by omega) (by omega)).mono ?_
  rintro e w' ⟨rfl, q, rfl⟩
  have hy : (L.take k ++ L.drop (k + 1) ++ List.replicate (k + 1 - k) 0).length = L.length := by simp; omega
  have ho := ownsRow_putRow (q := q) (k := L.length - 1) h hy (by omega)
  have et : (L.take k ++ L.drop (k + 1) ++ List.replicate (k + 1 - k) 0).take (L.length - 1) = L.take k ++ L.drop (k + 1) := List.take_left' (by simp; omega)
  have el : L.length - 1 = (L.take k ++ L.drop (k + 1)).length := by simp; omega
  rw [et] at ho
  refine ⟨_, rfl, ?_, below_putRow (Below.refl _ _) hB⟩
  rw [show L.length - (k + 1 - k) = L.length - 1 by omega]
  have hz : OwnZ (putRow (Value.int .i64) (Sort.ahead w q) g 0 (L.take k ++ L.drop (k + 1) ++ List.replicate (k + 1 - k) 0).toArray) B (.slice (some ⟨g, 0, none⟩) (L.length - 1) cap) (L.take k ++ L.drop (k + 1)) := by
    unfold OwnZ
    rw [← el]
    exact ho
  exact hz.num

theorem below_setCells16 {B b : Nat} {a : World} (hb : B ≤ b) : ∀ (vs : List Value) (o : Nat) (w : World), Below B a w → Below B a (w.setCells b o vs)
  | [], _, _, h => h
  | v :: r, o, w, h => below_setCells16 hb r (o + 1) _ (h.setCell (by exact hb) v)
theorem ins_get {L : List Int} {k : Nat} (y : Int) (hk : k ≤ L.length) (j : Nat) : (L.take k ++ y :: L.drop k)[j]? = if j < k then L[j]? else if j = k then some y else L[j - 1]? := by
  by_cases h : j < k
  · rw [if_pos h, List.getElem?_append_left (by simp; omega), List.getElem?_take, if_pos h]
  · rw [if_neg h, List.getElem?_append_right (by simp; omega)]
    have e : (L.take k).length = k := by simp; omega
    rw [e]
    by_cases h2 : j = k
    · subst h2; simp
    · rw [if_neg h2]
      obtain ⟨q, rfl⟩ : ∃ q, j = k + 1 + q := ⟨j - (k + 1), by omega⟩
      rw [show k + 1 + q - k = q + 1 by omega, List.getElem?_cons_succ, List.getElem?_drop, show k + 1 + q - 1 = k + q by omega]
theorem ins_length {L : List Int} {k : Nat} (y : Int) (hk : k ≤ L.length) : (L.take k ++ y :: L.drop k).length = L.length + 1 := by simp; omega
theorem nat_of {w : World} {b c : Nat} {n : Nat} {M : List Int} (hn : M.length = n) (hc : n ≤ c) (h : ∀ j x, M[j]? = some x → w.cell? ⟨b, 0 + j, none⟩ = some (.int .i64 x)) : NAt w (.slice (some ⟨b, 0, none⟩) n c) M := by
  subst hn
  exact ⟨_, c, rfl, hc, (fun e => by cases e), fun i x hx => ⟨b, 0, rfl, h i x hx⟩⟩
theorem setc_at (w : World) (b o q : Nat) (vs : List Value) (hs : ∀ j, j < vs.length → (w.cell? ⟨b, o + j, none⟩).isSome = true) : (w.setCells b o vs).cell? ⟨b, q, none⟩ = if o ≤ q ∧ q < o + vs.length then vs[q - o]? else w.cell? ⟨b, q, none⟩ := by
  split
  · rename_i hc
    have := World.cell?_setCells_in b vs o w hs (q - o) (by omega)
    rw [show o + (q - o) = q by omega] at this
    rw [this, List.getElem?_eq_getElem (by omega)]
  · rename_i hc
    exact World.cell?_setCells_out b vs o w _ (fun _ _ => by show q < o ∨ o + vs.length ≤ q; omega)
/-- What a row behind two runs of stores holds: the tail one place on, the new one ahead of it. -/
theorem ins_cells {w : World} {b k : Nat} {L : List Int} {y : Int} (hk : k ≤ L.length) (h0 : ∀ j x, j < k → L[j]? = some x → w.cell? ⟨b, 0 + j, none⟩ = some (.int .i64 x)) (hs : ∀ j, j < L.length + 1 → (w.cell? ⟨b, j, none⟩).isSome = true) :
    ∀ j x, (L.take k ++ y :: L.drop k)[j]? = some x → ((w.setCells b (0 + (k + 1)) ((L.map (Value.int .i64)).drop k)).setCells b (0 + k) [.int .i64 y]).cell? ⟨b, 0 + j, none⟩ = some (.int .i64 x) := by
  intro j x hx
  have hdl : ((L.map (Value.int .i64)).drop k).length = L.length - k := by simp
  have i1 : ∀ i, i < ((L.map (Value.int .i64)).drop k).length → (w.cell? ⟨b, 0 + (k + 1) + i, none⟩).isSome = true := fun i hi => hs _ (by omega)
  have i2 : ∀ i, i < ([.int .i64 y] : List Value).length → ((w.setCells b (0 + (k + 1)) ((L.map (Value.int .i64)).drop k)).cell? ⟨b, 0 + k + i, none⟩).isSome = true := fun i hi => by
    simp at hi
    subst hi
    rw [setc_at w b _ _ _ i1, if_neg (by omega)]
    exact hs _ (by omega)
  rw [setc_at _ b _ _ _ i2, setc_at w b _ _ _ i1]
  rw [ins_get y hk] at hx
  simp only [List.length_cons, List.length_nil]
  by_cases c1 : j < k
  · rw [if_pos c1] at hx
    rw [if_neg (by omega), if_neg (by omega)]
    exact h0 j x c1 hx
  · rw [if_neg c1] at hx
    by_cases c2 : j = k
    · subst c2
      rw [if_pos rfl] at hx
      cases hx
      rw [if_pos (by omega)]
      simp
    · rw [if_neg c2] at hx
      have := (List.getElem?_eq_some_iff.1 hx).1
      rw [if_neg (by omega), if_pos (by omega), List.getElem?_drop, List.getElem?_map, show k + (0 + j - (0 + (k + 1))) = j - 1 by omega, hx]
      rfl
/-- The same in other words: two worlds on. -/
theorem ins_cells' {w : World} {b k : Nat} {L : List Int} {y : Int} (hk : k ≤ L.length) (h0 : ∀ j x, j < k → L[j]? = some x → w.cell? ⟨b, 0 + j, none⟩ = some (.int .i64 x)) (hs : ∀ j, j < L.length + 1 → (w.cell? ⟨b, j, none⟩).isSome = true) :
    ∀ j x, (L.take k ++ y :: L.drop k)[j]? = some x → ((w.setCells b k [.int .i64 y]).setCells b (k + 1) ((L.map (Value.int .i64)).drop k)).cell? ⟨b, 0 + j, none⟩ = some (.int .i64 x) := by
  intro j x hx
  have hdl : ((L.map (Value.int .i64)).drop k).length = L.length - k := by simp
  have i1 : ∀ i, i < ([.int .i64 y] : List Value).length → (w.cell? ⟨b, k + i, none⟩).isSome = true := fun i hi => hs _ (by simp at hi; omega)
  have i2 : ∀ i, i < ((L.map (Value.int .i64)).drop k).length → ((w.setCells b k [.int .i64 y]).cell? ⟨b, k + 1 + i, none⟩).isSome = true := fun i hi => by
    rw [setc_at w b _ _ _ i1, if_neg (by simp)]
    exact hs _ (by omega)
  rw [setc_at _ b _ _ _ i2, setc_at w b _ _ _ i1]
  rw [ins_get y hk] at hx
  simp only [List.length_cons, List.length_nil]
  by_cases c1 : j < k
  · rw [if_pos c1] at hx
    rw [if_neg (by omega), if_neg (by omega)]
    exact h0 j x c1 hx
  · rw [if_neg c1] at hx
    by_cases c2 : j = k
    · subst c2
      rw [if_pos rfl] at hx
      cases hx
      rw [if_neg (by omega), if_pos (by omega)]
      simp
    · rw [if_neg c2] at hx
      have := (List.getElem?_eq_some_iff.1 hx).1
      rw [if_pos (by omega), List.getElem?_drop, List.getElem?_map, show k + (0 + j - (k + 1)) = j - 1 by omega, hx]
      rfl
theorem map_cell {w : World} {g : Nat} {L : List Int} (h : ∀ j, j < L.length → w.cell? ⟨g, 0 + j, none⟩ = some (.int .i64 (L.getD j 0))) : ∀ (j : Nat) (v : Value), (L.map (Value.int .i64))[j]? = some v → w.cell? ⟨g, 0 + j, none⟩ = some v := by
  intro j v hv
  rw [List.getElem?_map] at hv
  obtain ⟨x, hx, rfl⟩ := Option.map_eq_some_iff.1 hv
  have hj := (List.getElem?_eq_some_iff.1 hx).1
  rw [h j hj, ← Option.some.inj ((getD_of hj).symm.trans hx)]
theorem map_one (L : List Int) : ∀ v ∈ L.map (Value.int .i64), v.oneCell' = true := fun v hv => by
  obtain ⟨x, _, rfl⟩ := List.mem_map.1 hv
  rfl
set_option maxHeartbeats 2000000 in
theorem insert16 {w : World} {B vb : Nat} {v : Value} {L : List Int} {k : Nat} {y : Int} {ty : TypeId} (h : OwnZ w B v L) (hk : k ≤ L.length) (hl : L.length ≤ 1073741824) (hB : B ≤ w.heap.size) (hvb : w.heap[vb]? = some (.cells #[.int .i64 y] ty (0, 0))) (hne : v.ownBlock ≠ some vb) :
    Calls Tryd.prog 29 #[v, .int .i64 (k : Nat), .slice (some ⟨vb, 0, none⟩) 1 1] w fun e w' => ∃ v', e = .returned v' ∧ NAt w' v' (L.take k ++ y :: L.drop k) ∧ Below B w w' := by
  have hyc : w.cell? ⟨vb, 0, none⟩ = some (.int .i64 y) := cell_of_row w vb 0 _ _ _ hvb
  have hvs : ∀ (j : Nat) (u : Value), ([.int .i64 y] : List Value)[j]? = some u → w.cell? ⟨vb, 0 + j, none⟩ = some u := by
    intro j u hu
    match j, hu with
    | 0, hu => simp at hu; subst hu; exact hyc
  have h1v : ∀ u ∈ ([.int .i64 y] : List Value), u.oneCell' = true := fun u hu => by simp at hu; subst hu; rfl
  have hlen := ins_length y hk
  rcases h.2 with ⟨rfl, hz⟩ | ⟨g, cap, cur, rfl, hBg, hg, hnc, hcm, hcs, htake⟩
  · obtain rfl : L = [] := List.eq_nil_of_length_eq_zero hz
    obtain rfl : k = 0 := by simp at hk; omega
    refine (Any2.slices_Insert_int_end_grow Tryd.laysIn none 0 0 vb 0 1 1 [] [.int .i64 y] w (by omega) (by omega) (by omega) (by omega) rfl rfl (fun _ => rfl) (fun a ha => by cases ha) hvs h1v).mono ?_
    rintro e w' ⟨rfl, rfl⟩
    refine ⟨_, rfl, nat_of rfl (grownCap_ge _ _ _ _) ?_, ((Below.refl _ w).drew).alloc hB _⟩
    intro j x hx
    match j, hx with
    | 0, hx =>
      simp at hx
      subst hx
      rw [show w.heap.size = w.drew.heap.size from rfl, World.cell?_alloc_new]
      rw [Array.getElem?_append_left (by simp)]
      rfl
  · have hcells : ∀ j, j < L.length → w.cell? ⟨g, 0 + j, none⟩ = some (.int .i64 (L.getD j 0)) := fun j hj => by
      have := World.ownsRow.cells h (g := g) rfl j (.int .i64 (L.getD j 0)) (by rw [List.getElem?_map, getD_of hj]; rfl)
      rw [addr_add7] at this
      exact this
    have hsome : ∀ j, j < cap → (w.cell? ⟨g, j, none⟩).isSome = true := fun j hj => by
      rw [cell_of_row w g j _ _ _ hg]
      rw [Array.getElem?_eq_getElem (by omega)]; rfl
    have hfz : ∀ j, w.frozen? ⟨g, j, none⟩ = false := fun j => frozen_of_row w g j _ _ hg
    have hgv : vb ≠ g := fun e => hne (by rw [e]; rfl)
    have hc0 : ∀ j x, j < k → L[j]? = some x → w.cell? ⟨g, 0 + j, none⟩ = some (.int .i64 x) := fun j x hj hx => by
      have hj' := (List.getElem?_eq_some_iff.1 hx).1
      rw [hcells j hj', ← Option.some.inj ((getD_of hj').symm.trans hx)]
    have hc63 : cap ≤ 9223372036854775807 := by unfold maxLen at hcm; omega
    by_cases hroom : L.length + 1 ≤ cap
    · by_cases hlt : k < L.length
      · refine (Any2.slices_Insert_int_shift Tryd.laysIn g 0 L.length cap k vb 0 1 1 (L.map (Value.int .i64)) [.int .i64 y] w hlt (by omega) hroom hc63 hgv (by simp) rfl (map_cell hcells) (fun j hj => by rw [Nat.zero_add]; exact hsome j (by omega)) (fun j _ => hfz _) hvs (map_one L) h1v ty 3 1 cur.size (by simp [World.shape?, hvb]) (by simp [World.shape?, hg]) (by omega) (frozen_of_row w vb 0 _ _ hvb) (frozen_of_row w vb 1 _ _ hvb)).mono ?_
        rintro e w' ⟨rfl, rfl⟩
        refine ⟨_, rfl, nat_of hlen hroom ?_, below_setCells16 hBg _ _ _ (below_setCells16 hBg _ _ _ (Below.refl _ w).drew)⟩
        exact ins_cells (w := w.drew) hk hc0 (fun j hj => hsome j (by omega))
      · obtain rfl : k = L.length := by omega
        refine (Any2.slices_Insert_int_end_room Tryd.laysIn g 0 L.length cap vb 0 1 1 [.int .i64 y] w (by omega) hroom hc63 rfl (fun j hj => by rw [Nat.zero_add]; exact hsome _ (by omega)) (fun j _ => hfz _) hvs h1v).mono ?_
        rintro e w' ⟨rfl, rfl⟩
        refine ⟨_, rfl, nat_of hlen hroom ?_, below_setCells16 hBg _ _ _ (Below.refl _ w)⟩
        intro j x hx
        rw [setc_at _ _ _ _ _ (fun i hi => by simp at hi; subst hi; simpa using hsome _ (by omega))]
        rw [ins_get y hk] at hx
        by_cases c1 : j < L.length
        · rw [if_pos c1] at hx
          rw [if_neg (by simp; omega)]
          exact hc0 j x c1 hx
        · rw [if_neg c1] at hx
          by_cases c2 : j = L.length
          · subst c2
            rw [if_pos rfl] at hx
            cases hx
            rw [if_pos (by simp)]
            simp
          · rw [if_neg c2] at hx
            have := (List.getElem?_eq_some_iff.1 hx).1
            omega
    · by_cases hlt : k < L.length
      · refine (Any2.slices_Insert_int_grow Tryd.laysIn g 0 L.length cap k vb 0 1 1 (L.map (Value.int .i64)) [.int .i64 y] w hlt (by omega) hnc (by omega) (by omega) (by simp) rfl (map_cell hcells) hvs (map_one L) h1v).mono ?_
        rintro e w' ⟨rfl, rfl⟩
        refine ⟨_, rfl, nat_of hlen (grownCap_ge _ _ _ _) ?_, below_setCells16 hB _ _ _ ((below_setCells16 hB _ _ _ (((Below.refl _ w).alloc hB _).drew)).drew)⟩
        have hgc := grownCap_ge w (L.length + 1) cap (Tryd.laysIn_ren.t 3)
        have hzc : ∀ n, (Builtin.zeroCells (Value.int .i64 0).cells n).size = n := fun n => by
          have e : (Value.int .i64 0).cells = #[.int .i64 0] := rfl
          rw [e]
          simp [Builtin.zeroCells, Array.size_flatten]
        rw [drew_setCells]
        refine ins_cells' hk ?_ ?_
        · intro j x hj hx
          show (w.alloc _).cell? _ = _
          rw [World.cell?_alloc_new]
          have hjl := (List.getElem?_eq_some_iff.1 hx).1
          rw [Array.getElem?_append_left (by simp [hzc]; omega), Array.getElem?_append_left (by simp; omega)]
          simp [List.getElem?_take, hj, hx]
        · intro j hj
          show ((w.alloc _).cell? _).isSome = true
          rw [World.cell?_alloc_new, Array.getElem?_eq_getElem (by simp [hzc]; omega)]
          rfl
      · obtain rfl : k = L.length := by omega
        refine (Any2.slices_Insert_int_end_grow Tryd.laysIn (some ⟨g, 0, none⟩) L.length cap vb 0 1 1 (L.map (Value.int .i64)) [.int .i64 y] w (by omega) hnc (by omega) (by omega) (by simp) rfl (fun e => by cases e) (fun a ha j u hu => by cases ha; rw [addr_add7]; exact map_cell hcells j u hu) hvs h1v).mono ?_
        rintro e w' ⟨rfl, rfl⟩
        refine ⟨_, rfl, nat_of hlen (grownCap_ge _ _ _ _) ?_, ((Below.refl _ w).drew).alloc hB _⟩
        intro j x hx
        rw [show w.heap.size = w.drew.heap.size from rfl, World.cell?_alloc_new]
        have hxl := (List.getElem?_eq_some_iff.1 hx).1
        rw [hlen] at hxl
        rw [Array.getElem?_append_left (by simp; omega)]
        rw [ins_get y hk] at hx
        by_cases c1 : j < L.length
        · rw [if_pos c1] at hx
          have e : (L.map (Value.int .i64) ++ [Value.int .i64 y])[j]? = some (.int .i64 x) := by
            rw [List.getElem?_append_left (by simp; omega), List.getElem?_map, hx]; rfl
          simpa using e
        · rw [if_neg c1] at hx
          obtain rfl : j = L.length := by omega
          rw [if_pos rfl] at hx
          cases hx
          simp
end Go.Proofs.YtafhogfbjklboaaDoor
