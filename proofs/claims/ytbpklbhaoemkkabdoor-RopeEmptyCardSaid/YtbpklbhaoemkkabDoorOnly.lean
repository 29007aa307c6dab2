/- only. -/
import Derived.Test.YtbpklbhaoemkkabDoorSl
namespace Go.Proofs.YtbpklbhaoemkkabDoor
open Go.RowKit Go.Sort
set_option linter.unusedSimpArgs false
set_option linter.unusedVariables false

/-- The tree that a pointer stands for. -/
def Tr (E : Env) (w : World) (v : Value) (ls : List ByteArray) : Prop := (v = .pointer none ∧ ls = []) ∨ ∃ d g, v = .pointer (some ⟨g, 0, none⟩) ∧ Nd E w d g ls
theorem Tr.later {E : Env} {w w' : World} {v : Value} {ls : List ByteArray} (h : Tr E w v ls) (hb : Below w.heap.size w w') : Tr E w' v ls := by
  rcases h with h | ⟨d, g, e, h⟩
  · exact Or.inl h
  · exact Or.inr ⟨d, g, e, h.later hb⟩

theorem Tr.ptr {E : Env} {w : World} {v : Value} {ls : List ByteArray} (h : Tr E w v ls) : ∃ u, v = .pointer u := by
  rcases h with ⟨e, _⟩ | ⟨_, _, e, _⟩
  · exact ⟨_, e⟩
  · exact ⟨_, e⟩

set_option maxHeartbeats 1000000 in
set_option maxRecDepth 100000 in
/-- only, of nodes. -/
theorem only_any (E : Env) (d : Nat) (ks : List (Nat × List ByteArray)) (kb off cap : Nat) (w : World) (h3 : ks.length ≤ 3) (hd : d ≤ 1099511627776) (hl : (ks.flatMap Prod.snd).length ≤ 1099511627776)
    (hN : ∀ k ∈ ks, Nd E w d k.1 k.2) (hP : Ptrs w kb off (ks.map Prod.fst)) :
    Calls Tryd.prog 54 #[.slice (some ⟨kb, off, none⟩) ks.length cap] w fun e w' => ∃ v, e = .returned v ∧ Tr E w' v (ks.flatMap Prod.snd) ∧ Below w.heap.size w w' := by
  have HN := Hid.mk4 hN
  have HP := Hid.mk4 hP
  have HL := Hid.mk4 hl
  clear hN hP hl
  match ks, h3 with
  | [], _ =>
    go_enter Tryd.func54, Tryd.ntmps54
    go_wp2
    go_ret
    exact ⟨_, rfl, Or.inl ⟨rfl, rfl⟩, Below.refl _ _⟩
  | [k], _ =>
    have p0 : w.cell? ⟨kb, off, none⟩ = some (.pointer (some ⟨k.1, 0, none⟩)) := HP.out 0 _ (by simp)
    go_enter Tryd.func54, Tryd.ntmps54
    go_wp2
    go_ret
    exact ⟨_, rfl, Or.inr ⟨d, k.1, rfl, by simpa using HN.out k (by simp)⟩, Below.refl _ _⟩
  | k1 :: k2 :: kr, h3 =>
    obtain ⟨ks, hks⟩ : ∃ ks, ks = k1 :: k2 :: kr := ⟨_, rfl⟩
    have h2 : 2 ≤ ks.length := by rw [hks]; simp
    have h3' : ks.length ≤ 3 := by rw [hks]; exact h3
    rw [← hks] at HN HP HL ⊢
    have e0 : (ks.length == 0) = false := by simp; intro e; rw [e] at h2; simp at h2
    have e1 : (ks.length == 1) = false := by simp; omega
    have i0 : ((ks.length : Int) == 0) = false := by simp; intro e; rw [e] at h2; simp at h2
    have i1 : ((ks.length : Int) == 1) = false := by simp; omega
    clear hks h3
    go_enter Tryd.func54, Tryd.ntmps54
    go_wp2_with fail
    refine (clone_ks ks kb off cap w (by omega) (by omega) HP.out).mono ?_
    rintro e w1 ⟨g1, cap1, rfl, hg1, hcp1, hg1l, hp1, b1⟩
    have HP1 := Hid.mk4 hp1
    clear hp1
    go_wp2_with fail
    refine (parent_any E (fun _ => True) d ks g1 0 cap1 w1 h2 h3' hd HL.out hcp1 (fun _ _ => trivial) trivial (fun k hk => (HN.out k hk).later b1) HP1.out).mono ?_
    rintro e w2 ⟨g2, rfl, hg2, hn2, b2⟩
    have HN2 := Hid.mk4 hn2
    clear hn2
    go_wp2
    go_ret
    exact ⟨_, rfl, Or.inr ⟨d + 1, g2, rfl, HN2.out⟩, b1.trans (b2.mono b1.size)⟩

set_option maxHeartbeats 1000000 in
set_option maxRecDepth 100000 in
theorem only_nil (E : Env) (w : World) : Calls Tryd.prog 54 #[.slice none 0 0] w fun e w' => ∃ v, e = .returned v ∧ Tr E w' v [] ∧ Below w.heap.size w w' := by
  go_enter Tryd.func54, Tryd.ntmps54
  go_wp2
  go_ret
  exact ⟨_, rfl, Or.inl ⟨rfl, rfl⟩, Below.refl _ _⟩
end Go.Proofs.YtbpklbhaoemkkabDoor
