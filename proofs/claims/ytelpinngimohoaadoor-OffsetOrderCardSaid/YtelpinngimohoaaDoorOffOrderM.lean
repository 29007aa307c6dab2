/- Places keep their order: what the law asks at each place. -/
import Derived.Test.YtelpinngimohoaaDoorOffPlainM
namespace Go.Proofs.YtelpinngimohoaaDoor
set_option linter.unusedSimpArgs false
set_option linter.unusedVariables false

/-- What holds at a place. -/
structure Od (N M : Nat) (E : List El) (k : Nat) : Prop where
  a0 : 0 ≤ mvV N E k false
  ab : mvV N E k false ≤ mvV N E k true
  bm : mvV N E k true ≤ M
  pa : 0 < k → mvV N E ((k : Int) - 1) false ≤ mvV N E k false
  pb : 0 < k → mvV N E ((k : Int) - 1) true ≤ mvV N E k true
  st : k < N → stB E k = true → bkV N E (mvV N E k true) = k ∧ mvV N E ((k : Int) + 1) false = mvV N E k true + 1
theorem od_of {N M : Nat} {E : List El} (hi : isB N E = true) (hM : (cel E).length = M) {k : Nat} (hk : k ≤ N) : Od N M E k := by
  have hd := dl_of hi
  have hu := up_cel E 0 0 (Int.le_refl _) hd.nm
  obtain ⟨e1, e2⟩ := mvV_in (x := (k : Int)) hi (by omega) (by omega)
  refine ⟨by rw [e1]; omega, ?_, ?_, ?_, ?_, ?_⟩
  · rw [e1, e2]; have := mvN_frK (p := (k : Int)) hu; omega
  · rw [e2]; have := frK_le (k : Int) (cel E); omega
  · intro h
    obtain ⟨e3, e4⟩ := mvV_in (x := (k : Int) - 1) hi (by omega) (by omega)
    rw [e1, e3]
    have := mvN_mono (p := (k : Int) - 1) (p' := (k : Int)) (by omega) (cel E)
    omega
  · intro h
    obtain ⟨e3, e4⟩ := mvV_in (x := (k : Int) - 1) hi (by omega) (by omega)
    rw [e2, e4]
    have := frK_mono (p := (k : Int) - 1) (p' := (k : Int)) (by omega) (cel E)
    omega
  · intro h hs
    obtain ⟨e3, e4⟩ := mvV_in (x := (k : Int) + 1) hi (by omega) (by omega)
    obtain ⟨h0, hc⟩ := stB_kept (nm_gd E 0 0 (Int.le_refl _) hd.nm) hs
    obtain ⟨pre, post, hp⟩ := kept_split (cel E) (k : Int) h0 hu hc
    rw [hp] at hu
    obtain ⟨k1, k2, k3⟩ := kept_at h0 hu
    rw [← hp] at k1 k2 k3
    rw [e2, e3, k1, k2]
    refine ⟨?_, by omega⟩
    unfold bkV
    rw [if_pos hi, show (max ((pre.length : Nat) : Int) 0).toNat = pre.length from by omega, k3]
theorem od_ends {N M : Nat} {E : List El} (hi : isB N E = true) (hM : (cel E).length = M) : mvV N E 0 false = 0 ∧ mvV N E N true = M ∧ bkV N E M = N := by
  have hd := dl_of hi
  have hu := up_cel E 0 0 (Int.le_refl _) hd.nm
  obtain ⟨e1, _⟩ := mvV_in (x := 0) hi (by omega) (by omega)
  obtain ⟨_, e2⟩ := mvV_in (x := (N : Int)) hi (by omega) (by omega)
  refine ⟨by rw [e1, mvN_zero hu]; rfl, by rw [e2, frK_end (cel E) 0 hu, hM], ?_⟩
  unfold bkV
  rw [if_pos hi, show (max ((M : Nat) : Int) 0).toNat = M from by omega, ← hM, bkC_end]
end Go.Proofs.YtelpinngimohoaaDoor
