/- Moved by one delta, then another: what the law asks. -/
import Derived.Test.YtelpinngimohoaaDoorOffPlainM
import Derived.Test.YtelpinngimohoaaDoorOffPlain
import Derived.Test.YtelpinngimohoaaDoorComThree
import Derived.Test.YtelpinngimohoaaDoorComTwoP
namespace Go.Proofs.YtelpinngimohoaaDoor
open Go.RowKit
set_option linter.unusedSimpArgs false
set_option linter.unusedVariables false

theorem elG_four14 {n f q : Int} {T : List UInt8} : (elG n [] 0 [(f, q, T)]).length ≤ 4 := by
  have h0 : ∀ T : List UInt8, (tx T).length ≤ 1 := fun T => by unfold tx; split <;> simp
  have h1 : ∀ (U : List UInt8) (e : Int), (elG n U e []).length ≤ 2 := fun U e => by
    simp only [elG, List.length_append]
    have := h0 U
    split <;> simp <;> omega
  have h2 := h0 []
  simp only [elG]
  split
  · have := h1 [] 0
    simp only [elG] at this
    omega
  · split
    · have := h1 T q
      simp only [elG] at this
      simp only [List.length_append, List.length_cons]
      simp only [List.length_append] at this
      omega
    · have := h1 ([] ++ T) q
      simp only [elG] at this
      omega
/-- One text put in: what Build answers, as a delta or why not. -/
def On (N p : Nat) (T : List UInt8) (b1 : Int) (zs : List El) (er : Int) : Prop :=
  (er = 0 ∧ b1 = N ∧ zs = elG N [] 0 [((p : Int), (p : Int), T)] ∧ flt N [((p : Int), (p : Int), T)] = 0) ∨ (er = 12 ∧ b1 = 0 ∧ zs = [] ∧ flt N [((p : Int), (p : Int), T)] = 12)
theorem on_ex {N p : Nat} {T : List UInt8} (hN : N ≤ 1000) (hp : p ≤ N) (hT : T.length ≤ 1000) : ∃ b1 zs er, On N p T b1 zs er := by
  cases hv : vld T with
  | true => exact ⟨_, _, _, Or.inl ⟨rfl, rfl, rfl, flt_one14 hN (Nat.le_refl p) hp hT hv⟩⟩
  | false => exact ⟨_, _, _, Or.inr ⟨rfl, rfl, rfl, flt_bad14 hN hp hv⟩⟩
theorem build_on {N p : Nat} {T : List UInt8} {b1 er : Int} {zs : List El} {w : World} {v : Value} {tb : Nat × Nat} (h : On N p T b1 zs er) (hT : T.length ≤ 1000) (hv : ElAt w v [((p : Int), (p : Int), T)]) (hTb : Tab w tb) :
    Calls Tryd.prog 19 #[.int .i64 (N : Nat), v] w fun e w' => ∃ v', e = .returned (.tuple #[.agg #[.int .i64 b1, v'], .int .i64 er]) ∧ ElAt w' v' zs ∧ Below w.heap.size w w' := by
  rcases h with ⟨rfl, rfl, rfl, hf⟩ | ⟨rfl, rfl, rfl, hf⟩
  · exact build_v (tb := tb) hf rfl elG_one14 (fun e he => by simp at he; subst he; simp only; omega) (by simp) (by rw [inS_one14]; omega) hv hTb
  · refine (build_bv (tb := tb) hf (by decide) (fun e he => by simp at he; subst he; simp only; omega) (by simp) hv hTb).mono ?_
    rintro e w' ⟨rfl, b⟩
    exact ⟨_, rfl, ElAt.nil _, b⟩
theorem on_ok {N p : Nat} {T : List UInt8} {b1 : Int} {zs : List El} (h : On N p T b1 zs 0) : b1 = N ∧ zs = elG N [] 0 [((p : Int), (p : Int), T)] ∧ flt N [((p : Int), (p : Int), T)] = 0 := by
  rcases h with ⟨_, h1, h2, h3⟩ | ⟨h, _⟩
  · exact ⟨h1, h2, h3⟩
  · exact absurd h (by decide)
/-- A text put in, and another one into what came of it. -/
structure Tw (N M : Nat) (A B : List El) (b3 er : Int) (C : List El) (x y z : Nat) (u : Int) : Prop where
  ma : mvV N A x true = y
  mb : mvV M B y true = z
  mc : mvV N C x true = z
  mf : mvV N C x false = u
  uz : u ≤ z
theorem tw_of {N M p q : Nat} {T0 T1 : List UInt8} {A B C : List El} {b3 er : Int} {x : Nat} (hA : On N p T0 N A 0) (hM : (cel A).length = M) (hB : On M q T1 M B 0) (hr : Rs N (tld (twoC (cel A) (cel B))) b3 C er) (hN : N ≤ 1000) (hp : p ≤ N) (hq : q ≤ M) (hx : x < N) :
    (er = 12) ∨ (er = 0 ∧ b3 = N ∧ isB N C = true ∧ C.length ≤ 60 ∧ ∃ y z u, Tw N M A B b3 er C x y z u) := by
  obtain ⟨_, eA, fA⟩ := on_ok hA
  obtain ⟨_, eB, fB⟩ := on_ok hB
  subst eA eB
  obtain ⟨iA, cA⟩ := built14 fA elG_one14
  obtain ⟨iB, cB⟩ := built14 fB elG_one14
  have lA := elG_four14 (n := (N : Int)) (f := (p : Int)) (q := (p : Int)) (T := T0)
  have hfew : (tld (twoC (cel (elG N [] 0 [((p : Int), (p : Int), T0)])) (cel (elG M [] 0 [((q : Int), (q : Int), T1)])))).length ≤ 60 := by
    have h1 := two_few (es := elG N [] 0 [((p : Int), (p : Int), T0)]) (p := q) (q := q) (T := T1) (nm_gd _ 0 0 (Int.le_refl _) (dl_of iA).nm) (Nat.le_refl q) (by omega)
    rw [cB, bce_one_change, ← hM, two_change (Nat.le_refl q) (by omega)]
    omega
  rcases hr with ⟨hv, _, h1, h2, h3⟩ | ⟨_, _, _, h3⟩ | ⟨_, h3, _⟩
  rotate_left
  · exact Or.inl h3
  · omega
  have hu := two_up iA iB (by rw [hM])
  have uA := up_cel _ 0 0 (Int.le_refl _) (dl_of iA).nm
  have uB := up_cel _ 0 0 (Int.le_refl _) (dl_of iB).nm
  have hM2 := (cel_len14 iB).2
  have hv2 : ∀ e ∈ tld (twoC (cel (elG N [] 0 [((p : Int), (p : Int), T0)])) (cel (elG M [] 0 [((q : Int), (q : Int), T1)]))), vld e.2.2 = true := fun e he => by
    unfold vldB at hv
    exact List.all_eq_true.1 hv e he
  have iC := isB_tld (by omega) hu (by rw [twoC_len]; omega) hv2 hfew
  have cC := cel_tld_up hu
  rw [← h2] at iC cC
  refine Or.inr ⟨h3, h1, iC, by rw [h2]; exact hfew, ?_⟩
  have kA : ∃ c ∈ cel (elG N [] 0 [((p : Int), (p : Int), T0)]), c.1 = (x : Int) := by rw [cA]; exact ins_kept (by omega) (by omega) (by omega) (by omega)
  obtain ⟨preA, postA, hA2⟩ := kept_split _ (x : Int) (by omega) uA kA
  have e1 : frK (x : Int) (cel (elG N [] 0 [((p : Int), (p : Int), T0)])) = preA.length := by rw [hA2]; rw [hA2] at uA; exact (kept_at (by omega) uA).1
  have hlt : preA.length < M := by rw [← hM, hA2]; simp
  have kB : ∃ c ∈ cel (elG M [] 0 [((q : Int), (q : Int), T1)]), c.1 = ((frK (x : Int) (cel (elG N [] 0 [((p : Int), (p : Int), T0)])) : Nat) : Int) := by rw [e1, cB]; exact ins_kept (by omega) (by omega) (by omega) (by omega)
  have hk := frK_two (by omega) uA uB hu kA kB
  obtain ⟨_, m1⟩ := mvV_in (x := (x : Int)) iA (by omega) (by omega)
  obtain ⟨m3, m4⟩ := mvV_in (x := (x : Int)) iC (by omega) (by omega)
  obtain ⟨_, m2⟩ := mvV_in (x := ((frK (x : Int) (cel (elG N [] 0 [((p : Int), (p : Int), T0)])) : Nat) : Int)) iB (by omega) (by omega)
  refine ⟨_, _, _, m1, m2, ?_, m3, ?_⟩
  · rw [m4, cC, hk]
  · have := mvN_frK (p := (x : Int)) hu
    rw [cC]
    rw [hk] at this
    omega
end Go.Proofs.YtelpinngimohoaaDoor
