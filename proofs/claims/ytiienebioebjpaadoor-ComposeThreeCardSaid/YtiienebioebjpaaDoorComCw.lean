/- What the document's Told wants of cells that go up (layer 13; written ahead of its code). -/
import Derived.Test.YtiienebioebjpaaDoorComTwo
import Derived.Test.YtiienebioebjpaaDoorDelRefToldV
namespace Go.Proofs.YtiienebioebjpaaDoor
set_option linter.unusedSimpArgs false
set_option linter.unusedVariables false

theorem cel_memC : ∀ (es : List El) (e : El), e ∈ es → e.2.2.length ≤ (cel es).length
  | x :: es, e, he => by
    rw [cel_cons, List.length_append]
    rcases List.mem_cons.1 he with rfl | he
    · show _ ≤ (ownT e.2.2 ++ rng e.1 e.2.1).length + _
      rw [List.length_append, own_len]; omega
    · have := cel_memC es e he; omega
theorem cwv_up {base : Int} {cs : List Ce} (hb : base ≤ 20000) (h : Up base 0 cs) (hl : cs.length ≤ 20000) : CwV cs := by
  refine ⟨fun c hc => ?_, hl, fun e he => ?_⟩
  · rcases up_one cs 0 (Int.le_refl _) h c hc with h1 | h1
    · exact Or.inl h1
    · exact Or.inr ⟨h1.1, by omega, h1.2.2⟩
  · have := cel_memC _ e he
    rw [cel_tld_up h] at this
    omega
/-- What Told answers of cells that go up: 12, 70 or the delta. -/
theorem told_up {w : World} {v : Value} {base : Int} {cs : List Ce} (hb : base ≤ 20000) (h : KAt w v cs) (hu : Up base 0 cs) (hl : cs.length ≤ 20000) :
    Calls Tryd.prog 14 #[.int .i64 base, v] w fun e w' => ToldV base (w.heap.size + 2) (tld cs) e w' ∧ RowKit.Below w.heap.size w w' := rtoldV_any base h (cwv_up hb hu hl)
end Go.Proofs.YtiienebioebjpaaDoor
