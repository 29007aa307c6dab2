/- slices.Equal of elements; Same. Calls whose answer is known (layer 11). -/
import Derived.Test.YtafhogfbjklboaaDoorDelSize
import Derived.Test.YtafhogfbjklboaaDoorDelKeep
namespace Go.Proofs.YtafhogfbjklboaaDoor
open Go.RowKit Go.Sort
set_option linter.unusedSimpArgs false
set_option linter.unusedVariables false

theorem cacc_inj {a b : List UInt8} (h : cacc a = cacc b) : a = b := by
  have := congrArg (fun s : ByteArray => s.data.toList) h
  exact this
end Go.Proofs.YtafhogfbjklboaaDoor
namespace Go.Proofs.YtafhogfbjklboaaDoor
open Go.RowKit Go.Sort Go.Lib
set_option linter.unusedSimpArgs false
set_option linter.unusedVariables false

theorem Sm.mono {es : List El} {m n : Nat} (h : Sm es m) (hm : m ≤ n) : Sm es n := fun e he => Nat.le_trans (h e he) hm
section
variable {w : World} {v : Value} {es : List El} {base : Int} {tb : Nat × Nat}
theorem is_v {t : Bool} (ht : isB base es = t) (hsm : Sm es 20000) (h : ElAt w v es) (hT : Tab w tb) :
    Calls Tryd.prog 32 #[.agg #[.int .i64 base, v]] w fun e w' => e = .returned (.bool t) ∧ RowKit.Below w.heap.size w w' := by
  have := is_any base h (hsm.mono (by omega)) tb hT; rw [ht] at this; exact this
theorem size_v {z : Int} (hi : isB base es = true) (hz : szE es = z) (h : ElAt w v es) (hT : Tab w tb) :
    Calls Tryd.prog 33 #[.agg #[.int .i64 base, v]] w fun e w' => e = .returned (.int .i64 z) ∧ RowKit.Below w.heap.size w w' := by
  have := size_anyE base h ((dl_of hi).sm.mono (by omega)) tb hT; rw [hi, if_pos rfl, hz] at this; exact this
theorem size_no (hi : isB base es = false) (hsm : Sm es 20000) (h : ElAt w v es) (hT : Tab w tb) :
    Calls Tryd.prog 33 #[.agg #[.int .i64 base, v]] w fun e w' => e = .returned (.int .i64 0) ∧ RowKit.Below w.heap.size w w' := by
  have := size_anyE base h (hsm.mono (by omega)) tb hT; rw [hi, if_neg (by simp)] at this; exact this
theorem build_v {l : List El} {es : List El} (hf : flt base l = 0) (he : elG base [] 0 l = es) (hm : es.length ≤ 60) (hsm : Sm l 100000) (hl : l.length ≤ 1000) (hin : inS l ≤ 100000) (h : ElAt w v l) (hT : Tab w tb) :
    Calls Tryd.prog 26 #[.int .i64 base, v] w fun e w' => ∃ v', e = .returned (.tuple #[.agg #[.int .i64 base, v'], .int .i64 0]) ∧ ElAt w' v' es ∧ RowKit.Below w.heap.size w w' := by
  subst he; exact build_good base h (hsm.mono (by omega)) hl hin tb hT hf hm
theorem build_bv {l : List El} {r : Int} (hf : flt base l = r) (hr : r ≠ 0) (hsm : Sm l 281474976710656) (hl : l.length ≤ 1000) (h : ElAt w v l) (hT : Tab w tb) :
    Calls Tryd.prog 26 #[.int .i64 base, v] w fun e w' => e = .returned (.tuple #[.agg #[.int .i64 0, .slice none 0 0], .int .i64 r]) ∧ RowKit.Below w.heap.size w w' := by
  subst hf; exact build_bad base h hsm hl tb hT hr
end
/-- What is built is a delta, with the bytes of the changes. -/
theorem chs_of {base : Int} : ∀ (l : List El) (a : Int), a ≤ base → wthB base l = true → (∀ e r, l = e :: r → a ≤ e.1) → ordB l = true → Chs base a l
  | [], a, h, _, _, _ => h
  | (f, t, T) :: l, a, h, hw, ha, ho => by
    rw [show wthB base ((f, t, T) :: l) = (wthE base (f, t, T) && wthB base l) from rfl, Bool.and_eq_true] at hw
    have h1 := of_decide_eq_true hw.1
    simp only at h1
    have h2 := ha _ _ rfl
    simp only at h2
    refine ⟨h2, h1.2.1, h1.2.2, chs_of l t h1.2.2 hw.2 ?_ ?_⟩
    · rintro ⟨f', t', T'⟩ r rfl
      rw [ordB, Bool.and_eq_true] at ho
      have := of_decide_eq_true ho.1
      simp only at this ⊢
      omega
    · cases l with
      | nil => rfl
      | cons b l => rw [ordB, Bool.and_eq_true] at ho; exact ho.2
/-- What a row of changes without an error is. -/
structure Gd (base : Int) (l : List El) : Prop where
  b0 : 0 ≤ base ∧ base ≤ 20000
  wt : wthB base l = true
  od : ordB l = true
  vl : vldB l = true
  sz : sz8 base l ≤ 20000
  ch : Chs base 0 l
theorem gd_of {base : Int} {l : List El} (h : flt base l = 0) : Gd base l := by
  unfold flt at h
  split at h
  · cases h
  rename_i h1
  split at h
  · cases h
  rename_i h2
  split at h
  · cases h
  rename_i h3
  split at h
  · cases h
  rename_i h4
  simp only [Bool.not_eq_false, Bool.and_eq_true, decide_eq_true_eq] at h1 h2 h3
  refine ⟨h1.1, h1.2, h2, h3, by omega, chs_of l 0 h1.1.1 h1.2 ?_ h2⟩
  rintro ⟨f, t, T⟩ r rfl
  have := of_decide_eq_true (List.all_eq_true.1 h1.2 (f, t, T) (by simp))
  exact this.1
theorem isB_elG {base : Int} {l : List El} (h : flt base l = 0) (hm : (elG base [] 0 l).length ≤ 60) : isB base (elG base [] 0 l) = true := by
  have g := gd_of h
  refine isB_spec.2 ⟨⟨g.b0.1, g.b0.2, hm⟩, nm_elG l [] 0 0 0 g.ch (Int.le_refl _) (by omega) (fun h => by omega), ?_, ?_⟩
  · refine vld_elG l [] 0 vld_nil fun e he => ?_
    exact List.all_eq_true.1 g.vl e he
  · rw [elG_size g.ch]; exact g.sz
end Go.Proofs.YtafhogfbjklboaaDoor
