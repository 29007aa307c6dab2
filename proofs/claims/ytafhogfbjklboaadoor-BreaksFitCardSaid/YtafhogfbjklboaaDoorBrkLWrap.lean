/- BreaksWrap walked. -/
import Derived.Test.YtafhogfbjklboaaDoorBrkKnown
import Derived.Test.YtafhogfbjklboaaDoorBrkRWrap
namespace Go.Proofs.YtafhogfbjklboaaDoor
open Go.RowKit Go.Sort
set_option linter.unusedSimpArgs false
set_option linter.unusedVariables false

theorem same_yes16 {w : World} {v u : Value} {A : List Int} (h : NAt w v A) (h' : NAt w u A) (hA : A.length ≤ 1073741824) :
    Calls Tryd.prog 19 #[v, u] w fun e w' => e = .returned (.bool true) ∧ Below w.heap.size w w' := by
  have := same_any16 h h' hA hA
  rwa [decide_eq_true rfl] at this
set_option maxHeartbeats 4000000 in
set_option maxRecDepth 100000 in
theorem lwrap_any16 (s : ByteArray) (width : Int) (w : World) (hw : width ≤ 9223372036854775807) (hU : UT w) :
    Calls Tryd.prog 4 #[.string s, .int .i64 width] w fun e w' => e = .returned (.bool true) ∧ Below w.heap.size w w' := by
  have HK := Hid.mk7 (known16_any w hU)
  have HU := Hid.mk7 hU
  clear hU
  go_enter Tryd.func4, Tryd.ntmps4
  go_wp2_with fail
  refine HK.out.mono ?_
  rintro e w1 ⟨rfl, b1⟩
  have HU1 := Hid.mk7 (HU.out.later b1)
  have G1 := Hid.mk7 b1
  clear b1 HU HK
  by_cases h6 : 600 < s.size
  · have d6 : decide ((600 : Int) < (s.size : Int)) = true := decide_eq_true (by omega)
    go_wp2
    go_ret
    exact ⟨rfl, G1.out⟩
  have d6 : decide ((600 : Int) < (s.size : Int)) = false := decide_eq_false (by omega)
  have HW := Hid.mk7 (wrap_any16 s width w1 (by omega) HU1.out)
  have HRW := Hid.mk7 (fun W => rwrap_any16 s width W (by omega) hw)
  have hlen := wrR_len width s.data.toList
  generalize wrE width s.data.toList = er at *
  generalize wrR width s.data.toList = R at *
  go_wp2_with fail
  refine HW.out.mono ?_
  rintro e w2 ⟨v2, rfl, n2, b2⟩
  have G2 := Hid.mk7 (below_old G1.out b2)
  have A2 := Hid.mk7 n2
  clear b2 n2 HU1 HW G1
  go_wp2_with fail
  refine (HRW.out _).mono ?_
  rintro e w3 ⟨v3, rfl, n3, b3⟩
  have G3 := Hid.mk7 (below_old G2.out b3)
  have HS := Hid.mk7 (same_yes16 (A2.out.later b3) n3 (by omega))
  clear b3 n3 HRW G2 A2
  have hee : (er == er) = true := by simp
  go_wp2_with fail
  refine HS.out.mono ?_
  rintro e w4 ⟨rfl, b4⟩
  have G4 := Hid.mk7 (below_old G3.out b4)
  clear b4
  go_wp2
  go_ret
  exact ⟨rfl, G4.out⟩
end Go.Proofs.YtafhogfbjklboaaDoor
