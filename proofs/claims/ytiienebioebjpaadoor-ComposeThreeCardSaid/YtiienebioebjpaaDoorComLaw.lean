/- What the laws of layer 13 have in common. -/
import Derived.Test.YtiienebioebjpaaDoorComKnown
import Derived.Test.YtiienebioebjpaaDoorTurnsP
namespace Go.Proofs.YtiienebioebjpaaDoor
open Go.RowKit Go.Sort Go.Lib
set_option linter.unusedSimpArgs false
set_option linter.unusedVariables false

theorem anyC_pick3F {P : Program} {C : World → Prop} {l : List Oper} {z fuel : Nat} {Q : Exit → Act → World → Prop} {listed : Array Bool} {a : Act} {w : World} (k k' k'' : Nat) (hr : (Region.ready .any l.toArray listed == [k, k', k'']) = true) (hk : (l[k]?).isSome = true) (hk' : (l[k']?).isSome = true) (hk'' : (l[k'']?).isSome = true)
    (h : wpList P l.toArray (AnyNext P l C z Q k fuel (listed.setIfInBounds k true)) (pickAll l [k]) a w) (h' : wpList P l.toArray (AnyNext P l C z Q k' fuel (listed.setIfInBounds k' true)) (pickAll l [k']) a w) (h'' : wpList P l.toArray (AnyNext P l C z Q k'' fuel (listed.setIfInBounds k'' true)) (pickAll l [k'']) a w) : wpAnyC P l.toArray C z (noPanic Q) (fuel + 1) listed a w :=
  anyC_pick [k, k', k''] hr (by simp [hk, hk', hk'']) rfl (by
    intro x hx
    simp only [List.mem_cons, List.not_mem_nil, or_false] at hx
    rcases hx with rfl | rfl | rfl
    · exact h
    · exact h'
    · exact h'')
theorem few_v {w : World} {v : Value} {es : List El} {n : Int} {x : Bool} (hx : fewD n es = x) (h : ElAt w v es) (hl : es.length ≤ maxLen) :
    Calls Tryd.prog 10 #[.agg #[.int .i64 n, v]] w fun e w' => e = .returned (.bool x) ∧ RowKit.Below w.heap.size w w' := by
  subst hx; exact fewD13_any n h hl
theorem refvalid13 {s : ByteArray} (hs : s.size ≤ maxLen) {x : Bool} (hx : vld s.data.toList = x) (w : World) :
    Calls Tryd.prog 18 #[.string s] w fun e w' => e = .returned (.bool x) ∧ w' = w := by
  subst hx; exact refvalid_any s w hs
theorem cells_row13 {w : World} {v : Value} {es : List El} {base : Int} (h : ElAt w v es) (hd : Dl base es) :
    Calls Tryd.prog 13 #[.agg #[.int .i64 base, v]] w fun e w' => ∃ v', e = .returned v' ∧ KAt w' v' (cel es) ∧ RowKit.Below w.heap.size w w' := by
  refine (rcells_any base h hd).mono ?_
  rintro e w' ⟨v', h1, h2, h3⟩
  exact ⟨v', h1, h2.row, h3⟩
theorem cel_len13 {base : Int} {es : List El} (hi : isB base es = true) : szE es = ((cel es).length : Nat) ∧ (cel es).length ≤ 20000 := by
  have hd := dl_of hi
  have h1 := cel_size es 0 0 hd.nm
  have h2 := hd.sz
  refine ⟨h1.symm, ?_⟩
  rw [szE_two] at h1
  omega
end Go.Proofs.YtiienebioebjpaaDoor
