/- There and back: what ComposeUndoes asks, as plain mathematics (layer 13; written ahead of its code). -/
import Derived.Test.YtiienebioebjpaaDoorComTwo
namespace Go.Proofs.YtiienebioebjpaaDoor
set_option linter.unusedSimpArgs false
set_option linter.unusedVariables false

/-- A delta cut at edges of a valid text, the one back, the one back again. -/
structure Undo (s : List UInt8) (es : List El) (t : List UInt8) (ie je : List El) : Prop where
  tt : apl (cel es) s = t
  tl : (t.length : Int) = ((cel es).length : Nat)
  vt : vld t = true
  ie' : tld (invC s 0 0 (cel es)) = ie
  je' : tld (invC t 0 0 (cel ie)) = je
  isI : isB (t.length : Nat) ie = true
  isJ : isB (s.length : Nat) je = true
  apI : apl (cel ie) t = s
  apJ : apl (cel je) s = t
  lI : ie.length ≤ 60
  lJ : je.length ≤ 60
  adI : (inS ie : Int) = (s.length : Int) - cpS es
  drI : (t.length : Int) - cpS ie = inS es
/-- One delta and the one back. -/
theorem back_one {s : List UInt8} {es : List El} (hs : vld s = true) (hi : isB (s.length : Nat) es = true) (hed : EdE s es) (hc : cpN es ≤ 29) :
    ∃ ie, tld (invC s 0 0 (cel es)) = ie ∧ isB ((apl (cel es) s).length : Nat) ie = true ∧ apl (cel ie) (apl (cel es) s) = s ∧ EdE (apl (cel es) s) ie ∧ vld (apl (cel es) s) = true ∧ cpN ie ≤ cpN es ∧ ie.length ≤ 60 ∧
      (inS ie : Int) = (s.length : Int) - cpS es ∧ ((apl (cel es) s).length : Int) - cpS ie = inS es := by
  obtain ⟨h1, nm, _, h4⟩ := isB_spec.1 hi
  have hcs := cel_size es 0 0 nm
  have htl : (apl (cel es) s).length = (cel es).length := by simp [apl]
  have hup := up_cel es 0 0 (Int.le_refl _) nm
  have hiu := inv_up (s := s) (cel es) 0 0 0 hup (Int.le_refl _)
  rw [show ((0 : Nat) : Int) + ((cel es).length : Nat) = ((cel es).length : Nat) by omega] at hiu
  obtain ⟨v1, v2, v3⟩ := inv_valid hs nm hed
  obtain ⟨e1, e2⟩ := inv_ede hs nm hed
  obtain ⟨o1, o2⟩ := inv_own (s := s) (cel es) 0 0 hup (Nat.zero_le _)
  have hcl : (cel es).length ≤ 20000 := by omega
  have hsl : s.length ≤ 20000 := by omega
  have hisI : isB ((cel es).length : Nat) (tld (invC s 0 0 (cel es))) = true := isB_tld ⟨by omega, by omega⟩ hiu (by omega) v1 (by omega)
  have hci := cel_tld_up hiu
  obtain ⟨_, nmI, _, _⟩ := isB_spec.1 hisI
  have k1 := ownN_cel es 0 0 (Int.le_refl _) nm
  have k2 := ownN_cel _ 0 0 (Int.le_refl _) nmI
  have k3 := cel_size _ 0 0 nmI
  rw [hci] at k2 k3
  rw [szE_two] at hcs k3
  have hle := ownN_le (cel es)
  refine ⟨_, rfl, by rw [htl]; exact hisI, ?_, e1, e2, v2, by omega, by omega, by rw [htl]; omega⟩
  rw [hci]
  have := apl_inv (s := s) (t := apl (cel es) s) (full := s) rfl (cel es) 0 0 hup rfl
  simpa using this
theorem undo_of {s : List UInt8} {es : List El} (hs : vld s = true) (hi : isB (s.length : Nat) es = true) (hed : EdE s es) (hc : cpN es ≤ 29) : ∃ t ie je, Undo s es t ie je := by
  obtain ⟨ie, a1, a2, a3, a4, a5, a6, a7, a8, a9⟩ := back_one hs hi hed hc
  obtain ⟨je, b1, b2, b3, b4, b5, b6, b7, b8, b9⟩ := back_one a5 a2 a4 (by omega)
  rw [a3] at b2 b3
  exact ⟨_, ie, je, rfl, by simp [apl], a5, a1, b1, a2, b2, a3, b3, a7, b7, a8, a9⟩
/-- .. built of changes at edges. -/
theorem undo_built {s : List UInt8} {l : List El} (hs : vld s = true) (hf : flt (s.length : Nat) l = 0) (hm : (elG (s.length : Nat) [] 0 l).length ≤ 60) (hl : l.length ≤ 20) (he : ∀ e ∈ l, VE s e.1 ∧ VE s e.2.1) : ∃ t ie je, Undo s (elG (s.length : Nat) [] 0 l) t ie je := by
  have g := gd_of hf
  refine undo_of hs (isB_elG hf hm) (ede_elG (ve_all hs (by omega)) l [] 0 vld_nil (ve_zero s) fun e hm => ?_) ?_
  · have := he e hm
    exact ⟨List.all_eq_true.1 g.vl e hm, this⟩
  · have := cpN_elG (base := ((s.length : Nat) : Int)) l [] 0; omega
end Go.Proofs.YtiienebioebjpaaDoor
