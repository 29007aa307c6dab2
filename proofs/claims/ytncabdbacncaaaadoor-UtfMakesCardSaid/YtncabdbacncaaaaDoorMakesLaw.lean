/- UtfMakes, walked: it answers true at every row of numbers. -/
import Derived.Test.YtncabdbacncaaaaDoorJoinLaw
import Derived.Test.YtncabdbacncaaaaDoorRefMake
namespace Go.Proofs.YtncabdbacncaaaaDoor
open Go.RowKit Go.Sort

/-- What the first k numbers are made into. -/
def accS (zs : List Int) (k : Nat) : ByteArray := ⟨(flat ((zs.take k).map tor)).toArray⟩
theorem accS_zero (zs : List Int) : accS zs 0 = ⟨#[]⟩ := rfl
theorem accS_succ {zs : List Int} {k : Nat} (h : k < zs.length) : accS zs k ++ ⟨(enc (tor (zs.getD k 0))).toArray⟩ = accS zs (k + 1) := by
  unfold accS
  apply ByteArray.ext
  rw [ByteArray.data_append, List.take_succ_eq_append_getElem h, List.map_append, flat_append]
  simp [List.getD_eq_getElem?_getD, h, flat]
theorem accS_size (zs : List Int) (k : Nat) : (accS zs k).size ≤ 4 * k := by
  have h := (flat_length_ge ((zs.take k).map tor)).2
  have e : (accS zs k).size = (flat ((zs.take k).map tor)).length := rfl
  rw [List.length_map, List.length_take] at h
  omega
theorem good_tor (zs : List Int) : Good (zs.map tor) := by
  intro x hx
  obtain ⟨z, _, rfl⟩ := List.mem_map.1 hx
  exact tor_scalar z

set_option maxHeartbeats 1000000 in
set_option maxRecDepth 100000 in
theorem makes_long (zs : List Int) (ad : Option Addr) (cap : Nat) (hl : 60 < zs.length) (hm : zs.length ≤ maxLen) (w : World) (tb : Nat × Nat) (hT : Tab w tb) :
    Calls Tryd.prog 4 #[.slice ad zs.length cap] w fun e w' => e = .returned (.bool true) ∧ Below w.heap.size w w' := by
  unfold maxLen at hm
  have h1 : (60 : Int) < zs.length := by omega
  go_enter Tryd.func4, Tryd.ntmps4
  go_wp2_with fail
  refine (known_any _ tb hT).mono ?_
  rintro e w1 ⟨rfl, b1⟩
  go_wp2
  go_ret
  exact ⟨rfl, b1⟩

theorem make_rowat (zs : List Int) (v : Value) (w : World) (tb : Nat × Nat) (hz : ∀ i, i < zs.length → -9223372036854775808 ≤ zs.getD i 0 ∧ zs.getD i 0 ≤ 9223372036854775807) (hl : zs.length ≤ 60) (hv : RowAt .i64 w v zs) (hT : Tab w tb) (hne : zs ≠ []) :
    Calls Tryd.prog 24 #[v] w fun e w' => e = .returned (.string ⟨(flat (zs.map tor)).toArray⟩) ∧ Below w.heap.size w w' := by
  obtain ⟨ad, cap, rfl, h⟩ := hv
  obtain ⟨blk, off, rfl, hc⟩ := h hne
  exact make_any zs _ w tb hz (by omega) (Or.inr ⟨blk, off, cap, rfl, hc⟩) hT

set_option maxHeartbeats 1000000 in
theorem make_empty (ad : Option Addr) (cap : Nat) (w : World) :
    Calls Tryd.prog 24 #[.slice ad 0 cap] w fun e w' => e = .returned (.string ⟨#[]⟩) ∧ Below w.heap.size w w' := by
  go_enter Tryd.func24, Tryd.ntmps24
  go_wp2
  go_loopw [8] (fun j wr => j = .int .i64 0 ∧ Lib.IsBuilderF 49 5 w.heap.size w.heap.size (Lib.byteCells []) wr ∧ Below w.heap.size w wr) (fun _ _ => 0)
  case atStart => exact ⟨rfl, Lib.IsBuilderF.of (Lib.fresh_isBuilder 49 5 w), (Below.refl _ _).alloc (Nat.le_refl _) _⟩
  case round =>
    obtain ⟨rfl, hI, hb⟩ := hrel
    go_wp2_with (go_at_call 28; refine (Tryd.Builder_String_any_k w.heap.size w.heap.size _ _ hI hb.size).mono ?_)
    rintro e w1 ⟨rfl, _, b1, _⟩
    go_wp2
    go_ret
    exact ⟨rfl, hb.trans b1⟩

/-- utf.Make at a row that came in. -/
theorem make_in (zs : List Int) (ad : Option Addr) (cap : Nat) (w : World) (tb : Nat × Nat) (hz : ∀ i, i < zs.length → -9223372036854775808 ≤ zs.getD i 0 ∧ zs.getD i 0 ≤ 9223372036854775807) (hl : zs.length ≤ 60) (hv : RowAt .i64 w (.slice ad zs.length cap) zs) (hT : Tab w tb) :
    Calls Tryd.prog 24 #[.slice ad zs.length cap] w fun e w' => e = .returned (.string (accS zs zs.length)) ∧ Below w.heap.size w w' := by
  have e : accS zs zs.length = ⟨(flat (zs.map tor)).toArray⟩ := by unfold accS; rw [List.take_length]
  rw [e]
  by_cases hne : zs = []
  · subst hne
    exact make_empty ad cap w
  · exact make_rowat zs _ w tb hz hl hv hT hne

set_option maxHeartbeats 2000000 in
set_option maxRecDepth 100000 in
theorem makes_row (zs : List Int) (v : Value) (hl : zs.length ≤ 60) (hz : ∀ i, i < zs.length → -9223372036854775808 ≤ zs.getD i 0 ∧ zs.getD i 0 ≤ 9223372036854775807) (w : World) (tb : Nat × Nat) (hT : Tab w tb) (hR : RowAt .i64 w v zs) :
    Calls Tryd.prog 4 #[v] w fun e w' => e = .returned (.bool true) ∧ Below w.heap.size w w' := by
  have HR : Hid (RowAt .i64 w v zs) := hR
  obtain ⟨ad, cap, rfl, hcells⟩ := hR
  have HCE : Hid (zs ≠ [] → ∃ blk off, ad = some ⟨blk, off, none⟩ ∧ ∀ i, i < zs.length → w.cell? ⟨blk, off + i, none⟩ = some (.int .i64 (zs.getD i 0))) := hcells
  have HM : Hid (∀ W, Below w.heap.size w W → Tab W tb → Calls Tryd.prog 24 #[.slice ad zs.length cap] W fun e w' => e = .returned (.string (accS zs zs.length)) ∧ Below W.heap.size W w') := fun W hbw h => make_in zs ad cap W tb hz hl (HR.out.later hbw) h
  have HV : Hid (∀ W, Tab W tb → Calls Tryd.prog 16 #[.string (accS zs zs.length)] W fun e w' => e = .returned (.bool true) ∧ Below W.heap.size W w') := by
    intro W h
    have := valid_any (accS zs zs.length) W tb (by have := accS_size zs zs.length; unfold maxLen; omega) h
    have e : vld (accS zs zs.length).data.toList = true := by
      unfold accS
      rw [List.take_length]
      exact vld_flat (good_tor zs)
    rwa [e] at this
  have HZ : Hid (∀ i, i < zs.length → -9223372036854775808 ≤ zs.getD i 0 ∧ zs.getD i 0 ≤ 9223372036854775807) := hz
  have hd : decide ((60 : Int) < zs.length) = false := by simp; omega
  clear hcells hz HR
  go_enter Tryd.func4, Tryd.ntmps4
  go_wp2_with fail
  refine (known_any _ tb hT).mono ?_
  rintro e w1 ⟨rfl, b1⟩
  have t1 := hT.later b1
  go_wp2
  go_loopw [3, 4] (fun t i wr => ∃ k : Nat, k ≤ zs.length ∧ i = .int .i64 k ∧ t = .string (accS zs k) ∧ Below w1.heap.size w1 wr) (fun _ i _ => zs.length - (intOf i).toNat)
  case atStart => exact ⟨0, by omega, rfl, by rw [accS_zero], Below.refl _ _⟩
  case round =>
    obtain ⟨k, hk, rfl, rfl, hb⟩ := hrel
    have hbw := b1.trans (hb.mono b1.size)
    by_cases hlt : k < zs.length
    · have hne : zs ≠ [] := by intro e; rw [e] at hlt; simp at hlt
      obtain ⟨blk, off, rfl, hcl⟩ := HCE.out hne
      have hc := cell_later hbw (hcl k hlt)
      clear hcl hne
      have hzk := HZ.out k hlt
      have HS : Hid (accS zs k ++ ⟨(enc (tor (zs.getD k 0))).toArray⟩ = accS zs (k + 1)) := accS_succ hlt
      have hs1 := accS_size zs k
      generalize zs.getD k 0 = z at *
      have HMk : Hid (∀ W, Calls Tryd.prog 23 #[.int .i64 z] W fun e w' => ∃ T : ByteArray, e = .returned (.string T) ∧ T.size ≤ 4 ∧ Hid (accS zs k ++ T = accS zs (k + 1)) ∧ Below W.heap.size W w') := fun W => (refmake_any z W).mono fun _ _ ⟨he, hbb⟩ => ⟨_, he, (enc_length _).2, HS.out, hbb⟩
      clear HS
      go_wp2_with (go_at_call 23; refine (HMk.out _).mono ?_; rintro e w2 ⟨T, rfl, hTz, HTT, b2⟩)
      go_roundw
      case rel => exact ⟨k + 1, by omega, by go_num, by rw [HTT.out], hb.trans (b2.mono hb.size)⟩
      case measure => simp [intOf]; omega
    · obtain rfl : k = zs.length := by omega
      have tr := t1.later hb
      go_wp2_with fail
      refine (HM.out _ hbw tr).mono ?_
      rintro e w2 ⟨rfl, b2⟩
      have t2 := tr.later b2
      go_wp2_with fail
      refine (HV.out _ t2).mono ?_
      rintro e w3 ⟨rfl, b3⟩
      go_wp2
      go_ret
      have g1 := hbw.trans (b2.mono hbw.size)
      exact ⟨rfl, g1.trans (b3.mono g1.size)⟩

theorem makes_law (zs : List Int) (v : Value) (hm : zs.length ≤ maxLen) (hz : ∀ i, i < zs.length → -9223372036854775808 ≤ zs.getD i 0 ∧ zs.getD i 0 ≤ 9223372036854775807) (w : World) (tb : Nat × Nat) (hT : Tab w tb) (hR : RowAt .i64 w v zs) :
    Calls Tryd.prog 4 #[v] w fun e w' => e = .returned (.bool true) ∧ Below w.heap.size w w' := by
  by_cases hl : zs.length ≤ 60
  · exact makes_row zs v hl hz w tb hT hR
  · obtain ⟨ad, cap, rfl, _⟩ := hR
    exact makes_long zs ad cap (by omega) hm w tb hT
end Go.Proofs.YtncabdbacncaaaaDoor
