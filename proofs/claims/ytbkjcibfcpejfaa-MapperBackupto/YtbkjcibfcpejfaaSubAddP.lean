/- addPart. -/
import Derived.Test.YtbkjcibfcpejfaaSubWithO
namespace Go.Proofs.Ytbkjcibfcpejfaa
open Go.RowKit Go.Sort
set_option linter.unusedSimpArgs false
set_option linter.unusedVariables false

theorem toNat_sub_max (a b : Nat) : (max ((a : Int) - (b : Int)) 0).toNat = a - b := by omega
set_option maxHeartbeats 800000 in
set_option maxRecDepth 100000 in
theorem addPart_any (w0 : World) (A L : List Int) (fr to : Nat) (w : World) (v row : Value) (hb0 : Below w0.heap.size w0 w) (hrow : SgAt w0 row (rle L)) (hown : Own w w0.heap.size v (rle A))
    (hft : fr ≤ to) (htl : to ≤ L.length) (hAL : A.length + L.length ≤ 1073741824) :
    Calls Try.prog 32 #[v, row, .int .i64 (fr : Nat), .int .i64 (to : Nat)] w fun e w' => ∃ v', e = .returned v' ∧ Own w' w0.heap.size v' (rle (A ++ cut L fr to)) ∧ Below w0.heap.size w0 w' := by
  have HL : Hid (xp (rle L) = L) := xp_rle L
  have HP : Hid (∀ r ∈ rle L, 1 ≤ r.1) := fun r hr => rle_pos hr
  have hrl := rle_len L
  generalize rle L = rs at *
  obtain ⟨a, cap, rfl, hcap, hnone, hcells⟩ := id hrow
  have HR := Hid.mk7 hrow
  have HO := Hid.mk7 hown
  have HC0 := Hid.mk7 hcells
  clear hrow hown hcells hnone
  go_enter Try.func32, Try.ntmps32
  go_wp2
  go_loopw [0, 9, 15] (fun rv av iv wr => ∃ k : Nat, k ≤ rs.length ∧ iv = .int .i64 (k : Nat) ∧ av = .int .i64 ((xp (rs.take k)).length : Nat) ∧ Hid (Own wr w0.heap.size rv (rle (A ++ cut L fr (min to (xp (rs.take k)).length)))) ∧ Below w0.heap.size w0 wr) (fun _ _ iv _ => rs.length - (intOf iv).toNat)
  case atStart => exact ⟨0, Nat.zero_le _, rfl, by simp [xp], by show Own _ _ _ _; simpa [xp, cut] using HO.out, hb0⟩
  case round =>
    clear HO
    obtain ⟨k, hk, rfl, rfl, HO, hb⟩ := hrel
    by_cases hlt : k < rs.length
    · obtain ⟨r, hr⟩ : ∃ r, rs[k]? = some r := ⟨rs[k], List.getElem?_eq_getElem hlt⟩
      obtain ⟨g, off, rfl, q0, q1⟩ := HC0.out k r hr
      have c0 := cell_later7 hb (Nat.le_refl _) q0
      have c1 := cell_later7 hb (Nat.le_refl _) q1
      obtain ⟨n, c⟩ := r
      simp only at c0 c1
      have hn := HP.out _ (List.mem_of_getElem? hr)
      simp only at hn
      have hP := xp_take_le2 hr
      rw [HL.out] at hP
      simp only at hP
      have hst := cut_step (xp (rs.take k)) (xp (rs.drop (k + 1))) n.toNat c fr to
      rw [← xp_split hr, HL.out] at hst
      have hxl : (xp (rs.take (k + 1))).length = (xp (rs.take k)).length + n.toNat := by rw [xp_take hr]; simp
      have HST := Hid.mk7 hst
      have HXL := Hid.mk7 hxl
      obtain ⟨N, rfl⟩ : ∃ N : Nat, n = (N : Int) := ⟨n.toNat, by omega⟩
      rw [Int.toNat_natCast] at HST HXL hP
      clear hst hxl q0 q1 hr
      generalize (xp (rs.take k)).length = P at *
      have HNB : Hid (some wr.heap.size ≠ u0.ownBlock) := fun e => by have := (HO.out.lt _ e.symm).2; omega
      have hAC : (A ++ cut L fr (min to P)).length ≤ 1073741824 := by
        rw [List.length_append]
        have : (cut L fr (min to P)).length ≤ L.length := by unfold cut; simp; omega
        omega
      have hsz := hb.size
      go_wp2_with fail
      all_goals
        refine (add_any w0.heap.size u0 (A ++ cut L fr (min to P)) _ c _ (by simp; omega) hAC (by omega) (by omega) (World.ownsRow.alloc HO.out _)).mono ?_
        rintro e w2 ⟨v2, rfl, ho2, hg2⟩
        have HO2 : Hid (Own w2 w0.heap.size v2 (rle (A ++ cut L fr (min to (P + N))))) := by
          show Own _ _ _ _
          rw [HST.out, ← List.append_assoc]
          refine (congrArg (fun m => Own w2 w0.heap.size v2 (rle (A ++ cut L fr (min to P) ++ List.replicate m c))) ?_).mp ho2
          omega
        have e0 : w2.cell? ⟨wr.heap.size, 0, none⟩ = some (.int .i64 (N : Nat)) := hg2.cell (by rw [World.cell?_alloc_new]; rfl) HNB.out
        have hb2 : Below w0.heap.size w0 w2 := (hb.alloc hb.size _).grown hg2 (by simp; omega) (fun j hj => (HO.out.lt _ hj).1)
        clear ho2 hg2
        go_wp2
        go_roundw
        case rel => exact ⟨k + 1, by omega, by go_num, by rw [HXL.out]; go_num, by rw [HXL.out]; exact HO2, hb2⟩
        case measure => simp [intOf]; omega
    · obtain rfl : k = rs.length := by omega
      have HE : Hid (Own wr w0.heap.size u0 (rle (A ++ cut L fr to))) := by
        have := HO.out
        rw [List.take_length, HL.out, Nat.min_eq_left htl] at this
        exact this
      clear HO
      go_wp2
      go_ret
      exact ⟨u0, rfl, HE.out, hb⟩
end Go.Proofs.Ytbkjcibfcpejfaa
