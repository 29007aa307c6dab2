/- Layer 9's made, row. -/
import Derived.Test.YtbkjcibfcpejfaaMapUp
import Derived.Test.YtbkjcibfcpejfaaMapRefR
import Derived.Test.YtbkjcibfcpejfaaAlgRow
namespace Go.Proofs.Ytbkjcibfcpejfaa
open Go.RowKit Go.Sort
set_option linter.unusedSimpArgs false
set_option linter.unusedVariables false

set_option maxHeartbeats 800000 in
theorem made9_any {w : World} {v : Value} {L : List Int} (h : NumAt .i64 w v L) (hL : ∀ c ∈ L, 0 ≤ c ∧ c ≤ 100) (hl : L.length ≤ 1073741824) :
    Calls Try.prog 9 #[v] w fun e w' => ∃ p, e = .returned p ∧ (p = .pointer none ∧ ¬ (L.length ≤ 20000 ∧ (rle L).length ≤ 200) ∨ Sub w' p L) ∧ Below w.heap.size w w' := by
  have HS := Hid.mk7 (refsegs_any h hl)
  have HOL := Hid.mk7 hL
  clear h hL
  go_enter Try.func9, Try.ntmps9
  go_wp2_with fail
  refine HS.out.mono ?_
  rintro e w1 ⟨v1, rfl, o1, b1⟩
  have hrl := rle_len L
  by_cases hk : L.length ≤ 20000 ∧ (rle L).length ≤ 200
  · have HOF := Hid.mk7 (of_ok o1.row (fm_rle HOL.out) hk.2 (by rw [xp_rle]; exact hk.1))
    rw [xp_rle] at HOF
    clear o1 HS hk
    go_wp2_with fail
    refine HOF.out.mono ?_
    rintro e w2 ⟨p, rfl, hs, b2⟩
    have g2 := b1.trans (b2.mono b1.size)
    have HS := Hid.mk7 hs
    clear hs
    go_wp2
    go_ret
    exact ⟨p, rfl, Or.inr HS.out, g2⟩
  · have HOF := Hid.mk7 (of_many o1.row (by omega) (fm_rle HOL.out) (by rw [xp_rle]; omega))
    have HK := Hid.mk7 hk
    clear o1 HS hk
    go_wp2_with fail
    refine HOF.out.mono ?_
    rintro e w2 ⟨rfl, b2⟩
    have g2 := b1.trans (b2.mono b1.size)
    go_wp2
    go_ret
    exact ⟨_, rfl, Or.inl ⟨rfl, HK.out⟩, g2⟩
theorem made9_ok {w : World} {v : Value} {L : List Int} (h : NumAt .i64 w v L) (hL : Ok8 L) (hr : L.length ≤ 200) :
    Calls Try.prog 9 #[v] w fun e w' => ∃ p, e = .returned p ∧ Sub w' p L ∧ Below w.heap.size w w' := by
  refine (made9_any h hL.2 (by omega)).mono ?_
  rintro e w' ⟨p, rfl, ⟨_, hn⟩ | hs, b⟩
  · exact absurd ⟨by omega, Nat.le_trans (rle_len L) hr⟩ hn
  · exact ⟨p, rfl, hs, b⟩
def f19 (z : Int) : Int := (z % 3) * (z / 3 % 2)
theorem f19_in (z : Int) : 0 ≤ f19 z ∧ f19 z ≤ 100 := by
  unfold f19
  have h1 : 0 ≤ z % 3 ∧ z % 3 ≤ 2 := by omega
  rcases (show z / 3 % 2 = 0 ∨ z / 3 % 2 = 1 from by omega) with h | h
  · rw [h]; omega
  · rw [h]; omega
theorem f19_all (l : List Int) : ∀ c ∈ l.map f19, 0 ≤ c ∧ c ≤ 100 := fun c hc => by
  obtain ⟨z, _, rfl⟩ := List.mem_map.1 hc
  exact f19_in z
set_option maxHeartbeats 4000000 in
set_option maxRecDepth 100000 in
theorem row9_any {w : World} {v : Value} {zl : List Int} (hv : NumAt .u8 w v zl) (hzs : ∀ z ∈ zl, 0 ≤ z ∧ z ≤ 255) (hl : zl.length ≤ 1048576) :
    Calls Try.prog 8 #[v] w fun e w' => ∃ t, e = .returned t ∧ NumAt .i64 w' t (zl.map f19) ∧ Below w.heap.size w w' := by
  obtain ⟨a, cap, rfl, hcap, hcells⟩ := hv
  have HC := Hid.mk7 hcells
  have HZS := Hid.mk7 hzs
  clear hcells hzs
  go_enter Try.func8, Try.ntmps8
  go_wp2
  go_loopw [3, 4] (fun ov iv wr => ∃ k : Nat, k ≤ zl.length ∧ iv = .int .i64 (k : Nat) ∧ Hid (OwnI wr w.heap.size ov ((zl.take k).map f19)) ∧ Below w.heap.size w wr) (fun _ iv _ => zl.length - (intOf iv).toNat)
  case atStart => exact ⟨0, Nat.zero_le _, rfl, OwnI.nil _ _, Below.refl _ _⟩
  case round =>
    obtain ⟨k, hk, rfl, HO, hb⟩ := hrel
    by_cases hlt : k < zl.length
    · obtain ⟨x, hx⟩ : ∃ r, zl[k]? = some r := ⟨zl[k], List.getElem?_eq_getElem hlt⟩
      obtain ⟨g, off, rfl, q0⟩ := HC.out k _ hx
      have c0 := cell_later7 hb (Nat.le_refl _) q0
      have hgw : g < w.heap.size := World.block_lt_of_cell? w ⟨g, _, none⟩ q0
      have hxb := HZS.out x (List.mem_of_getElem? hx)
      obtain ⟨A, hA, hA3⟩ : ∃ A : Nat, x % 3 = (A : Int) ∧ A < 3 := ⟨(x % 3).toNat, by omega, by omega⟩
      obtain ⟨D, hD, hD3⟩ : ∃ D : Nat, x / 3 = (D : Int) ∧ D < 86 := ⟨(x / 3).toNat, by omega, by omega⟩
      have HX := Hid.mk7 (take_map_succ f19 hx)
      have hsz := hb.size
      have hLN : ((zl.take k).map f19).length = k := by simp; omega
      rcases (show (D : Int) % 2 = 0 ∧ f19 x = 0 ∨ (D : Int) % 2 = 1 ∧ f19 x = (A : Int) from by
        unfold f19
        rcases (show (D : Int) % 2 = 0 ∨ (D : Int) % 2 = 1 from by omega) with h | h
        · exact Or.inl ⟨h, by rw [hD, h]; simp⟩
        · exact Or.inr ⟨h, by rw [hD, h, hA]; simp⟩) with ⟨hE, hf⟩ | ⟨hE, hf⟩
      · clear hx q0
        go_wp2
        refine wp_region_turns (fun w' => ∃ x0 : GW (fun W => W.cell? ⟨g, off + k, none⟩ = some (.int .u8 x)), w' = x0.w) [0, 1, 2, 3, 4, 5, 6, 7, 8, 9, 10, 11, 12, 13, 14] 17 3 (by kernel_rfl) (by kernel_rfl) (fun d => ⟨⟨redrawn wr d, c0⟩, rfl⟩) ?_
        intro d
        have k0 : ∀ x0 : GW (fun W => W.cell? ⟨g, off + k, none⟩ = some (.int .u8 x)), x0.w.cell? ⟨g, off + k, none⟩ = some (.int .u8 x) := fun x0 => x0.h
        simp only [pickAll, pickAt, List.nil_append, List.cons_append, List.append_nil]
        have hne : Nonempty (GW (fun W => W.cell? ⟨g, off + k, none⟩ = some (.int .u8 x))) := ⟨⟨wr, c0⟩⟩
        repeat (go_big_quiet_step (fail))
        refine wpQuiet_nil ?_
        clear hne
        have bd := below_rd9 wr d
        have T0 := Hid.mk7 (HO.out.later bd)
        have g0 := hb.trans (bd.mono hb.size)
        have a0 := Hid.mk7 (cell_later7 bd (Nat.le_refl _) c0)
        have hs0 : w.heap.size ≤ (redrawn wr d).heap.size := g0.size
        clear k0 c0 bd HO
        generalize redrawn wr d = W0 at *
        refine anyC_pick1 15 (by kernel_rfl) (by kernel_rfl) ?_
        simp only [pickAll, pickAt, List.nil_append, List.cons_append, List.append_nil]
        go_wp2
        have bl : Below W0.heap.size W0 (W0.alloc (.cells #[.int .i64 0] 3)) := (Below.refl _ _).alloc (Nat.le_refl _) _
        have a1 := Hid.mk7 (cell_later7 bl (Nat.le_refl _) a0.out)
        refine anyNext_mk ⟨⟨_, a1.out⟩, rfl⟩ ?_
        refine anyC_pick1 16 (by kernel_rfl) (by kernel_rfl) ?_
        simp only [pickAll, pickAt, List.nil_append, List.cons_append, List.append_nil]
        go_wp2_with (at_builtin; refine wpList_append_int rfl _ _ rfl w.heap.size _ ((zl.take k).map f19) rfl (T0.out.later bl) ⟨_, 0, none⟩ 0 rfl (cell_one8 _ _ _ 0 _ rfl) rfl (by omega) (by have := bl.size; omega) ?_)
        intro v' w3 hown' hgrow _
        have hb3 : Below w.heap.size w w3 := (g0.trans (bl.mono g0.size)).grown hgrow (by have := bl.size; omega) (fun t ht => (ownI_lt T0.out ht).1)
        have a3 := Hid.mk7 (hgrow.cell a1.out (fun e => by have := (ownI_lt T0.out e.symm).1; simp only at this; omega))
        have HO3 : Hid (OwnI w3 w.heap.size v' ((zl.take (k + 1)).map f19)) := by rw [HX.out, hf, List.map_take]; exact hown'
        clear hown' hgrow T0 HX a0 a1 bl g0
        go_wp2
        refine anyNext_mk ⟨⟨_, a3.out⟩, rfl⟩ ?_
        refine anyC_pick1 17 (by kernel_rfl) (by kernel_rfl) ?_
        simp only [pickAll, pickAt, List.nil_append, List.cons_append, List.append_nil]
        go_wp2
        refine anyNext_last (anyC_done (by kernel_rfl) ?_)
        clear a3 hA hE hf hD
        go_wp2
        go_roundw
        case rel => exact ⟨k + 1, by omega, by go_num, HO3, hb3⟩
        case measure => simp [intOf]; omega
      · clear hx q0
        go_wp2
        refine wp_region_turns (fun w' => ∃ x0 : GW (fun W => W.cell? ⟨g, off + k, none⟩ = some (.int .u8 x)), w' = x0.w) [0, 1, 2, 3, 4, 5, 6, 7, 8, 9, 10, 11, 12, 13, 14] 17 3 (by kernel_rfl) (by kernel_rfl) (fun d => ⟨⟨redrawn wr d, c0⟩, rfl⟩) ?_
        intro d
        have k0 : ∀ x0 : GW (fun W => W.cell? ⟨g, off + k, none⟩ = some (.int .u8 x)), x0.w.cell? ⟨g, off + k, none⟩ = some (.int .u8 x) := fun x0 => x0.h
        simp only [pickAll, pickAt, List.nil_append, List.cons_append, List.append_nil]
        have hne : Nonempty (GW (fun W => W.cell? ⟨g, off + k, none⟩ = some (.int .u8 x))) := ⟨⟨wr, c0⟩⟩
        repeat (go_big_quiet_step (fail))
        refine wpQuiet_nil ?_
        clear hne
        have bd := below_rd9 wr d
        have T0 := Hid.mk7 (HO.out.later bd)
        have g0 := hb.trans (bd.mono hb.size)
        have a0 := Hid.mk7 (cell_later7 bd (Nat.le_refl _) c0)
        have hs0 : w.heap.size ≤ (redrawn wr d).heap.size := g0.size
        clear k0 c0 bd HO
        generalize redrawn wr d = W0 at *
        refine anyC_pick1 15 (by kernel_rfl) (by kernel_rfl) ?_
        simp only [pickAll, pickAt, List.nil_append, List.cons_append, List.append_nil]
        go_wp2
        have bl : Below W0.heap.size W0 (W0.alloc (.cells #[.int .i64 (A : Nat)] 3)) := (Below.refl _ _).alloc (Nat.le_refl _) _
        have a1 := Hid.mk7 (cell_later7 bl (Nat.le_refl _) a0.out)
        refine anyNext_mk ⟨⟨_, a1.out⟩, rfl⟩ ?_
        refine anyC_pick1 16 (by kernel_rfl) (by kernel_rfl) ?_
        simp only [pickAll, pickAt, List.nil_append, List.cons_append, List.append_nil]
        go_wp2_with (at_builtin; refine wpList_append_int rfl _ _ rfl w.heap.size _ ((zl.take k).map f19) rfl (T0.out.later bl) ⟨_, 0, none⟩ (A : Int) rfl (cell_one8 _ _ _ 0 _ rfl) rfl (by omega) (by have := bl.size; omega) ?_)
        intro v' w3 hown' hgrow _
        have hb3 : Below w.heap.size w w3 := (g0.trans (bl.mono g0.size)).grown hgrow (by have := bl.size; omega) (fun t ht => (ownI_lt T0.out ht).1)
        have a3 := Hid.mk7 (hgrow.cell a1.out (fun e => by have := (ownI_lt T0.out e.symm).1; simp only at this; omega))
        have HO3 : Hid (OwnI w3 w.heap.size v' ((zl.take (k + 1)).map f19)) := by rw [HX.out, hf, List.map_take]; exact hown'
        clear hown' hgrow T0 HX a0 a1 bl g0
        go_wp2
        refine anyNext_mk ⟨⟨_, a3.out⟩, rfl⟩ ?_
        refine anyC_pick1 17 (by kernel_rfl) (by kernel_rfl) ?_
        simp only [pickAll, pickAt, List.nil_append, List.cons_append, List.append_nil]
        go_wp2
        refine anyNext_last (anyC_done (by kernel_rfl) ?_)
        clear a3 hA hE hf hD
        go_wp2
        go_roundw
        case rel => exact ⟨k + 1, by omega, by go_num, HO3, hb3⟩
        case measure => simp [intOf]; omega
    · obtain rfl : k = zl.length := by omega
      have HN : Hid (NumAt .i64 wr u3 (zl.map f19)) := by
        have h1 := HO.out.num
        rw [List.take_length] at h1
        exact h1
      clear HO
      go_wp2
      go_ret
      exact ⟨_, rfl, HN.out, hb⟩
end Go.Proofs.Ytbkjcibfcpejfaa
