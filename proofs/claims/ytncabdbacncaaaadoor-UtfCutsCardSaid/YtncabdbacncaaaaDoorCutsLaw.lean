/- UtfCuts, walked: it answers true at every number and cut. -/
import Derived.Test.YtncabdbacncaaaaDoorJoinLaw
import Derived.Laws.BytesArg
import Derived.Lib.ConvBytes
namespace Go.Proofs.YtncabdbacncaaaaDoor
open Go.RowKit Go.Sort

theorem c_make (W : World) (tb : Nat × Nat) (blk : Nat) (v : Int) (hv : -9223372036854775808 ≤ v ∧ v ≤ 9223372036854775807) (hc : W.cell? ⟨blk, 0, none⟩ = some (.int .i64 v)) (h : Tab W tb) : Calls Tryd.prog 24 #[.slice (some ⟨blk, 0, none⟩) 1 1] W fun e w' => e = .returned (.string ⟨(enc (tor v)).toArray⟩) ∧ Below W.heap.size W w' := by
  have := make_any [v] (.slice (some ⟨blk, 0, none⟩) 1 1) W tb (fun i hi => by match i, hi with | 0, _ => exact hv) (by simp) (Or.inr ⟨blk, 0, 1, rfl, fun i hi => by match i, hi with | 0, _ => exact hc⟩) h
  rwa [show flat ([v].map tor) = enc (tor v) from by simp [flat]] at this
theorem c_enc_bad : (⟨(enc 65533).toArray⟩ : ByteArray) = ⟨#[239, 191, 189]⟩ := by decide +kernel

set_option maxHeartbeats 1000000 in
set_option maxRecDepth 100000 in
theorem cuts_sur (v cut : Int) (hv : 0 ≤ v ∧ v ≤ 4294967295) (hs : 55296 ≤ v % 1113984 + 128 ∧ v % 1113984 + 128 < 57344) (w : World) (tb : Nat × Nat) (hT : Tab w tb) :
    Calls Tryd.prog 7 #[.int .u32 v, .int .u8 cut] w fun e w' => e = .returned (.bool true) ∧ Below w.heap.size w w' := by
  have r0 : 0 ≤ v % 1113984 := by omega
  have HM := fun W blk => c_make W tb blk (v % 1113984 + 128) (by omega)
  have e : tor (v % 1113984 + 128) = 65533 := by unfold tor; rw [if_neg (by omega)]
  rw [e, c_enc_bad] at HM
  have HH : Hid (∀ W blk, W.cell? ⟨blk, 0, none⟩ = some (.int .i64 (v % 1113984 + 128)) → Tab W tb → Calls Tryd.prog 24 #[.slice (some ⟨blk, 0, none⟩) 1 1] W fun e w' => e = .returned (.string ⟨#[239, 191, 189]⟩) ∧ Below W.heap.size W w') := HM
  clear HM e
  go_enter Tryd.func7, Tryd.ntmps7
  go_wp2_with fail
  refine (known_any _ tb hT).mono ?_
  rintro e w1 ⟨rfl, b1⟩
  have t1 := hT.later b1
  go_wp2_with fail
  have bA : Below w1.heap.size w1 (w1.alloc (Obj.cells #[.int .i64 (v % 1113984 + 128)] 3)) := (Below.refl _ _).alloc (Nat.le_refl _) _
  refine (HH.out _ w1.heap.size (by simp) (t1.later bA)).mono ?_
  rintro e w2 ⟨rfl, b2⟩
  go_wp2
  go_ret
  have g1 := b1.trans (bA.mono b1.size)
  exact ⟨rfl, g1.trans (b2.mono g1.size)⟩

/-- What a size says of the bytes. -/
theorem sz_says {l : List UInt8} (h : 0 < sz1 l) : (sz1 l = 1 ∧ 1 ≤ l.length ∧ bl l 0 ≤ 127) ∨ (sz1 l = 2 ∧ 2 ≤ l.length ∧ 194 ≤ bl l 0 ∧ bl l 0 ≤ 223 ∧ 128 ≤ bl l 1) ∨
    (sz1 l = 3 ∧ 3 ≤ l.length ∧ 224 ≤ bl l 0 ∧ bl l 0 ≤ 239 ∧ 128 ≤ bl l 2) ∨ (sz1 l = 4 ∧ 4 ≤ l.length ∧ 240 ≤ bl l 0 ∧ bl l 0 ≤ 244 ∧ 128 ≤ bl l 3) := by
  have hne : l ≠ [] := by intro e; subst e; simp [sz1] at h
  have hz : sz1 l = szI l.length (bl l 0) (bl l 1) (bl l 2) (bl l 3) := by unfold sz1; rw [if_neg hne]
  rw [hz] at h ⊢
  rcases szI_cases (bl_range l 0).1 h with ⟨e, hm, g⟩ | ⟨e, hm, g⟩ | ⟨e, hm, g2, g⟩ | ⟨e, hm, g2, g3, g⟩
  · exact Or.inl ⟨e, by omega, g⟩
  · exact Or.inr (Or.inl ⟨e, by omega, by omega, by omega, by omega⟩)
  · exact Or.inr (Or.inr (Or.inl ⟨e, by omega, by omega, by omega, by omega⟩))
  · exact Or.inr (Or.inr (Or.inr ⟨e, by omega, by omega, by omega, by omega⟩))

theorem take_zero (c : Int) (h : scalar c) (k : Nat) (hk : k < (enc c).length) : sz1 ((enc c).take k) = 0 := by
  by_cases hz : sz1 ((enc c).take k) = 0
  · exact hz
  · exfalso
    have hn := sz1_nonneg ((enc c).take k)
    have e := sz1_enc c h []
    rw [List.append_nil] at e
    have hl := enc_length c
    have hk0 : 0 < k := by
      rcases Nat.eq_zero_or_pos k with e0 | e0
      · subst e0; simp [sz1] at hz
      · exact e0
    have hb : bl ((enc c).take k) 0 = bl (enc c) 0 := by unfold bl; rw [List.getD_eq_getElem?_getD, List.getD_eq_getElem?_getD, List.getElem?_take, if_pos hk0]
    have s1 := sz_says (l := (enc c).take k) (by omega)
    have s2 := sz_says (l := enc c) (by omega)
    rw [List.length_take] at s1
    rw [hb] at s1
    omega

theorem set_zero (c : Int) (h : scalar c) (h2 : 2 ≤ (enc c).length) : sz1 ((enc c).set ((enc c).length - 1) 120) = 0 := by
  by_cases hz : sz1 ((enc c).set ((enc c).length - 1) 120) = 0
  · exact hz
  · exfalso
    have hn := sz1_nonneg ((enc c).set ((enc c).length - 1) 120)
    have e := sz1_enc c h []
    rw [List.append_nil] at e
    have hl := enc_length c
    have hb : bl ((enc c).set ((enc c).length - 1) 120) 0 = bl (enc c) 0 := by
      unfold bl
      rw [List.getD_eq_getElem?_getD, List.getD_eq_getElem?_getD, List.getElem?_set, if_neg (by omega)]
    have hx : ∀ j, j = (enc c).length - 1 → bl ((enc c).set ((enc c).length - 1) 120) j = 120 := by
      intro j hj
      unfold bl
      rw [List.getD_eq_getElem?_getD, List.getElem?_set, if_pos hj.symm, if_pos (by omega)]
      rfl
    have s1 := sz_says (l := (enc c).set ((enc c).length - 1) 120) (by omega)
    have s2 := sz_says (l := enc c) (by omega)
    rw [hb] at s1
    have x1 := hx 1; have x2 := hx 2; have x3 := hx 3
    omega

theorem bytes_frozen (W : World) (S : ByteArray) (j : Nat) (h : j < S.size) : (Lib.bytesWorld W 5 S).frozen? ⟨W.heap.size, j, none⟩ = false := by
  have hs : S.data.size = S.size := rfl
  simp [World.frozen?, Lib.bytesWorld_at_new, Lib.bytesCells]
  omega

set_option maxHeartbeats 1000000 in
set_option maxRecDepth 100000 in
theorem cuts_ok (v cut : Int) (hv : 0 ≤ v ∧ v ≤ 4294967295) (hcut : 0 ≤ cut ∧ cut ≤ 255) (hs : v % 1113984 + 128 < 55296 ∨ 57344 ≤ v % 1113984 + 128) (S : ByteArray) (hS : Hid (S = ⟨(enc (v % 1113984 + 128)).toArray⟩)) (hz : 2 ≤ S.size ∧ S.size ≤ 4) (w : World) (tb : Nat × Nat) (hT : Tab w tb) :
    Calls Tryd.prog 7 #[.int .u32 v, .int .u8 cut] w fun e w' => e = .returned (.bool true) ∧ Below w.heap.size w w' := by
  have r0 : 0 ≤ v % 1113984 := by omega
  have HM := fun W blk => c_make W tb blk (v % 1113984 + 128) (by omega)
  have e : tor (v % 1113984 + 128) = v % 1113984 + 128 := by unfold tor; rw [if_pos (by omega)]
  rw [e, ← hS.out] at HM
  have HH : Hid (∀ W blk, W.cell? ⟨blk, 0, none⟩ = some (.int .i64 (v % 1113984 + 128)) → Tab W tb → Calls Tryd.prog 24 #[.slice (some ⟨blk, 0, none⟩) 1 1] W fun e w' => e = .returned (.string S) ∧ Below W.heap.size W w') := HM
  have hcv : ∀ W, Sem.run Tryd.prog (convert 9 39 (.string S)) W = _ := fun W => Lib.run_convert_string_bytes W 9 39 5 S Tryd.underlying9 Tryd.underlying39 Tryd.underlying5
  have hsI : (2 : Int) ≤ S.size ∧ (S.size : Int) ≤ 4 := by omega
  have hst : ∀ W, (Lib.bytesWorld W 5 S).cell? ⟨W.heap.size, S.size - 1, none⟩ = some (.int .u8 (S.data.toList.getD (S.size - 1) 0).toNat) := fun W => Lib.bytesWorld_cell W 5 S (S.size - 1) (by omega)
  have hfr : ∀ W, (Lib.bytesWorld W 5 S).frozen? ⟨W.heap.size, S.size - 1, none⟩ = false := fun W => bytes_frozen W S (S.size - 1) (by omega)
  have hm0 : 0 ≤ cut % (S.size : Int) := Int.emod_nonneg _ (by omega)
  have hm1 : cut % (S.size : Int) < S.size := Int.emod_lt_of_pos _ (by omega)
  have hsc : scalar (v % 1113984 + 128) := by unfold scalar; omega
  have hSd : S.data.toList = enc (v % 1113984 + 128) := by rw [hS.out]
  have hSz : (enc (v % 1113984 + 128)).length = S.size := by rw [← hSd]; rfl
  have HS1 : Hid (∀ (k : Nat) W, k < S.size → Tab W tb → Calls Tryd.prog 14 #[.string (S.extract 0 k), .int .i64 0] W fun e w' => e = .returned (.int .i64 0) ∧ Below W.heap.size W w') := by
    intro k W hk h
    have := size_any (S.extract 0 k) 0 W tb (by rw [ByteArray.size_extract]; unfold maxLen; omega) h
    have e : szAt (S.extract 0 k) 0 = 0 := by
      rw [show (0 : Int) = ((0 : Nat) : Int) from rfl, szAt_nat, szN_eq, List.drop_zero, extract_bytes, List.drop_zero, Nat.sub_zero, hSd]
      exact take_zero _ hsc k (by omega)
    rwa [e] at this
  have HS2 : Hid (∀ W, Tab W tb → Calls Tryd.prog 14 #[.string S, .int .i64 1] W fun e w' => e = .returned (.int .i64 0) ∧ Below W.heap.size W w') := by
    intro W h
    have := size_any S 1 W tb (by unfold maxLen; omega) h
    have e : szAt S 1 = 0 := by
      have q := enc_tail (v % 1113984 + 128) hsc [] 1 (by omega) (by omega)
      rw [List.append_nil] at q
      rw [show (1 : Int) = ((1 : Nat) : Int) from rfl, szAt_nat, szN_eq, hSd]
      exact q
    rwa [e] at this
  have HS4 : Hid (∀ W, Tab W tb → Calls Tryd.prog 14 #[.string (S ++ ⟨#[120]⟩), .int .i64 0] W fun e w' => e = .returned (.int .i64 (S.size : Nat)) ∧ Below W.heap.size W w') := by
    intro W h
    have := size_any (S ++ ⟨#[120]⟩) 0 W tb (by rw [ByteArray.size_append]; unfold maxLen; have : (⟨#[120]⟩ : ByteArray).size = 1 := rfl; omega) h
    have e : szAt (S ++ ⟨#[120]⟩) 0 = (S.size : Nat) := by
      rw [show (0 : Int) = ((0 : Nat) : Int) from rfl, szAt_nat, szN_eq, List.drop_zero, bytes_append, hSd, (sz1_enc _ hsc _).1, hSz]
    rwa [e] at this
  obtain ⟨xs, hxs⟩ : ∃ xs : List Int, xs = (S.data.toList.map fun b => (b.toNat : Int)).set (S.size - 1) 120 := ⟨_, rfl⟩
  have hxl : xs.length = S.size := by rw [hxs, List.length_set, List.length_map]; rfl
  have HXL : Hid (xs.length = S.size) := hxl
  have hxd : (strOfNums xs).data.toList = (enc (v % 1113984 + 128)).set ((enc (v % 1113984 + 128)).length - 1) 120 := by
    rw [strOfNums_data, hxs, List.map_set, hSz, ← hSd, List.map_map]
    congr 1
    conv => rhs; rw [← List.map_id S.data.toList]
    apply List.map_congr_left
    intro b _
    simp
  have HS3 : Hid (∀ W, Tab W tb → Calls Tryd.prog 14 #[.string (strOfNums xs), .int .i64 0] W fun e w' => e = .returned (.int .i64 0) ∧ Below W.heap.size W w') := by
    intro W h
    have := size_any (strOfNums xs) 0 W tb (by rw [strOfNums_size, hxl]; unfold maxLen; omega) h
    have e : szAt (strOfNums xs) 0 = 0 := by
      rw [show (0 : Int) = ((0 : Nat) : Int) from rfl, szAt_nat, szN_eq, List.drop_zero, hxd]
      exact set_zero _ hsc (by omega)
    rwa [e] at this
  have HXC : Hid (∀ W, ∀ j, j < S.size → ((Lib.bytesWorld W 5 S).setCell ⟨W.heap.size, S.size - 1, none⟩ (.int .u8 120)).cell? ⟨W.heap.size, 0 + j, none⟩ = some (.int .u8 (xs.getD j 0))) := by
    intro W j hj
    rw [Nat.zero_add, hxs]
    by_cases e : j = S.size - 1
    · subst e
      rw [World.cell?_setCell_same _ _ _ (hst W), List.getD_eq_getElem?_getD, List.getElem?_set, if_pos rfl, if_pos (by rw [List.length_map]; exact hj)]
      rfl
    · rw [World.cell?_setCell_other _ _ _ _ (by simp only [ne_eq, Addr.mk.injEq, true_and, and_true]; omega), Lib.bytesWorld_cell W 5 S j hj, List.getD_eq_getElem?_getD, List.getD_eq_getElem?_getD, List.getElem?_set, if_neg (by omega), List.getElem?_map, List.getElem?_eq_getElem (by exact hj)]
      rfl
  clear HM e hsc hSd hSz hxs hxl hxd
  rcases hs with hs | hs
  all_goals
    go_enter Tryd.func7, Tryd.ntmps7
    go_wp2_with fail
    refine (known_any _ tb hT).mono ?_
    rintro e w1 ⟨rfl, b1⟩
    have t1 := hT.later b1
    go_wp2_with fail
    have bA : Below w1.heap.size w1 (w1.alloc (Obj.cells #[.int .i64 (v % 1113984 + 128)] 3)) := (Below.refl _ _).alloc (Nat.le_refl _) _
    refine (HH.out _ w1.heap.size (by simp) (t1.later bA)).mono ?_
    rintro e w2 ⟨rfl, b2⟩
    go_wp2_with fail
    have bB : Below w2.heap.size w2 ((Lib.bytesWorld w2 5 S).setCell ⟨w2.heap.size, S.size - 1, none⟩ (.int .u8 120)) := by
      refine Below.setCell (p := ⟨w2.heap.size, S.size - 1, none⟩) ?_ (Nat.le_refl _) _
      exact ⟨rfl, rfl, rfl, by rw [Lib.bytesWorld_size]; omega, fun k hk => Lib.bytesWorld_at_old w2 5 S k hk⟩
    have HX := HXC.out w2
    have HXX : Hid (∀ j, j < S.size → ((Lib.bytesWorld w2 5 S).setCell ⟨w2.heap.size, S.size - 1, none⟩ (.int .u8 120)).cell? ⟨w2.heap.size, 0 + j, none⟩ = some (.int .u8 (xs.getD j 0))) := HX
    clear HX HXC hst hfr hcv
    have t2 := (t1.later bA).later b2
    have tB := t2.later bB
    generalize (Lib.bytesWorld w2 5 S).setCell ⟨w2.heap.size, S.size - 1, none⟩ (.int .u8 120) = w3 at *
    refine (HS1.out (cut % (S.size : Int)).toNat _ (by omega) tB).mono ?_
    rintro e w4 ⟨rfl, b4⟩
    have t4 := tB.later b4
    go_wp2_with fail
    refine (HS2.out _ t4).mono ?_
    rintro e w5 ⟨rfl, b5⟩
    have t5 := t4.later b5
    have hcb : ∀ cap, Sem.run Tryd.prog (convert 39 9 (.slice (some ⟨w2.heap.size, 0, none⟩) S.size cap)) w5 = .ok (.string (strOfNums xs)) w5 := fun cap =>
      run_convert_bytes_arg w5 39 5 Tryd.underlying39 Tryd.underlying5 w2.heap.size 0 S.size cap xs HXL.out (fun i hi => cell_later b5 (cell_later b4 (HXX.out i hi))) 9 Tryd.underlying9
    go_wp2_with fail
    refine (HS3.out _ t5).mono ?_
    rintro e w6 ⟨rfl, b6⟩
    have t6 := t5.later b6
    clear hcb
    go_wp2_with fail
    refine (HS4.out _ t6).mono ?_
    rintro e w7 ⟨rfl, b7⟩
    go_wp2
    go_ret
    have g0 := b1.trans (bA.mono b1.size)
    have g1 := g0.trans (b2.mono g0.size)
    have g2 := g1.trans (bB.mono g1.size)
    have g3 := g2.trans (b4.mono g2.size)
    have g4 := g3.trans (b5.mono g3.size)
    have g5 := g4.trans (b6.mono g4.size)
    exact ⟨rfl, g5.trans (b7.mono g5.size)⟩

theorem cuts_any (v cut : Int) (hv : 0 ≤ v ∧ v ≤ 4294967295) (hcut : 0 ≤ cut ∧ cut ≤ 255) (w : World) (tb : Nat × Nat) (hT : Tab w tb) :
    Calls Tryd.prog 7 #[.int .u32 v, .int .u8 cut] w fun e w' => e = .returned (.bool true) ∧ Below w.heap.size w w' := by
  by_cases hs : 55296 ≤ v % 1113984 + 128 ∧ v % 1113984 + 128 < 57344
  · exact cuts_sur v cut hv hs w tb hT
  · refine cuts_ok v cut hv hcut (by omega) ⟨(enc (v % 1113984 + 128)).toArray⟩ rfl ⟨?_, ?_⟩ w tb hT
    · show 2 ≤ (enc (v % 1113984 + 128)).length
      have e := sz1_enc (v % 1113984 + 128) (by unfold scalar; omega) []
      rw [List.append_nil] at e
      have hl := enc_length (v % 1113984 + 128)
      rcases sz_says (l := enc (v % 1113984 + 128)) (by omega) with ⟨e1, _, e3⟩ | h | h | h
      · exfalso
        have q : bl (enc (v % 1113984 + 128)) 0 = v % 1113984 + 128 := by
          have := e.2
          unfold dec1 at this
          rw [if_pos e1] at this
          exact this
        omega
      · omega
      · omega
      · omega
    · exact (enc_length _).2
end Go.Proofs.YtncabdbacncaaaaDoor
