/- Layer 8's row. -/
import Derived.Test.YtkiiknaoljppdaaAlgRefD
namespace Go.Proofs.Ytkiiknaoljppdaa
open Go.RowKit Go.Sort
set_option linter.unusedSimpArgs false
set_option linter.unusedVariables false

def f18 (z : Int) : Int := (z % 103) * (z % 2)
def rw8 (z : Int) : Int := min 100 (f18 z)
theorem below_rd9 (w : World) (d : Nat) : Below w.heap.size w (redrawn w d) := ⟨rfl, rfl, rfl, Nat.le_refl _, fun _ _ => rfl⟩
/-- The first k held to 100. -/
def mx (P : List Int) (k : Nat) : List Int := (P.take k).map (min 100 ·) ++ P.drop k
theorem mx_len (P : List Int) (k : Nat) : (mx P k).length = P.length := by simp [mx]; omega
theorem mx_get {P : List Int} {k : Nat} {x : Int} (h : P[k]? = some x) : (mx P k)[k]? = some x := by
  have hk := (List.getElem?_eq_some_iff.1 h).1
  have hl : ((P.take k).map (min 100 ·)).length = k := by simp; omega
  unfold mx
  rw [List.getElem?_append_right (by omega), hl, Nat.sub_self, List.getElem?_drop]
  simpa using h
theorem mx_set {P : List Int} {k : Nat} {x : Int} (h : P[k]? = some x) : (mx P k).set k (min 100 x) = mx P (k + 1) := by
  have hk := (List.getElem?_eq_some_iff.1 h).1
  have hl : ((P.take k).map (min 100 ·)).length = k := by simp; omega
  have hd : P.drop k = x :: P.drop (k + 1) := by
    rw [List.drop_eq_getElem_cons hk]; congr 1; rw [List.getElem?_eq_getElem hk] at h; exact Option.some.inj h
  unfold mx
  rw [List.set_append_right _ _ (by omega), hl, Nat.sub_self, hd, take_snoc7 h, List.map_append, List.append_assoc]
  rfl
theorem ownI_shape {w : World} {B : Nat} {v : Value} {X : List Int} (h : OwnI w B v X) : ∃ a cap, v = .slice a X.length cap ∧ (X ≠ [] → ∃ g, a = some ⟨g, 0, none⟩) := by
  rcases h.2 with ⟨h1, h2⟩ | ⟨g, cap, cur, h1, _⟩
  · exact ⟨none, 0, by rw [h1, h2], fun hne => absurd (List.eq_nil_of_length_eq_zero h2) hne⟩
  · exact ⟨_, cap, h1, fun _ => ⟨g, rfl⟩⟩
set_option maxHeartbeats 4000000 in
set_option maxRecDepth 100000 in
theorem row8_any {w : World} {v : Value} {zs : List Int} (hv : NumAt .u8 w v zs) (hzs : ∀ z ∈ zs, 0 ≤ z ∧ z ≤ 255) (hl : zs.length ≤ 20000) :
    Calls Try.prog 10 #[v] w fun e w' => ∃ t, e = .returned t ∧ NumAt .i64 w' t (zs.map rw8) ∧ Below w.heap.size w w' := by
  obtain ⟨a, cap, rfl, hcap, hcells⟩ := hv
  have HC := Hid.mk7 hcells
  have HZS := Hid.mk7 hzs
  clear hcells hzs
  go_enter Try.func10, Try.ntmps10
  go_wp2
  go_loopw [3, 4] (fun ov iv wr => ∃ k : Nat, k ≤ zs.length ∧ iv = .int .i64 (k : Nat) ∧ Hid (OwnI wr w.heap.size ov ((zs.take k).map f18)) ∧ Below w.heap.size w wr) (fun _ iv _ => zs.length - (intOf iv).toNat)
  case atStart => exact ⟨0, Nat.zero_le _, rfl, OwnI.nil _ _, Below.refl _ _⟩
  case round =>
    obtain ⟨k, hk, rfl, HO, hb⟩ := hrel
    by_cases hlt : k < zs.length
    · obtain ⟨x, hx⟩ : ∃ r, zs[k]? = some r := ⟨zs[k], List.getElem?_eq_getElem hlt⟩
      obtain ⟨g, off, rfl, q0⟩ := HC.out k _ hx
      have c0 := cell_later7 hb (Nat.le_refl _) q0
      have hgw : g < w.heap.size := World.block_lt_of_cell? w ⟨g, _, none⟩ q0
      have hxb := HZS.out x (List.mem_of_getElem? hx)
      obtain ⟨A, hA, hA3⟩ : ∃ A : Nat, x % 103 = (A : Int) ∧ A < 103 := ⟨(x % 103).toNat, by omega, by omega⟩
      have HX := Hid.mk7 (take_map_succ f18 hx)
      have hsz := hb.size
      have hLN : ((zs.take k).map f18).length = k := by simp; omega
      rcases (show x % 2 = 0 ∧ f18 x = 0 ∨ x % 2 = 1 ∧ f18 x = (A : Int) from by
        unfold f18
        rcases (show x % 2 = 0 ∨ x % 2 = 1 from by omega) with h | h
        · exact Or.inl ⟨h, by rw [h]; simp⟩
        · exact Or.inr ⟨h, by rw [h, hA]; simp⟩) with ⟨hE, hf⟩ | ⟨hE, hf⟩
      · clear hx q0
        go_wp2
        refine wp_region_turns (fun w' => ∃ x0 : GW (fun W => W.cell? ⟨g, off + k, none⟩ = some (.int .u8 x)), w' = x0.w) [0, 1, 2, 3, 4, 5, 6, 7, 8, 9, 10, 11, 12, 13] 16 3 (by kernel_rfl) (by kernel_rfl) (fun d => ⟨⟨redrawn wr d, c0⟩, rfl⟩) ?_
        intro d
        have k0 : ∀ x0 : GW (fun W => W.cell? ⟨g, off + k, none⟩ = some (.int .u8 x)), x0.w.cell? ⟨g, off + k, none⟩ = some (.int .u8 x) := fun x0 => x0.h
        simp only [pickAll, pickAt, List.nil_append, List.cons_append, List.append_nil]
        have hne : Nonempty (GW (fun W => W.cell? ⟨g, off + k, none⟩ = some (.int .u8 x))) := ⟨⟨wr, c0⟩⟩
        repeat (go_big_quiet_step (fail))
        refine wpQuiet_nil ?_
        clear hne
        have bd := below_rd9 wr d
        have T0 := Hid.mk7 (HO.out.later bd)
        have g0 := hb.trans (bd.mono hb.size)
        have a0 := Hid.mk7 (cell_later7 bd (Nat.le_refl _) c0)
        have hs0 : w.heap.size ≤ (redrawn wr d).heap.size := g0.size
        clear k0 c0 bd HO
        generalize redrawn wr d = W0 at *
        refine anyC_pick1 14 (by kernel_rfl) (by kernel_rfl) ?_
        simp only [pickAll, pickAt, List.nil_append, List.cons_append, List.append_nil]
        go_wp2
        have bl : Below W0.heap.size W0 (W0.alloc (.cells #[.int .i64 0] 3)) := (Below.refl _ _).alloc (Nat.le_refl _) _
        have a1 := Hid.mk7 (cell_later7 bl (Nat.le_refl _) a0.out)
        refine anyNext_mk ⟨⟨_, a1.out⟩, rfl⟩ ?_
        refine anyC_pick1 15 (by kernel_rfl) (by kernel_rfl) ?_
        simp only [pickAll, pickAt, List.nil_append, List.cons_append, List.append_nil]
        go_wp2_with (at_builtin; refine wpList_append_int rfl _ _ rfl w.heap.size _ ((zs.take k).map f18) rfl (T0.out.later bl) ⟨_, 0, none⟩ 0 rfl (cell_one8 _ _ _ 0 _ rfl) rfl (by omega) (by have := bl.size; omega) ?_)
        intro v' w3 hown' hgrow _
        have hb3 : Below w.heap.size w w3 := (g0.trans (bl.mono g0.size)).grown hgrow (by have := bl.size; omega) (fun t ht => (ownI_lt T0.out ht).1)
        have a3 := Hid.mk7 (hgrow.cell a1.out (fun e => by have := (ownI_lt T0.out e.symm).1; simp only at this; omega))
        have HO3 : Hid (OwnI w3 w.heap.size v' ((zs.take (k + 1)).map f18)) := by rw [HX.out, hf, List.map_take]; exact hown'
        clear hown' hgrow T0 HX a0 a1 bl g0
        go_wp2
        refine anyNext_mk ⟨⟨_, a3.out⟩, rfl⟩ ?_
        refine anyC_pick1 16 (by kernel_rfl) (by kernel_rfl) ?_
        simp only [pickAll, pickAt, List.nil_append, List.cons_append, List.append_nil]
        go_wp2
        refine anyNext_last (anyC_done (by kernel_rfl) ?_)
        clear a3 hA hE hf
        go_wp2
        go_roundw
        case rel => exact ⟨k + 1, by omega, by go_num, HO3, hb3⟩
        case measure => simp [intOf]; omega
      · clear hx q0
        go_wp2
        refine wp_region_turns (fun w' => ∃ x0 : GW (fun W => W.cell? ⟨g, off + k, none⟩ = some (.int .u8 x)), w' = x0.w) [0, 1, 2, 3, 4, 5, 6, 7, 8, 9, 10, 11, 12, 13] 16 3 (by kernel_rfl) (by kernel_rfl) (fun d => ⟨⟨redrawn wr d, c0⟩, rfl⟩) ?_
        intro d
        have k0 : ∀ x0 : GW (fun W => W.cell? ⟨g, off + k, none⟩ = some (.int .u8 x)), x0.w.cell? ⟨g, off + k, none⟩ = some (.int .u8 x) := fun x0 => x0.h
        simp only [pickAll, pickAt, List.nil_append, List.cons_append, List.append_nil]
        have hne : Nonempty (GW (fun W => W.cell? ⟨g, off + k, none⟩ = some (.int .u8 x))) := ⟨⟨wr, c0⟩⟩
        repeat (go_big_quiet_step (fail))
        refine wpQuiet_nil ?_
        clear hne
        have bd := below_rd9 wr d
        have T0 := Hid.mk7 (HO.out.later bd)
        have g0 := hb.trans (bd.mono hb.size)
        have a0 := Hid.mk7 (cell_later7 bd (Nat.le_refl _) c0)
        have hs0 : w.heap.size ≤ (redrawn wr d).heap.size := g0.size
        clear k0 c0 bd HO
        generalize redrawn wr d = W0 at *
        refine anyC_pick1 14 (by kernel_rfl) (by kernel_rfl) ?_
        simp only [pickAll, pickAt, List.nil_append, List.cons_append, List.append_nil]
        go_wp2
        have bl : Below W0.heap.size W0 (W0.alloc (.cells #[.int .i64 (A : Nat)] 3)) := (Below.refl _ _).alloc (Nat.le_refl _) _
        have a1 := Hid.mk7 (cell_later7 bl (Nat.le_refl _) a0.out)
        refine anyNext_mk ⟨⟨_, a1.out⟩, rfl⟩ ?_
        refine anyC_pick1 15 (by kernel_rfl) (by kernel_rfl) ?_
        simp only [pickAll, pickAt, List.nil_append, List.cons_append, List.append_nil]
        go_wp2_with (at_builtin; refine wpList_append_int rfl _ _ rfl w.heap.size _ ((zs.take k).map f18) rfl (T0.out.later bl) ⟨_, 0, none⟩ (A : Int) rfl (cell_one8 _ _ _ 0 _ rfl) rfl (by omega) (by have := bl.size; omega) ?_)
        intro v' w3 hown' hgrow _
        have hb3 : Below w.heap.size w w3 := (g0.trans (bl.mono g0.size)).grown hgrow (by have := bl.size; omega) (fun t ht => (ownI_lt T0.out ht).1)
        have a3 := Hid.mk7 (hgrow.cell a1.out (fun e => by have := (ownI_lt T0.out e.symm).1; simp only at this; omega))
        have HO3 : Hid (OwnI w3 w.heap.size v' ((zs.take (k + 1)).map f18)) := by rw [HX.out, hf, List.map_take]; exact hown'
        clear hown' hgrow T0 HX a0 a1 bl g0
        go_wp2
        refine anyNext_mk ⟨⟨_, a3.out⟩, rfl⟩ ?_
        refine anyC_pick1 16 (by kernel_rfl) (by kernel_rfl) ?_
        simp only [pickAll, pickAt, List.nil_append, List.cons_append, List.append_nil]
        go_wp2
        refine anyNext_last (anyC_done (by kernel_rfl) ?_)
        clear a3 hA hE hf
        go_wp2
        go_roundw
        case rel => exact ⟨k + 1, by omega, by go_num, HO3, hb3⟩
        case measure => simp [intOf]; omega
    · obtain rfl : k = zs.length := by omega
      obtain ⟨P, hP⟩ : ∃ P, zs.map f18 = P := ⟨_, rfl⟩
      have HP := Hid.mk7 hP
      have hPl : P.length = zs.length := by rw [← hP]; simp
      have HO1 : Hid (OwnI wr w.heap.size u3 (mx P 0)) := by
        have h1 := HO.out
        rw [List.take_length, hP] at h1
        exact h1
      obtain ⟨a3, cap3, hv3, hsh⟩ := ownI_shape HO1.out
      rw [mx_len, hPl] at hv3
      subst hv3
      have HSH : Hid (P ≠ [] → ∃ g, a3 = some ⟨g, 0, none⟩) := fun h => hsh (by simpa [mx] using h)
      clear HO hP hsh
      rename World => w2
      go_wp2
      go_loopw [5] (fun iv wr => ∃ k : Nat, k ≤ zs.length ∧ iv = .int .i64 (k : Nat) ∧ Hid (OwnI wr w.heap.size (.slice a3 zs.length cap3) (mx P k)) ∧ Below w.heap.size w wr) (fun iv _ => zs.length - (intOf iv).toNat)
      case atStart => exact ⟨0, Nat.zero_le _, rfl, HO1, hb⟩
      case round =>
        clear HO1 hb
        obtain ⟨k, hk, rfl, HO, hb⟩ := hrel
        by_cases hlt : k < zs.length
        · obtain ⟨x, hx⟩ : ∃ r, P[k]? = some r := ⟨P[k]'(by omega), List.getElem?_eq_getElem _⟩
          obtain ⟨g, rfl⟩ := HSH.out (fun e => by rw [e] at hx; simp at hx)
          have hml : (mx P k).length = zs.length := by rw [mx_len]; exact hPl
          obtain ⟨d0, d1⟩ := ownI_at HO.out hml (mx_get hx)
          obtain ⟨s1, s2⟩ := ownI_stored HO.out hml k (min 100 x)
          rw [mx_set hx] at s1
          have hgB := (ownI_lt HO.out (g := g) rfl).1
          have hb3 := hb.grown s2 hb.size (fun j hj => by cases hj; exact hgB)
          have HO3 := Hid.mk7 s1
          clear HO s1 s2 hx
          rcases (show 100 ≤ x ∧ min 100 x = 100 ∨ x < 100 ∧ min 100 x = x from by omega) with ⟨hc, hm⟩ | ⟨hc, hm⟩
          all_goals
            rw [hm] at HO3 hb3
            clear hm
            go_wp2
            go_roundw
            case rel => exact ⟨k + 1, by omega, by go_num, HO3, hb3⟩
            case measure => simp [intOf]; omega
        · obtain rfl : k = zs.length := by omega
          have HNM : Hid (NumAt .i64 wr (.slice a3 zs.length cap3) (zs.map rw8)) := by
            have h1 := HO.out.num
            rw [show mx P zs.length = zs.map rw8 from by
              rw [← hPl]
              unfold mx
              rw [List.take_length, List.drop_length, List.append_nil, ← HP.out, List.map_map]
              rfl] at h1
            exact h1
          clear HO
          go_wp2
          go_ret
          exact ⟨_, rfl, HNM.out, hb⟩
end Go.Proofs.Ytkiiknaoljppdaa
