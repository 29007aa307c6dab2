/- DeltaLong walked. -/
import Derived.Test.YtpfkidcaolfcoaaDoorDelKnown
namespace Go.Proofs.YtpfkidcaolfcoaaDoor
open Go.RowKit Go.Sort Go.Lib
set_option linter.unusedSimpArgs false
set_option linter.unusedVariables false

theorem Tryd.info_ch : (Tryd.prog.info? 47).map (fun i => (i.zero, i.size, i.bytes)) = some (some (.agg #[.int .i64 0, .int .i64 0, .string ⟨#[]⟩]), 3, 32) := by kernel_rfl
/-- A row of one's own, of these changes. -/
def OwnC (w : World) (B : Nat) (v : Value) (es : List El) : Prop := w.ownsRow B 47 3 v es.length (c3 es)
theorem OwnC.row {w : World} {B : Nat} {v : Value} {es : List El} (h : OwnC w B v es) : ElAt w v es := by
  rcases h.2 with ⟨h1, h2⟩ | ⟨g, cap, cur, h1, _, h3, h4, _⟩
  · obtain rfl : es = [] := List.eq_nil_of_length_eq_zero h2
    rw [h1]; exact ElAt.nil w
  · refine ⟨some ⟨g, 0, none⟩, cap, h1, h4, (fun e => by cases e), fun i r hr => ⟨g, 0, rfl, ?_⟩⟩
    have hg := World.ownsRow.cells h (g := g) (by rw [h1]; rfl)
    obtain ⟨e1, e2, e3⟩ := c3_get hr
    have f1 := hg _ _ e1
    have f2 := hg _ _ e2
    have f3 := hg _ _ e3
    rw [addr_add7] at f1 f2 f3
    rw [Nat.add_assoc, Nat.add_assoc]
    exact ⟨f1, f2, f3⟩
theorem OwnC.nil (w : World) (B : Nat) : OwnC w B (.slice none 0 0) [] := World.ownsRow_nil _ _ _ _
theorem OwnC.alloc {w : World} {B : Nat} {v : Value} {es : List El} (h : OwnC w B v es) (o : Obj) : OwnC (w.alloc o) B v es := World.ownsRow.alloc h o
theorem OwnC.lt {w : World} {B : Nat} {v : Value} {es : List El} (h : OwnC w B v es) {g : Nat} (hg : v.ownBlock = some g) : B ≤ g ∧ g < w.heap.size := World.ownsRow.lt h g hg
/-- Many changes. -/
def lng (k : Nat) : List El := (List.range k).map fun (i : Nat) => (2 * (i : Int) + 1, 2 * (i : Int) + 1, [120])
theorem lng_len (k : Nat) : (lng k).length = k := by simp [lng]
theorem lng_snoc (k : Nat) : lng (k + 1) = lng k ++ [(2 * (k : Int) + 1, 2 * (k : Int) + 1, [120])] := by simp [lng, List.range_succ]
theorem lng_in (k : Nat) : inS (lng k) = k := by
  induction k with
  | zero => rfl
  | succ k ih => rw [lng_snoc, inS_append, ih]; simp [inS]
theorem lng_sm (k : Nat) : Sm (lng k) 1 := by
  intro e he
  simp only [lng, List.mem_map] at he
  obtain ⟨i, _, rfl⟩ := he
  simp
set_option maxRecDepth 100000 in
theorem lng_all : ∀ k, k < 50 → flt 200 (lng k) = 0 ∧ (elG 200 [] 0 (lng k)).length = 2 * k + 1 := by decide +kernel
theorem made_u8 (n : Nat) : (madeCells #[.int .u8 0] n).toList = byteCells (List.replicate n 0) := by
  refine List.ext_getElem (by simp [madeCells, byteCells]) fun i h1 h2 => ?_
  simp [madeCells, byteCells, Nat.mod_one]
theorem build_mv {w : World} {v : Value} {tb : Nat × Nat} {base : Int} {l : List El} (hf : flt base l = 0) (hm : 60 < (elG base [] 0 l).length) (hsm : Sm l 100000) (hl : l.length ≤ 1000) (hin : inS l ≤ 100000) (h : ElAt w v l) (hT : Tab w tb) :
    Calls Tryd.prog 22 #[.int .i64 base, v] w fun e w' => e = .returned (.tuple #[.agg #[.int .i64 0, .slice none 0 0], .int .i64 70]) ∧ RowKit.Below w.heap.size w w' :=
  build_many base h (hsm.mono (by omega)) hl hin tb hT hf hm
theorem vld_zeros (m : Nat) : vld (List.replicate m 0) = true := by
  induction m with
  | zero => exact vld_nil
  | succ m ih => exact vld_two (a := [0]) (by decide) ih
theorem cacc_two (T : List UInt8) : cacc T ++ ⟨#[120, 120]⟩ = cacc (T ++ [120, 120]) := cacc_append T [120, 120]
section
variable {Z : List UInt8}
theorem big_flt (hv : vld Z = true) (h : Z.length ≤ 19900) : flt 100 [(5, 5, Z)] = 0 := by
  unfold flt
  have h1 : wthB 100 [(5, 5, Z)] = true := by simp [wthB, wthE]
  have h2 : vldB [(5, 5, Z)] = true := by simp only [vldB, List.all_cons, List.all_nil, Bool.and_true]; exact hv
  have h3 : sz8 100 [(5, 5, Z)] = 100 + Z.length := by simp [sz8]
  rw [h1, h2, h3]
  simp [ordB]
  omega
theorem big_long (hv : vld Z = true) (h : 19900 < Z.length) : flt 100 [(5, 5, Z)] = 13 := by
  unfold flt
  have h1 : wthB 100 [(5, 5, Z)] = true := by simp [wthB, wthE]
  have h2 : vldB [(5, 5, Z)] = true := by simp only [vldB, List.all_cons, List.all_nil, Bool.and_true]; exact hv
  have h3 : sz8 100 [(5, 5, Z)] = 100 + Z.length := by simp [sz8]
  rw [h1, h2, h3]
  simp [ordB]
  omega
theorem big_el (h : Z ≠ []) : elG 100 [] 0 [(5, 5, Z)] = [(0, 5, []), (0, 0, Z), (5, 100, [])] := by
  simp only [elG]
  rw [if_neg (fun h' => h h'.2), if_pos (by omega), if_pos (by omega)]
  simp [tx, h]
end
set_option maxHeartbeats 8000000 in
set_option maxRecDepth 100000 in
theorem long11_any (n m : Int) (hn : 0 ≤ n ∧ n ≤ 255) (hm : 0 ≤ m ∧ m ≤ 255) (w : World) (tb : Nat × Nat) (hT : Tab w tb) :
    Calls Tryd.prog 6 #[.int .u8 n, .int .u8 m] w fun e w' => e = .returned (.bool true) ∧ RowKit.Below w.heap.size w w' := by
  have HK := Hid.mk7 (known11_any w tb hT)
  have HT := Hid.mk7 hT
  obtain ⟨i0, hi, hz0, hz1, hz2⟩ := info_parts Tryd.info_ch
  obtain ⟨i1, hi1, hy0, hy1, hy2⟩ := info_parts Tryd.info_u8
  have HI := Hid.mk7 hi
  have HI1 := Hid.mk7 hi1
  obtain ⟨k, hk⟩ : ∃ k : Nat, n % 50 = (k : Int) := ⟨(n % 50).toNat, by omega⟩
  have hk1 : k < 50 := by omega
  obtain ⟨q, hq⟩ : ∃ q : Int, m % 2 = q := ⟨_, rfl⟩
  have hq1 : 0 ≤ q ∧ q ≤ 1 := by omega
  clear hT hi hi1
  go_enter Tryd.func6, Tryd.ntmps6
  go_wp2_with fail
  refine HK.out.mono ?_
  rintro e w1 ⟨rfl, b1⟩
  have TT1 := Hid.mk7 (HT.out.later b1)
  have G1 := Hid.mk7 b1
  clear HK b1
  go_wp2
  clear hk
  go_loopw [5, 7] (fun lv iv wr => ∃ j : Nat, j ≤ k ∧ iv = .int .i64 (j : Nat) ∧ Hid (OwnC wr w1.heap.size lv (lng j)) ∧ Hid (RowKit.Below w1.heap.size w1 wr)) (fun _ iv _ => k - (intOf iv).toNat)
  case atStart => exact ⟨0, Nat.zero_le _, rfl, OwnC.nil _ _, RowKit.Below.refl _ _⟩
  case round =>
    obtain ⟨j, hj, rfl, HO, HB⟩ := hrel
    by_cases hlt : j < k
    · have hlt2 : (j : Int) < (k : Int) := by omega
      have HO1 := Hid.mk7 (HO.out.alloc (.cells #[.int .i64 (2 * (j : Int) + 1), .int .i64 (2 * (j : Int) + 1), .string ⟨#[120]⟩] 47))
      have HB1 := Hid.mk7 (HB.out.alloc HB.out.size (.cells #[.int .i64 (2 * (j : Int) + 1), .int .i64 (2 * (j : Int) + 1), .string ⟨#[120]⟩] 47))
      have hll := lng_len j
      clear HO HB
      go_wp2_with (at_builtin; refine wpList_append_lies _ rfl _ _ 38 rfl w1.heap.size 47 i0 (.agg #[.int .i64 0, .int .i64 0, .string ⟨#[]⟩]) 3 32 Tryd.underlying38 HI.out hz0 hz1 hz2 rfl (by decide) _ _ _ rfl HO1.out ⟨_, 0, none⟩ 1 1 [.int .i64 (2 * (j : Int) + 1), .int .i64 (2 * (j : Int) + 1), .string ⟨#[120]⟩] rfl rfl (three_newE _ _ _ _ _) (fun u hu => by simp at hu; rcases hu with rfl | rfl | rfl <;> rfl) (by omega) (by unfold maxLen; omega) (by omega) HB1.out.size _ rfl ?_)
      intro gg cap2 w3 hown hgrow hat hlt3
      have HO3 : Hid (OwnC w3 w1.heap.size (.slice (some ⟨gg, 0, none⟩) (j + 1) cap2) (lng (j + 1))) := by
        show OwnC _ _ _ _
        unfold OwnC
        rw [lng_len, lng_snoc, c3_append, c3_one]
        exact hown
      have HB3 := Hid.mk7 (HB1.out.grown hgrow HB1.out.size (fun t ht => (HO1.out.lt ht).1))
      clear hown hgrow hat hlt3 HO1 HB1
      go_wp2
      go_roundw
      case rel => exact ⟨j + 1, by omega, by go_num, HO3, HB3⟩
      case measure => simp [intOf]; omega
    · obtain rfl : j = k := by omega
      have hall := lng_all j hk1
      obtain ⟨M, hM⟩ : ∃ M : Nat, 19900 - q = (M : Int) := ⟨(19900 - q).toNat, by omega⟩
      have GW := Hid.mk7 (G1.out.trans (HB.out.mono G1.out.size))
      have TTW := Hid.mk7 (TT1.out.later HB.out)
      have hM1 : 19899 ≤ M ∧ M ≤ 19900 := by omega
      clear G1 TT1 hlt hj
      by_cases hfit : 2 * j + 1 ≤ 60
      · have hfit2 : decide (2 * (j : Int) + 1 ≤ 60) = true := decide_eq_true (by omega)
        go_wp2_with fail
        refine (build_v (hall.1) rfl (by rw [hall.2]; omega) ((lng_sm j).mono (by omega)) (by rw [lng_len]; omega) (by rw [lng_in]; omega) HO.out.row TTW.out).mono ?_
        rintro e w4 ⟨v4, rfl, h4, b4⟩
        obtain ⟨a4, cap4, rfl, _⟩ := id h4
        rw [hall.2]
        have D4 : Hid (Rd (w4.alloc (.cells #[.int .i64 200, .slice a4 (2 * j + 1) cap4] 24)) w4.heap.size (.int .i64 200) (.slice a4 (2 * j + 1) cap4)) := Rd.new w4 _ _
        clear h4
        have G4 := Hid.mk7 (below_newE (GW.out.trans (b4.mono GW.out.size)) (.cells #[.int .i64 200, .slice a4 (2 * j + 1) cap4] 24))
        have TT4 := Hid.mk7 ((TTW.out.later b4).nu (.cells #[.int .i64 200, .slice a4 (2 * j + 1) cap4] 24))
        have HI1' := HI1.out
        clear b4 HO TTW GW HB
        go_wp2_with (at_make; refine wpList_make_full _ rfl _ _ 49 rfl w.heap.size 5 i1 (.int .u8 0) 1 Tryd.underlying49 HI1' hy0 hy1 .i64 .i64 _ _ M rfl rfl (by omega) (by omega) (by rw [hy2]; omega) (by unfold maxLen; omega) G4.out.size ?_)
        intro w5 hown hgrow
        have D5 := Hid.mk7 (D4.out.later (((RowKit.Below.refl _ _).grown hgrow (Nat.le_refl _) (fun j hj => by cases hj))))
        have b5 : RowKit.Below (w4.alloc (.cells #[.int .i64 200, .slice a4 (2 * j + 1) cap4] 24)).heap.size (w4.alloc (.cells #[.int .i64 200, .slice a4 (2 * j + 1) cap4] 24)) w5 := (RowKit.Below.refl _ _).grown hgrow (Nat.le_refl _) (fun j hj => by cases hj)
        have G5 := Hid.mk7 (G4.out.trans (b5.mono G4.out.size))
        have TT5 := Hid.mk7 (TT4.out.later b5)
        have HOB : OwnB w5 w.heap.size (.slice (some ⟨(w4.alloc (.cells #[.int .i64 200, .slice a4 (2 * j + 1) cap4] 24)).heap.size, 0, none⟩) M M) (List.replicate M 0) := by
          unfold OwnB
          rw [List.length_replicate, ← made_u8]
          simpa using hown
        have hcv := HOB.conv (fun e => by have := congrArg List.length e; simp at this; omega)
        have hcv2 : (convert 49 9 (.slice (some ⟨w4.heap.size + 1, 0, none⟩) M M)).run Tryd.prog w5 = .ok (.string (cacc (List.replicate M 0))) w5 := by simpa using hcv
        clear hown hgrow b5 HOB G4 TT4 D4 HI1'
        have hzl : (List.replicate M (0 : UInt8)).length = M := List.length_replicate
        have hzv := vld_zeros M
        obtain ⟨Z, hZ⟩ : ∃ Z, List.replicate M (0 : UInt8) = Z := ⟨_, rfl⟩
        rw [hZ] at hcv hcv2 hzl hzv
        clear hZ
        have hzne : Z ≠ [] := fun e => by rw [e] at hzl; simp at hzl; omega
        have F1 := big_flt (Z := Z) hzv (by omega)
        have E1 := big_el hzne
        have F2 := big_long (Z := Z ++ [120, 120]) (vld_two hzv (by decide)) (by rw [List.length_append, hzl]; simp; omega)
        have hzz := cacc_two Z
        have hzs : (cacc Z).size = M := by rw [cacc_size, hzl]
        have HVZ := Hid.mk7 (fun W => refvalid_any (cacc Z) W (by rw [hzs]; unfold maxLen; omega))
        rw [cacc_toList, hzv] at HVZ
        have HB5 := Hid.mk7 (fun W v (h : ElAt W v [(5, 5, Z)]) (hT : Tab W tb) => build_v (tb := tb) F1 E1 (by simp) (by intro e he; simp at he; subst he; simp only; omega) (by simp) (by simp [inS]; omega) h hT)
        have HB6 := Hid.mk7 (fun W v (h : ElAt W v [(5, 5, Z ++ [120, 120])]) (hT : Tab W tb) => build_bv (tb := tb) F2 (by omega) (by intro e he; simp at he; subst he; simp only [List.length_append]; simp; omega) (by simp) h hT)
        have HL5 := Hid.mk7 (fun W => el_lit W [(5, 5, Z)] #[.int .i64 5, .int .i64 5, .string (cacc Z)] 47 rfl 1 rfl)
        have HL6 : Hid (∀ W : World, ElAt (W.alloc (.cells #[.int .i64 5, .int .i64 5, .string (cacc Z ++ ⟨#[120, 120]⟩)] 47)) (.slice (some ⟨W.heap.size, 0, none⟩) 1 1) [(5, 5, Z ++ [120, 120])]) := fun W => by
          rw [hzz]
          exact el_lit W [(5, 5, Z ++ [120, 120])] #[.int .i64 5, .int .i64 5, .string (cacc (Z ++ [120, 120]))] 47 rfl 1 rfl
        have hzb : (cacc Z).size ≤ 19900 := by rw [hzs]; omega
        clear hcv F1 F2 E1 hzz hzs
        generalize cacc Z = z at *
        go_wp2_with fail
        refine (HB5.out _ _ (HL5.out w5) (TT5.out.nu _)).mono ?_
        rintro e w6 ⟨v6, rfl, h6, b6'⟩
        obtain ⟨a6, cap6, rfl, _⟩ := id h6
        have b6 : RowKit.Below w5.heap.size w5 (w6.alloc (.cells #[.int .i64 100, .slice a6 3 cap6] 24)) := below_newE ((below_newE (RowKit.Below.refl _ _) (.cells #[.int .i64 5, .int .i64 5, .string z] 47)).trans (b6'.mono (by simp))) _
        have D6 := Hid.mk7 (D5.out.later b6)
        have G6 := Hid.mk7 (G5.out.trans (b6.mono G5.out.size))
        have TT6 := Hid.mk7 (TT5.out.later b6)
        clear h6 b6' b6 D5 G5 TT5 HL5 HB5 hcv2
        go_wp2_with fail
        have hl6 := HL6.out (w6.alloc (.cells #[.int .i64 100, .slice a6 3 cap6] 24))
        rw [show (w6.alloc (.cells #[.int .i64 100, .slice a6 3 cap6] 24)).heap.size = w6.heap.size + 1 by simp] at hl6
        refine (HB6.out _ _ hl6 (TT6.out.nu _)).mono ?_
        rintro e w7 ⟨rfl, b7'⟩
        have b7 : RowKit.Below (w6.alloc (.cells #[.int .i64 100, .slice a6 3 cap6] 24)).heap.size (w6.alloc (.cells #[.int .i64 100, .slice a6 3 cap6] 24)) w7 := (below_newE (RowKit.Below.refl _ _) (.cells #[.int .i64 5, .int .i64 5, .string (z ++ ⟨#[120, 120]⟩)] 47)).trans (b7'.mono (by simp))
        have D7 := Hid.mk7 (D6.out.later b7)
        have G7 := Hid.mk7 (below_newE (G6.out.trans (b7.mono G6.out.size)) (.cells #[.int .i64 0, .slice none 0 0] 24))
        clear hl6 b7 b7' D6 G6 TT6 HL6 HB6
        have dl := D7.out.lt
        have d0 := D7.out.c0
        have d1 := D7.out.c1
        go_wp2_with fail
        refine (HVZ.out _).mono ?_
        rintro e w8 ⟨rfl, hw8⟩
        go_wp2
        go_ret
        exact ⟨rfl, G7.out⟩
      · have hfit2 : decide (2 * (j : Int) + 1 ≤ 60) = false := decide_eq_false (by omega)
        go_wp2_with fail
        refine (build_mv (hall.1) (by rw [hall.2]; omega) ((lng_sm j).mono (by omega)) (by rw [lng_len]; omega) (by rw [lng_in]; omega) HO.out.row TTW.out).mono ?_
        rintro e w4 ⟨rfl, b4⟩
        have D4 : Hid (Rd (w4.alloc (.cells #[.int .i64 0, .slice none 0 0] 24)) w4.heap.size (.int .i64 0) (.slice none 0 0)) := Rd.new w4 _ _
        have G4 := Hid.mk7 (below_newE (GW.out.trans (b4.mono GW.out.size)) (.cells #[.int .i64 0, .slice none 0 0] 24))
        have TT4 := Hid.mk7 ((TTW.out.later b4).nu (.cells #[.int .i64 0, .slice none 0 0] 24))
        have HI1' := HI1.out
        clear b4 HO TTW GW HB
        go_wp2_with (at_make; refine wpList_make_full _ rfl _ _ 49 rfl w.heap.size 5 i1 (.int .u8 0) 1 Tryd.underlying49 HI1' hy0 hy1 .i64 .i64 _ _ M rfl rfl (by omega) (by omega) (by rw [hy2]; omega) (by unfold maxLen; omega) G4.out.size ?_)
        intro w5 hown hgrow
        have D5 := Hid.mk7 (D4.out.later (((RowKit.Below.refl _ _).grown hgrow (Nat.le_refl _) (fun j hj => by cases hj))))
        have b5 : RowKit.Below (w4.alloc (.cells #[.int .i64 0, .slice none 0 0] 24)).heap.size (w4.alloc (.cells #[.int .i64 0, .slice none 0 0] 24)) w5 := (RowKit.Below.refl _ _).grown hgrow (Nat.le_refl _) (fun j hj => by cases hj)
        have G5 := Hid.mk7 (G4.out.trans (b5.mono G4.out.size))
        have TT5 := Hid.mk7 (TT4.out.later b5)
        have HOB : OwnB w5 w.heap.size (.slice (some ⟨(w4.alloc (.cells #[.int .i64 0, .slice none 0 0] 24)).heap.size, 0, none⟩) M M) (List.replicate M 0) := by
          unfold OwnB
          rw [List.length_replicate, ← made_u8]
          simpa using hown
        have hcv := HOB.conv (fun e => by have := congrArg List.length e; simp at this; omega)
        have hcv2 : (convert 49 9 (.slice (some ⟨w4.heap.size + 1, 0, none⟩) M M)).run Tryd.prog w5 = .ok (.string (cacc (List.replicate M 0))) w5 := by simpa using hcv
        clear hown hgrow b5 HOB G4 TT4 D4 HI1'
        have hzl : (List.replicate M (0 : UInt8)).length = M := List.length_replicate
        have hzv := vld_zeros M
        obtain ⟨Z, hZ⟩ : ∃ Z, List.replicate M (0 : UInt8) = Z := ⟨_, rfl⟩
        rw [hZ] at hcv hcv2 hzl hzv
        clear hZ
        have hzne : Z ≠ [] := fun e => by rw [e] at hzl; simp at hzl; omega
        have F1 := big_flt (Z := Z) hzv (by omega)
        have E1 := big_el hzne
        have F2 := big_long (Z := Z ++ [120, 120]) (vld_two hzv (by decide)) (by rw [List.length_append, hzl]; simp; omega)
        have hzz := cacc_two Z
        have hzs : (cacc Z).size = M := by rw [cacc_size, hzl]
        have HVZ := Hid.mk7 (fun W => refvalid_any (cacc Z) W (by rw [hzs]; unfold maxLen; omega))
        rw [cacc_toList, hzv] at HVZ
        have HB5 := Hid.mk7 (fun W v (h : ElAt W v [(5, 5, Z)]) (hT : Tab W tb) => build_v (tb := tb) F1 E1 (by simp) (by intro e he; simp at he; subst he; simp only; omega) (by simp) (by simp [inS]; omega) h hT)
        have HB6 := Hid.mk7 (fun W v (h : ElAt W v [(5, 5, Z ++ [120, 120])]) (hT : Tab W tb) => build_bv (tb := tb) F2 (by omega) (by intro e he; simp at he; subst he; simp only [List.length_append]; simp; omega) (by simp) h hT)
        have HL5 := Hid.mk7 (fun W => el_lit W [(5, 5, Z)] #[.int .i64 5, .int .i64 5, .string (cacc Z)] 47 rfl 1 rfl)
        have HL6 : Hid (∀ W : World, ElAt (W.alloc (.cells #[.int .i64 5, .int .i64 5, .string (cacc Z ++ ⟨#[120, 120]⟩)] 47)) (.slice (some ⟨W.heap.size, 0, none⟩) 1 1) [(5, 5, Z ++ [120, 120])]) := fun W => by
          rw [hzz]
          exact el_lit W [(5, 5, Z ++ [120, 120])] #[.int .i64 5, .int .i64 5, .string (cacc (Z ++ [120, 120]))] 47 rfl 1 rfl
        have hzb : (cacc Z).size ≤ 19900 := by rw [hzs]; omega
        clear hcv F1 F2 E1 hzz hzs
        generalize cacc Z = z at *
        go_wp2_with fail
        refine (HB5.out _ _ (HL5.out w5) (TT5.out.nu _)).mono ?_
        rintro e w6 ⟨v6, rfl, h6, b6'⟩
        obtain ⟨a6, cap6, rfl, _⟩ := id h6
        have b6 : RowKit.Below w5.heap.size w5 (w6.alloc (.cells #[.int .i64 100, .slice a6 3 cap6] 24)) := below_newE ((below_newE (RowKit.Below.refl _ _) (.cells #[.int .i64 5, .int .i64 5, .string z] 47)).trans (b6'.mono (by simp))) _
        have D6 := Hid.mk7 (D5.out.later b6)
        have G6 := Hid.mk7 (G5.out.trans (b6.mono G5.out.size))
        have TT6 := Hid.mk7 (TT5.out.later b6)
        clear h6 b6' b6 D5 G5 TT5 HL5 HB5 hcv2
        go_wp2_with fail
        have hl6 := HL6.out (w6.alloc (.cells #[.int .i64 100, .slice a6 3 cap6] 24))
        rw [show (w6.alloc (.cells #[.int .i64 100, .slice a6 3 cap6] 24)).heap.size = w6.heap.size + 1 by simp] at hl6
        refine (HB6.out _ _ hl6 (TT6.out.nu _)).mono ?_
        rintro e w7 ⟨rfl, b7'⟩
        have b7 : RowKit.Below (w6.alloc (.cells #[.int .i64 100, .slice a6 3 cap6] 24)).heap.size (w6.alloc (.cells #[.int .i64 100, .slice a6 3 cap6] 24)) w7 := (below_newE (RowKit.Below.refl _ _) (.cells #[.int .i64 5, .int .i64 5, .string (z ++ ⟨#[120, 120]⟩)] 47)).trans (b7'.mono (by simp))
        have D7 := Hid.mk7 (D6.out.later b7)
        have G7 := Hid.mk7 (below_newE (G6.out.trans (b7.mono G6.out.size)) (.cells #[.int .i64 0, .slice none 0 0] 24))
        clear hl6 b7 b7' D6 G6 TT6 HL6 HB6
        have dl := D7.out.lt
        have d0 := D7.out.c0
        have d1 := D7.out.c1
        go_wp2_with fail
        refine (HVZ.out _).mono ?_
        rintro e w8 ⟨rfl, hw8⟩
        go_wp2
        go_ret
        exact ⟨rfl, G7.out⟩
end Go.Proofs.YtpfkidcaolfcoaaDoor
