/- Layer 12's calls with known answers. palinodelaw12's known. -/
import Derived.Test.YtalolaajcmndeaaDoorFacJoinN
import Derived.Test.YtalolaajcmndeaaDoorDelKnown
namespace Go.Proofs.YtalolaajcmndeaaDoor
open Go.RowKit Go.Sort
set_option linter.unusedSimpArgs false
set_option linter.unusedVariables false

section
variable {w : World} {p q : Value} {L M : List Int}
theorem count_vF {z at' : Int} (hz : cnt L at' = z) (hl : L.length ≤ 20000) (ha : at' ≤ 1099511627776) (h : Sub w p L) : Calls Tryd.prog 38 #[p, .int .i64 at'] w fun e w' => e = .returned (.int .i64 z) ∧ Below w.heap.size w w' := by
  subst hz; exact count_any at' h (by omega) ha
theorem size_vF {z : Int} (hz : (szc L : Int) = z) (hl : L.length ≤ 20000) (h : Sub w p L) : Calls Tryd.prog 36 #[p] w fun e w' => e = .returned (.int .i64 z) ∧ Below w.heap.size w w' := by
  subst hz; exact size_any7 h (by omega)
theorem len_vF {z : Int} (hz : (L.length : Int) = z) (hl : L.length ≤ 20000) (h : Sub w p L) : Calls Tryd.prog 35 #[p] w fun e w' => e = .returned (.int .i64 z) ∧ Below w.heap.size w w' := by
  subst hz; exact len_any7 h (by omega)
theorem empty_vF {b : Bool} (hb : decide (szc L = 0) = b) (hl : L.length ≤ 20000) (h : Sub w p L) : Calls Tryd.prog 34 #[p] w fun e w' => e = .returned (.bool b) ∧ Below w.heap.size w w' := by
  subst hb; exact empty_any7 h (by omega)
theorem same_vF {b : Bool} (hb : decide (L = M) = b) (hl : L.length ≤ 20000) (hm : M.length ≤ 20000) (h : Sub w p L) (h2 : Sub w q M) : Calls Tryd.prog 29 #[p, q] w fun e w' => e = .returned (.bool b) ∧ Below w.heap.size w w' := by
  subst hb; exact same_any7 h h2 (by omega) (by omega)
end
section
variable {w : World} {v : Value} {es : List El} {base : Int} {tb : Nat × Nat}
theorem inserted_v {L : List Int} (hi : isB base es = true) (hL : insL es = L) (h : ElAt w v es) (hT : Tab w tb) :
    Calls Tryd.prog 11 #[.agg #[.int .i64 base, v]] w fun e w' => ∃ p, e = .returned (.tuple #[p, .int .i64 0]) ∧ Sub w' p L ∧ Below w.heap.size w w' := by
  subst hL; exact inserted_yes base tb hi h hT
theorem deleted_v {L : List Int} (hi : isB base es = true) (hL : gon base 0 es = L) (h : ElAt w v es) (hT : Tab w tb) :
    Calls Tryd.prog 12 #[.agg #[.int .i64 base, v]] w fun e w' => ∃ p, e = .returned (.tuple #[p, .int .i64 0]) ∧ Sub w' p L ∧ Below w.heap.size w w' := by
  subst hL; exact deleted_yes base tb hi h hT
theorem split_v {L : List Int} {ys : List El} (hi : isB base es = true) (hq : base + inS es ≤ 20000) (hy : insE base es = ys) (hm : ys.length ≤ 60) (hL : gon base 0 es = L) (h : ElAt w v es) (hT : Tab w tb) :
    Calls Tryd.prog 10 #[.agg #[.int .i64 base, v]] w fun e w' => ∃ v' p, e = .returned (.tuple #[.agg #[.int .i64 base, v'], p, .int .i64 0]) ∧ ElAt w' v' ys ∧ Sub w' p L ∧ Below w.heap.size w w' := by
  subst hL; exact split_ok hi hq hy hm h hT
end
end Go.Proofs.YtalolaajcmndeaaDoor
namespace Go.Proofs.YtalolaajcmndeaaDoor
open Go.RowKit Go.Sort Go.Lib
set_option linter.unusedSimpArgs false
set_option linter.unusedVariables false

theorem k_insE : insE 3 [(0, 1, []), (0, 0, [120]), (2, 3, [])] = [(0, 1, []), (0, 0, [120]), (1, 3, [])] := by decide
theorem k_gon : gon 3 0 [(0, 1, []), (0, 0, [120]), (2, 3, [])] = [0, 1, 0] := by decide
theorem k_insL : insL [(0, 1, []), (0, 0, [120]), (2, 3, [])] = [0, 1, 0] := by decide
theorem k_isI : isB 3 [(0, 1, []), (0, 0, [120]), (1, 3, [])] = true := by decide
theorem k_cpI : cpS [(0, 1, []), (0, 0, [120]), (1, 3, [])] = 3 := by decide
theorem k_ok8 : Ok8 [0, 1, 0] := ⟨by decide, by decide⟩
theorem k_join : tld (fil [0, 1, 0] (cel [(0, 1, []), (0, 0, [120]), (1, 3, [])])) = [(0, 1, []), (0, 0, [120]), (2, 3, [])] := by decide
theorem k_no : isB (-1) [] = false := by decide
set_option maxHeartbeats 4000000 in
set_option maxRecDepth 100000 in
theorem known12_any (w : World) (tb : Nat × Nat) (hT : Tab w tb) : Calls Tryd.prog 8 #[] w fun e w' => e = .returned (.bool true) ∧ RowKit.Below w.heap.size w w' := by
  have A1 := el_lit w [(1, 2, [120])] #[.int .i64 1, .int .i64 2, .string ⟨#[120]⟩] 56 rfl 1 rfl
  have B1 : RowKit.Below w.heap.size w (w.alloc (.cells #[.int .i64 1, .int .i64 2, .string ⟨#[120]⟩] 56)) := below_newE (RowKit.Below.refl _ _) _
  have HB := Hid.mk7 (build_v k_flt k_elG (by decide) (by intro e he; simp at he; subst he; simp) (by decide) (by decide) A1 (hT.later B1))
  have T0 := Hid.mk7 (hT.later B1)
  have G0 := Hid.mk7 B1
  clear A1 B1 hT
  go_enter Tryd.func8, Tryd.ntmps8
  go_wp2_with fail
  refine (HB.out).mono ?_
  rintro e w1 ⟨v1, rfl, h1, bz⟩
  obtain ⟨a1, c1, rfl, _, _, _⟩ := id h1
  clear HB
  have T2 := Hid.mk7 (T0.out.later bz)
  have G2 := Hid.mk7 (G0.out.trans (bz.mono G0.out.size))
  clear T0 G0 bz
  have E3 := Hid.mk7 (h1)
  clear h1
  simp only [List.length_cons, List.length_nil, Nat.zero_add, Nat.reduceAdd] at *
  have bz : RowKit.Below w1.heap.size w1 (w1.alloc (.cells #[.int .i64 3, .slice a1 3 c1] 24)) := below_newE (RowKit.Below.refl _ _) _
  have nw4 := Hid.mk7 (@Rd.new w1 (.int .i64 3) (.slice a1 3 c1))
  have T5 := Hid.mk7 (T2.out.later bz)
  have G5 := Hid.mk7 (G2.out.trans (bz.mono G2.out.size))
  have E5 := Hid.mk7 (E3.out.later bz)
  clear T2 G2 E3 bz
  have RDc0 := nw4.out.c0
  have RDc1 := nw4.out.c1
  go_wp2_with fail
  refine (split_v k_is (by decide) k_insE (by decide) k_gon E5.out T5.out).mono ?_
  rintro e w6 ⟨v2, p2, rfl, h2, s2, bz⟩
  clear RDc0 RDc1
  obtain ⟨a2, c2, rfl, _, _, _⟩ := id h2
  have T7 := Hid.mk7 (T5.out.later bz)
  have G7 := Hid.mk7 (G5.out.trans (bz.mono G5.out.size))
  have E7 := Hid.mk7 (E5.out.later bz)
  have RD7 := Hid.mk7 (nw4.out.later bz)
  clear T5 G5 E5 nw4 bz
  have I8 := Hid.mk7 (h2)
  have S9 := Hid.mk7 (s2)
  clear h2 s2
  simp only [List.length_cons, List.length_nil, Nat.zero_add, Nat.reduceAdd] at *
  have bz : RowKit.Below w6.heap.size w6 (w6.alloc (.cells #[.int .i64 3, .slice a2 3 c2] 24)) := below_newE (RowKit.Below.refl _ _) _
  have nw10 := Hid.mk7 (@Rd.new w6 (.int .i64 3) (.slice a2 3 c2))
  have T11 := Hid.mk7 (T7.out.later bz)
  have G11 := Hid.mk7 (G7.out.trans (bz.mono G7.out.size))
  have E11 := Hid.mk7 (E7.out.later bz)
  have RD11 := Hid.mk7 (RD7.out.later bz)
  have I11 := Hid.mk7 (I8.out.later bz)
  have S11 := Hid.mk7 (S9.out.later bz)
  clear T7 G7 E7 RD7 I8 S9 bz
  have RDc0 := RD11.out.c0
  have RDc1 := RD11.out.c1
  have RIc0 := nw10.out.c0
  have RIc1 := nw10.out.c1
  go_wp2_with fail
  refine (join_ok k_isI k_cpI S11.out k_ok8 (by decide) (by decide) k_join (by decide) I11.out T11.out).mono ?_
  rintro e w12 ⟨v3, rfl, h3, bz⟩
  clear RDc0 RDc1 RIc0 RIc1
  obtain ⟨a3, c3, rfl, _, _, _⟩ := id h3
  have T13 := Hid.mk7 (T11.out.later bz)
  have G13 := Hid.mk7 (G11.out.trans (bz.mono G11.out.size))
  have E13 := Hid.mk7 (E11.out.later bz)
  have RD13 := Hid.mk7 (RD11.out.later bz)
  have I13 := Hid.mk7 (I11.out.later bz)
  have S13 := Hid.mk7 (S11.out.later bz)
  have RI13 := Hid.mk7 (nw10.out.later bz)
  clear T11 G11 E11 RD11 I11 S11 nw10 bz
  have J14 := Hid.mk7 (h3)
  clear h3
  simp only [List.length_cons, List.length_nil, Nat.zero_add, Nat.reduceAdd] at *
  have bz : RowKit.Below w12.heap.size w12 (w12.alloc (.cells #[.int .i64 3, .slice a3 3 c3] 24)) := below_newE (RowKit.Below.refl _ _) _
  have nw15 := Hid.mk7 (@Rd.new w12 (.int .i64 3) (.slice a3 3 c3))
  have T16 := Hid.mk7 (T13.out.later bz)
  have G16 := Hid.mk7 (G13.out.trans (bz.mono G13.out.size))
  have E16 := Hid.mk7 (E13.out.later bz)
  have RD16 := Hid.mk7 (RD13.out.later bz)
  have I16 := Hid.mk7 (I13.out.later bz)
  have S16 := Hid.mk7 (S13.out.later bz)
  have RI16 := Hid.mk7 (RI13.out.later bz)
  have J16 := Hid.mk7 (J14.out.later bz)
  clear T13 G13 E13 RD13 I13 S13 RI13 J14 bz
  have RDc0 := RD16.out.c0
  have RDc1 := RD16.out.c1
  have RIc0 := RI16.out.c0
  have RIc1 := RI16.out.c1
  have RJc0 := nw15.out.c0
  have RJc1 := nw15.out.c1
  go_wp2_with fail
  refine (join_drop 3 tb k_is (by decide) E16.out T16.out).mono ?_
  rintro e w17 ⟨rfl, bz⟩
  clear RDc0 RDc1 RIc0 RIc1 RJc0 RJc1
  have T18 := Hid.mk7 (T16.out.later bz)
  have G18 := Hid.mk7 (G16.out.trans (bz.mono G16.out.size))
  have E18 := Hid.mk7 (E16.out.later bz)
  have RD18 := Hid.mk7 (RD16.out.later bz)
  have I18 := Hid.mk7 (I16.out.later bz)
  have S18 := Hid.mk7 (S16.out.later bz)
  have RI18 := Hid.mk7 (RI16.out.later bz)
  have J18 := Hid.mk7 (J16.out.later bz)
  have RJ18 := Hid.mk7 (nw15.out.later bz)
  clear T16 G16 E16 RD16 I16 S16 RI16 J16 nw15 bz
  have bz : RowKit.Below w17.heap.size w17 (w17.alloc (.cells #[.int .i64 0, .slice none 0 0] 24)) := below_newE (RowKit.Below.refl _ _) _
  have nw19 := Hid.mk7 (@Rd.new w17 (.int .i64 0) (.slice none 0 0))
  have T20 := Hid.mk7 (T18.out.later bz)
  have G20 := Hid.mk7 (G18.out.trans (bz.mono G18.out.size))
  have E20 := Hid.mk7 (E18.out.later bz)
  have RD20 := Hid.mk7 (RD18.out.later bz)
  have I20 := Hid.mk7 (I18.out.later bz)
  have S20 := Hid.mk7 (S18.out.later bz)
  have RI20 := Hid.mk7 (RI18.out.later bz)
  have J20 := Hid.mk7 (J18.out.later bz)
  have RJ20 := Hid.mk7 (RJ18.out.later bz)
  clear T18 G18 E18 RD18 I18 S18 RI18 J18 RJ18 bz
  have RDc0 := RD20.out.c0
  have RDc1 := RD20.out.c1
  have RIc0 := RI20.out.c0
  have RIc1 := RI20.out.c1
  have RJc0 := RJ20.out.c0
  have RJc1 := RJ20.out.c1
  have RHc0 := nw19.out.c0
  have RHc1 := nw19.out.c1
  go_wp2_with fail
  refine (inserted_v k_is k_insL E20.out T20.out).mono ?_
  rintro e w21 ⟨p5, rfl, s5, bz⟩
  clear RDc0 RDc1 RIc0 RIc1 RJc0 RJc1 RHc0 RHc1
  have T22 := Hid.mk7 (T20.out.later bz)
  have G22 := Hid.mk7 (G20.out.trans (bz.mono G20.out.size))
  have E22 := Hid.mk7 (E20.out.later bz)
  have RD22 := Hid.mk7 (RD20.out.later bz)
  have I22 := Hid.mk7 (I20.out.later bz)
  have S22 := Hid.mk7 (S20.out.later bz)
  have RI22 := Hid.mk7 (RI20.out.later bz)
  have J22 := Hid.mk7 (J20.out.later bz)
  have RJ22 := Hid.mk7 (RJ20.out.later bz)
  have RH22 := Hid.mk7 (nw19.out.later bz)
  clear T20 G20 E20 RD20 I20 S20 RI20 J20 RJ20 nw19 bz
  have N23 := Hid.mk7 (s5)
  clear s5
  have RDc0 := RD22.out.c0
  have RDc1 := RD22.out.c1
  have RIc0 := RI22.out.c0
  have RIc1 := RI22.out.c1
  have RJc0 := RJ22.out.c0
  have RJc1 := RJ22.out.c1
  have RHc0 := RH22.out.c0
  have RHc1 := RH22.out.c1
  go_wp2_with fail
  refine (deleted_no (-1) tb k_no (fun e he => by cases he) (ElAt.nil _) T22.out).mono ?_
  rintro e w24 ⟨rfl, bz⟩
  clear RDc0 RDc1 RIc0 RIc1 RJc0 RJc1 RHc0 RHc1
  have T25 := Hid.mk7 (T22.out.later bz)
  have G25 := Hid.mk7 (G22.out.trans (bz.mono G22.out.size))
  have E25 := Hid.mk7 (E22.out.later bz)
  have RD25 := Hid.mk7 (RD22.out.later bz)
  have I25 := Hid.mk7 (I22.out.later bz)
  have S25 := Hid.mk7 (S22.out.later bz)
  have RI25 := Hid.mk7 (RI22.out.later bz)
  have J25 := Hid.mk7 (J22.out.later bz)
  have RJ25 := Hid.mk7 (RJ22.out.later bz)
  have RH25 := Hid.mk7 (RH22.out.later bz)
  have N25 := Hid.mk7 (N23.out.later bz)
  clear T22 G22 E22 RD22 I22 S22 RI22 J22 RJ22 RH22 N23 bz
  obtain ⟨_, _, e4, _, _, hcells⟩ := id I25.out
  cases e4
  obtain ⟨g, off, rfl, _, p1, _⟩ := hcells 0 (0, 1, []) rfl
  obtain ⟨_, _, e5, p2', _, _⟩ := hcells 2 (1, 3, []) rfl
  cases e5
  simp only [Nat.zero_mul, Nat.add_zero] at p1 p2'
  clear hcells
  have RDc0 := RD25.out.c0
  have RDc1 := RD25.out.c1
  have RIc0 := RI25.out.c0
  have RIc1 := RI25.out.c1
  have RJc0 := RJ25.out.c0
  have RJc1 := RJ25.out.c1
  have RHc0 := RH25.out.c0
  have RHc1 := RH25.out.c1
  go_wp2_with fail
  refine (count_vF (z := 1) (by decide) (by decide) (by omega) S25.out).mono ?_
  rintro e w26 ⟨rfl, bz⟩
  clear RDc0 RDc1 RIc0 RIc1 RJc0 RJc1 RHc0 RHc1
  clear p1 p2'
  have T27 := Hid.mk7 (T25.out.later bz)
  have G27 := Hid.mk7 (G25.out.trans (bz.mono G25.out.size))
  have E27 := Hid.mk7 (E25.out.later bz)
  have RD27 := Hid.mk7 (RD25.out.later bz)
  have I27 := Hid.mk7 (I25.out.later bz)
  have S27 := Hid.mk7 (S25.out.later bz)
  have RI27 := Hid.mk7 (RI25.out.later bz)
  have J27 := Hid.mk7 (J25.out.later bz)
  have RJ27 := Hid.mk7 (RJ25.out.later bz)
  have RH27 := Hid.mk7 (RH25.out.later bz)
  have N27 := Hid.mk7 (N25.out.later bz)
  clear T25 G25 E25 RD25 I25 S25 RI25 J25 RJ25 RH25 N25 bz
  have RDc0 := RD27.out.c0
  have RDc1 := RD27.out.c1
  have RIc0 := RI27.out.c0
  have RIc1 := RI27.out.c1
  have RJc0 := RJ27.out.c0
  have RJc1 := RJ27.out.c1
  have RHc0 := RH27.out.c0
  have RHc1 := RH27.out.c1
  go_wp2_with fail
  refine (size_vF (z := 1) (by decide) (by decide) S27.out).mono ?_
  rintro e w28 ⟨rfl, bz⟩
  clear RDc0 RDc1 RIc0 RIc1 RJc0 RJc1 RHc0 RHc1
  have T29 := Hid.mk7 (T27.out.later bz)
  have G29 := Hid.mk7 (G27.out.trans (bz.mono G27.out.size))
  have E29 := Hid.mk7 (E27.out.later bz)
  have RD29 := Hid.mk7 (RD27.out.later bz)
  have I29 := Hid.mk7 (I27.out.later bz)
  have S29 := Hid.mk7 (S27.out.later bz)
  have RI29 := Hid.mk7 (RI27.out.later bz)
  have J29 := Hid.mk7 (J27.out.later bz)
  have RJ29 := Hid.mk7 (RJ27.out.later bz)
  have RH29 := Hid.mk7 (RH27.out.later bz)
  have N29 := Hid.mk7 (N27.out.later bz)
  clear T27 G27 E27 RD27 I27 S27 RI27 J27 RJ27 RH27 N27 bz
  have RDc0 := RD29.out.c0
  have RDc1 := RD29.out.c1
  have RIc0 := RI29.out.c0
  have RIc1 := RI29.out.c1
  have RJc0 := RJ29.out.c0
  have RJc1 := RJ29.out.c1
  have RHc0 := RH29.out.c0
  have RHc1 := RH29.out.c1
  go_wp2_with fail
  refine (same_v (t := true) (by simp) (by decide) J29.out E29.out).mono ?_
  rintro e w30 ⟨rfl, bz⟩
  clear RDc0 RDc1 RIc0 RIc1 RJc0 RJc1 RHc0 RHc1
  have T31 := Hid.mk7 (T29.out.later bz)
  have G31 := Hid.mk7 (G29.out.trans (bz.mono G29.out.size))
  have E31 := Hid.mk7 (E29.out.later bz)
  have RD31 := Hid.mk7 (RD29.out.later bz)
  have I31 := Hid.mk7 (I29.out.later bz)
  have S31 := Hid.mk7 (S29.out.later bz)
  have RI31 := Hid.mk7 (RI29.out.later bz)
  have J31 := Hid.mk7 (J29.out.later bz)
  have RJ31 := Hid.mk7 (RJ29.out.later bz)
  have RH31 := Hid.mk7 (RH29.out.later bz)
  have N31 := Hid.mk7 (N29.out.later bz)
  clear T29 G29 E29 RD29 I29 S29 RI29 J29 RJ29 RH29 N29 bz
  have RDc0 := RD31.out.c0
  have RDc1 := RD31.out.c1
  have RIc0 := RI31.out.c0
  have RIc1 := RI31.out.c1
  have RJc0 := RJ31.out.c0
  have RJc1 := RJ31.out.c1
  have RHc0 := RH31.out.c0
  have RHc1 := RH31.out.c1
  go_wp2_with fail
  refine (count_vF (z := 1) (by decide) (by decide) (by omega) N31.out).mono ?_
  rintro e w32 ⟨rfl, bz⟩
  clear RDc0 RDc1 RIc0 RIc1 RJc0 RJc1 RHc0 RHc1
  have T33 := Hid.mk7 (T31.out.later bz)
  have G33 := Hid.mk7 (G31.out.trans (bz.mono G31.out.size))
  have E33 := Hid.mk7 (E31.out.later bz)
  have RD33 := Hid.mk7 (RD31.out.later bz)
  have I33 := Hid.mk7 (I31.out.later bz)
  have S33 := Hid.mk7 (S31.out.later bz)
  have RI33 := Hid.mk7 (RI31.out.later bz)
  have J33 := Hid.mk7 (J31.out.later bz)
  have RJ33 := Hid.mk7 (RJ31.out.later bz)
  have RH33 := Hid.mk7 (RH31.out.later bz)
  have N33 := Hid.mk7 (N31.out.later bz)
  clear T31 G31 E31 RD31 I31 S31 RI31 J31 RJ31 RH31 N31 bz
  have RDc0 := RD33.out.c0
  have RDc1 := RD33.out.c1
  have RIc0 := RI33.out.c0
  have RIc1 := RI33.out.c1
  have RJc0 := RJ33.out.c0
  have RJc1 := RJ33.out.c1
  have RHc0 := RH33.out.c0
  have RHc1 := RH33.out.c1
  go_wp2_with fail
  refine (size_vF (z := 1) (by decide) (by decide) N33.out).mono ?_
  rintro e w34 ⟨rfl, bz⟩
  clear RDc0 RDc1 RIc0 RIc1 RJc0 RJc1 RHc0 RHc1
  have T35 := Hid.mk7 (T33.out.later bz)
  have G35 := Hid.mk7 (G33.out.trans (bz.mono G33.out.size))
  have E35 := Hid.mk7 (E33.out.later bz)
  have RD35 := Hid.mk7 (RD33.out.later bz)
  have I35 := Hid.mk7 (I33.out.later bz)
  have S35 := Hid.mk7 (S33.out.later bz)
  have RI35 := Hid.mk7 (RI33.out.later bz)
  have J35 := Hid.mk7 (J33.out.later bz)
  have RJ35 := Hid.mk7 (RJ33.out.later bz)
  have RH35 := Hid.mk7 (RH33.out.later bz)
  have N35 := Hid.mk7 (N33.out.later bz)
  clear T33 G33 E33 RD33 I33 S33 RI33 J33 RJ33 RH33 N33 bz
  go_wp2
  go_ret
  exact ⟨rfl, G35.out⟩
end Go.Proofs.YtalolaajcmndeaaDoor
