/- ComposeInverts walked. -/
import Derived.Test.YtiienebioebjpaaDoorComLaw
namespace Go.Proofs.YtiienebioebjpaaDoor
open Go.RowKit Go.Sort Go.Lib
set_option linter.unusedSimpArgs false
set_option linter.unusedVariables false

set_option maxHeartbeats 8000000 in
set_option maxRecDepth 100000 in
theorem inverts13_any (n : Int) (s : ByteArray) {v : Value} {es : List El} (hs : s.size ≤ maxLen) (hl : es.length ≤ maxLen) (hsm : Sm es maxLen) (w : World) (tb : Nat × Nat) (hT : Tab w tb) (h : ElAt w v es) :
    Calls Tryd.prog 4 #[.agg #[.int .i64 n, v], .string s] w fun e w' => e = .returned (.bool true) ∧ RowKit.Below w.heap.size w w' := by
  obtain ⟨va, vcap, rfl, _, _, _⟩ := id h
  have B0 := below_newE (RowKit.Below.refl w.heap.size w) (.cells #[.int .i64 n, .slice va es.length vcap] 24)
  have E0 := Hid.mk7 (h.later B0)
  have RD0 := Hid.mk7 (Rd.new w (.int .i64 n) (.slice va es.length vcap))
  have T0 := Hid.mk7 (hT.later B0)
  have G0 := Hid.mk7 B0
  clear B0 hT h
  by_cases fa : fewD n es = true
  case neg =>
    have fa' : fewD n es = false := by simpa using fa
    clear fa
    go_enter Tryd.func4, Tryd.ntmps4
    have RDc0 := RD0.out.c0
    have RDc1 := RD0.out.c1
    go_wp2_with fail
    refine (known13_any _ tb T0.out).mono ?_
    rintro e w11 ⟨rfl, bz⟩
    clear RDc0 RDc1
    have E12 := Hid.mk7 (E0.out.later bz)
    have RD12 := Hid.mk7 (RD0.out.later bz)
    have T12 := Hid.mk7 (T0.out.later bz)
    have G12 := Hid.mk7 (G0.out.trans (bz.mono G0.out.size))
    clear E0 RD0 T0 G0 bz
    have RDc0 := RD12.out.c0
    have RDc1 := RD12.out.c1
    go_wp2_with fail
    refine (few_v fa' E12.out hl).mono ?_
    rintro e w13 ⟨rfl, bz⟩
    clear RDc0 RDc1
    have E14 := Hid.mk7 (E12.out.later bz)
    have RD14 := Hid.mk7 (RD12.out.later bz)
    have T14 := Hid.mk7 (T12.out.later bz)
    have G14 := Hid.mk7 (G12.out.trans (bz.mono G12.out.size))
    clear E12 RD12 T12 G12 bz
    go_wp2
    go_ret
    exact ⟨rfl, G14.out⟩
  obtain ⟨hs2, hn4, hl7⟩ := fewD13_of fa
  by_cases hlong : 400 < s.size
  · have t1 : decide ((400 : Int) < (s.size : Int)) = true := decide_eq_true (by omega)
    go_enter Tryd.func4, Tryd.ntmps4
    have RDc0 := RD0.out.c0
    have RDc1 := RD0.out.c1
    go_wp2_with fail
    refine (known13_any _ tb T0.out).mono ?_
    rintro e w11 ⟨rfl, bz⟩
    clear RDc0 RDc1
    have E12 := Hid.mk7 (E0.out.later bz)
    have RD12 := Hid.mk7 (RD0.out.later bz)
    have T12 := Hid.mk7 (T0.out.later bz)
    have G12 := Hid.mk7 (G0.out.trans (bz.mono G0.out.size))
    clear E0 RD0 T0 G0 bz
    have RDc0 := RD12.out.c0
    have RDc1 := RD12.out.c1
    go_wp2_with fail
    refine (few_v fa E12.out hl).mono ?_
    rintro e w13 ⟨rfl, bz⟩
    clear RDc0 RDc1
    have E14 := Hid.mk7 (E12.out.later bz)
    have RD14 := Hid.mk7 (RD12.out.later bz)
    have T14 := Hid.mk7 (T12.out.later bz)
    have G14 := Hid.mk7 (G12.out.trans (bz.mono G12.out.size))
    clear E12 RD12 T12 G12 bz
    go_wp2
    go_ret
    exact ⟨rfl, G14.out⟩
  have t1 : decide ((400 : Int) < (s.size : Int)) = false := decide_eq_false (by omega)
  have hs4 : s.size ≤ 400 := by omega
  clear hlong
  by_cases ia : isB n es = true
  case neg =>
    have ia' : isB n es = false := by simpa using ia
    clear ia
    go_enter Tryd.func4, Tryd.ntmps4
    have RDc0 := RD0.out.c0
    have RDc1 := RD0.out.c1
    go_wp2_with fail
    refine (known13_any _ tb T0.out).mono ?_
    rintro e w11 ⟨rfl, bz⟩
    clear RDc0 RDc1
    have E12 := Hid.mk7 (E0.out.later bz)
    have RD12 := Hid.mk7 (RD0.out.later bz)
    have T12 := Hid.mk7 (T0.out.later bz)
    have G12 := Hid.mk7 (G0.out.trans (bz.mono G0.out.size))
    clear E0 RD0 T0 G0 bz
    have RDc0 := RD12.out.c0
    have RDc1 := RD12.out.c1
    go_wp2_with fail
    refine (few_v fa E12.out hl).mono ?_
    rintro e w13 ⟨rfl, bz⟩
    clear RDc0 RDc1
    have E14 := Hid.mk7 (E12.out.later bz)
    have RD14 := Hid.mk7 (RD12.out.later bz)
    have T14 := Hid.mk7 (T12.out.later bz)
    have G14 := Hid.mk7 (G12.out.trans (bz.mono G12.out.size))
    clear E12 RD12 T12 G12 bz
    have RDc0 := RD14.out.c0
    have RDc1 := RD14.out.c1
    go_wp2_with fail
    refine (inv_formA ia' (hs2.mono (by omega)) E14.out T14.out).mono ?_
    rintro e w15 ⟨rfl, bz⟩
    clear RDc0 RDc1
    have E16 := Hid.mk7 (E14.out.later bz)
    have RD16 := Hid.mk7 (RD14.out.later bz)
    have T16 := Hid.mk7 (T14.out.later bz)
    have G16 := Hid.mk7 (G14.out.trans (bz.mono G14.out.size))
    clear E14 RD14 T14 G14 bz
    have bz : RowKit.Below w15.heap.size w15 (w15.alloc (.cells #[.int .i64 0, .slice none 0 0] 24)) := below_newE (RowKit.Below.refl _ _) _
    have nw17 := Hid.mk7 (@Rd.new w15 (.int .i64 0) (.slice none 0 0))
    have E18 := Hid.mk7 (E16.out.later bz)
    have RD18 := Hid.mk7 (RD16.out.later bz)
    have T18 := Hid.mk7 (T16.out.later bz)
    have G18 := Hid.mk7 (G16.out.trans (bz.mono G16.out.size))
    clear E16 RD16 T16 G16 bz
    have RDc0 := RD18.out.c0
    have RDc1 := RD18.out.c1
    have RJc0 := nw17.out.c0
    have RJc1 := nw17.out.c1
    go_wp2_with fail
    refine (ris_no13 ia' hsm E18.out).mono ?_
    rintro e w19 ⟨rfl, bz⟩
    clear RDc0 RDc1 RJc0 RJc1
    have E20 := Hid.mk7 (E18.out.later bz)
    have RD20 := Hid.mk7 (RD18.out.later bz)
    have T20 := Hid.mk7 (T18.out.later bz)
    have G20 := Hid.mk7 (G18.out.trans (bz.mono G18.out.size))
    have RJ20 := Hid.mk7 (nw17.out.later bz)
    clear E18 RD18 T18 G18 nw17 bz
    have RDc0 := RD20.out.c0
    have RDc1 := RD20.out.c1
    have RJc0 := RJ20.out.c0
    have RJc1 := RJ20.out.c1
    go_wp2
    go_ret
    exact ⟨rfl, G20.out⟩
  by_cases hv : vld s.data.toList = true
  case neg =>
    have hv' : vld s.data.toList = false := by simpa using hv
    clear hv
    go_enter Tryd.func4, Tryd.ntmps4
    have RDc0 := RD0.out.c0
    have RDc1 := RD0.out.c1
    go_wp2_with fail
    refine (known13_any _ tb T0.out).mono ?_
    rintro e w11 ⟨rfl, bz⟩
    clear RDc0 RDc1
    have E12 := Hid.mk7 (E0.out.later bz)
    have RD12 := Hid.mk7 (RD0.out.later bz)
    have T12 := Hid.mk7 (T0.out.later bz)
    have G12 := Hid.mk7 (G0.out.trans (bz.mono G0.out.size))
    clear E0 RD0 T0 G0 bz
    have RDc0 := RD12.out.c0
    have RDc1 := RD12.out.c1
    go_wp2_with fail
    refine (few_v fa E12.out hl).mono ?_
    rintro e w13 ⟨rfl, bz⟩
    clear RDc0 RDc1
    have E14 := Hid.mk7 (E12.out.later bz)
    have RD14 := Hid.mk7 (RD12.out.later bz)
    have T14 := Hid.mk7 (T12.out.later bz)
    have G14 := Hid.mk7 (G12.out.trans (bz.mono G12.out.size))
    clear E12 RD12 T12 G12 bz
    have RDc0 := RD14.out.c0
    have RDc1 := RD14.out.c1
    go_wp2_with fail
    refine (inv_formB ia (by omega) hv' E14.out T14.out).mono ?_
    rintro e w15 ⟨rfl, bz⟩
    clear RDc0 RDc1
    have E16 := Hid.mk7 (E14.out.later bz)
    have RD16 := Hid.mk7 (RD14.out.later bz)
    have T16 := Hid.mk7 (T14.out.later bz)
    have G16 := Hid.mk7 (G14.out.trans (bz.mono G14.out.size))
    clear E14 RD14 T14 G14 bz
    have bz : RowKit.Below w15.heap.size w15 (w15.alloc (.cells #[.int .i64 0, .slice none 0 0] 24)) := below_newE (RowKit.Below.refl _ _) _
    have nw17 := Hid.mk7 (@Rd.new w15 (.int .i64 0) (.slice none 0 0))
    have E18 := Hid.mk7 (E16.out.later bz)
    have RD18 := Hid.mk7 (RD16.out.later bz)
    have T18 := Hid.mk7 (T16.out.later bz)
    have G18 := Hid.mk7 (G16.out.trans (bz.mono G16.out.size))
    clear E16 RD16 T16 G16 bz
    have RDc0 := RD18.out.c0
    have RDc1 := RD18.out.c1
    have RJc0 := nw17.out.c0
    have RJc1 := nw17.out.c1
    go_wp2_with fail
    refine (ris_yes13 ia E18.out).mono ?_
    rintro e w19 ⟨rfl, bz⟩
    clear RDc0 RDc1 RJc0 RJc1
    have E20 := Hid.mk7 (E18.out.later bz)
    have RD20 := Hid.mk7 (RD18.out.later bz)
    have T20 := Hid.mk7 (T18.out.later bz)
    have G20 := Hid.mk7 (G18.out.trans (bz.mono G18.out.size))
    have RJ20 := Hid.mk7 (nw17.out.later bz)
    clear E18 RD18 T18 G18 nw17 bz
    have RDc0 := RD20.out.c0
    have RDc1 := RD20.out.c1
    have RJc0 := RJ20.out.c0
    have RJc1 := RJ20.out.c1
    go_wp2_with fail
    refine (refvalid13 hs hv' _).mono ?_
    rintro e wv ⟨rfl, hw⟩
    obtain rfl : w19 = wv := hw.symm
    go_wp2
    go_ret
    exact ⟨rfl, G20.out⟩
  obtain ⟨hze, hce⟩ := cel_len13 ia
  have HDA := Hid.mk7 (dl_of ia)
  have HIA := Hid.mk7 ia
  have HFA := Hid.mk7 fa
  have HVL := Hid.mk7 hv
  have hnn := (dl_of ia).b0
  clear fa hze
  by_cases hlen : (s.size : Int) = n
  case neg =>
    have l1 : ((s.size : Int) != n) = true := by simpa using hlen
    have l2 : decide ((s.size : Int) = n) = false := decide_eq_false hlen
    clear ia hv
    go_enter Tryd.func4, Tryd.ntmps4
    have RDc0 := RD0.out.c0
    have RDc1 := RD0.out.c1
    go_wp2_with fail
    refine (known13_any _ tb T0.out).mono ?_
    rintro e w11 ⟨rfl, bz⟩
    clear RDc0 RDc1
    have E12 := Hid.mk7 (E0.out.later bz)
    have RD12 := Hid.mk7 (RD0.out.later bz)
    have T12 := Hid.mk7 (T0.out.later bz)
    have G12 := Hid.mk7 (G0.out.trans (bz.mono G0.out.size))
    clear E0 RD0 T0 G0 bz
    have RDc0 := RD12.out.c0
    have RDc1 := RD12.out.c1
    go_wp2_with fail
    refine (few_v HFA.out E12.out hl).mono ?_
    rintro e w13 ⟨rfl, bz⟩
    clear RDc0 RDc1
    have E14 := Hid.mk7 (E12.out.later bz)
    have RD14 := Hid.mk7 (RD12.out.later bz)
    have T14 := Hid.mk7 (T12.out.later bz)
    have G14 := Hid.mk7 (G12.out.trans (bz.mono G12.out.size))
    clear E12 RD12 T12 G12 bz
    have RDc0 := RD14.out.c0
    have RDc1 := RD14.out.c1
    go_wp2_with fail
    refine (inv_len HIA.out (by omega) HVL.out hlen E14.out T14.out).mono ?_
    rintro e w15 ⟨rfl, bz⟩
    clear RDc0 RDc1
    have E16 := Hid.mk7 (E14.out.later bz)
    have RD16 := Hid.mk7 (RD14.out.later bz)
    have T16 := Hid.mk7 (T14.out.later bz)
    have G16 := Hid.mk7 (G14.out.trans (bz.mono G14.out.size))
    clear E14 RD14 T14 G14 bz
    have bz : RowKit.Below w15.heap.size w15 (w15.alloc (.cells #[.int .i64 0, .slice none 0 0] 24)) := below_newE (RowKit.Below.refl _ _) _
    have nw17 := Hid.mk7 (@Rd.new w15 (.int .i64 0) (.slice none 0 0))
    have E18 := Hid.mk7 (E16.out.later bz)
    have RD18 := Hid.mk7 (RD16.out.later bz)
    have T18 := Hid.mk7 (T16.out.later bz)
    have G18 := Hid.mk7 (G16.out.trans (bz.mono G16.out.size))
    clear E16 RD16 T16 G16 bz
    have RDc0 := RD18.out.c0
    have RDc1 := RD18.out.c1
    have RJc0 := nw17.out.c0
    have RJc1 := nw17.out.c1
    go_wp2_with fail
    refine (ris_yes13 HIA.out E18.out).mono ?_
    rintro e w19 ⟨rfl, bz⟩
    clear RDc0 RDc1 RJc0 RJc1
    have E20 := Hid.mk7 (E18.out.later bz)
    have RD20 := Hid.mk7 (RD18.out.later bz)
    have T20 := Hid.mk7 (T18.out.later bz)
    have G20 := Hid.mk7 (G18.out.trans (bz.mono G18.out.size))
    have RJ20 := Hid.mk7 (nw17.out.later bz)
    clear E18 RD18 T18 G18 nw17 bz
    have RDc0 := RD20.out.c0
    have RDc1 := RD20.out.c1
    have RJc0 := RJ20.out.c0
    have RJc1 := RJ20.out.c1
    go_wp2_with fail
    refine (refvalid13 hs HVL.out _).mono ?_
    rintro e wv ⟨rfl, hw⟩
    obtain rfl : w19 = wv := hw.symm
    go_wp2
    go_ret
    exact ⟨rfl, G20.out⟩
  subst hlen
  have l1 : ((s.size : Int) != (s.size : Int)) = false := by simp
  have l2 : decide ((s.size : Int) = (s.size : Int)) = true := decide_eq_true rfl
  obtain ⟨E2, hE2⟩ : ∃ E2, tld (invC s.data.toList 0 0 (cel es)) = E2 := ⟨_, rfl⟩
  obtain ⟨z, hz⟩ : ∃ z : Int, ((cel es).length : Nat) = z := ⟨_, rfl⟩
  obtain ⟨b1, zs, er, hrs⟩ := rs_ex z E2
  have HRS := Hid.mk7 hrs
  have hup0 := up_cel es 0 0 (Int.le_refl _) HDA.out.nm
  have hup1 := inv_up (s := s.data.toList) (cel es) 0 0 0 hup0 (Int.le_refl _)
  have hil := (inv_own (s := s.data.toList) (cel es) 0 0 hup0 (Nat.zero_le _)).2
  have hupz : Up z 0 (invC s.data.toList 0 0 (cel es)) := by
    have e : ((0 : Nat) : Int) + ((cel es).length : Nat) = z := by omega
    rw [e] at hup1
    exact hup1
  have hilz : (invC s.data.toList 0 0 (cel es)).length ≤ 20000 := by rw [hil]; show s.size - 0 ≤ 20000; omega
  have HTO := Hid.mk7 (fun (W : World) (v : Value) (hx : KAt W v (invC s.data.toList 0 0 (cel es))) => told_rs (base := z) (by omega) hx hupz hilz hE2 hrs)
  have HIN := Hid.mk7 (fun (W : World) (u : Value) (hx : ElAt W u es) (t : Tab W tb) => inv_v (s := s) rfl ia hv hz hE2 hrs hx t)
  have HLI := Hid.mk7 (fun (W : World) (u : Value) (hx : ElAt W u es) => linv_any ia hx)
  have HCE := Hid.mk7 (fun (W : World) (u : Value) (hx : ElAt W u es) => cells_row13 hx HDA.out)
  have HZC := Hid.mk7 hz
  have hzn : (cel es).length = z.toNat := by omega
  obtain ⟨N, hN⟩ : ∃ N : Nat, (cel es).length = N := ⟨_, rfl⟩
  have hzN : z = (N : Int) := by omega
  subst hzN
  have HCN := Hid.mk7 hN
  clear hE2 hrs hup0 hup1 hil hupz hilz hz hzn ia hv hN
  go_enter Tryd.func4, Tryd.ntmps4
  have RDc0 := RD0.out.c0
  have RDc1 := RD0.out.c1
  go_wp2_with fail
  refine (known13_any _ tb T0.out).mono ?_
  rintro e w11 ⟨rfl, bz⟩
  clear RDc0 RDc1
  have E12 := Hid.mk7 (E0.out.later bz)
  have RD12 := Hid.mk7 (RD0.out.later bz)
  have T12 := Hid.mk7 (T0.out.later bz)
  have G12 := Hid.mk7 (G0.out.trans (bz.mono G0.out.size))
  clear E0 RD0 T0 G0 bz
  have RDc0 := RD12.out.c0
  have RDc1 := RD12.out.c1
  go_wp2_with fail
  refine (few_v HFA.out E12.out hl).mono ?_
  rintro e w13 ⟨rfl, bz⟩
  clear RDc0 RDc1
  have E14 := Hid.mk7 (E12.out.later bz)
  have RD14 := Hid.mk7 (RD12.out.later bz)
  have T14 := Hid.mk7 (T12.out.later bz)
  have G14 := Hid.mk7 (G12.out.trans (bz.mono G12.out.size))
  clear E12 RD12 T12 G12 bz
  have RDc0 := RD14.out.c0
  have RDc1 := RD14.out.c1
  go_wp2_with fail
  refine (HIN.out _ _ E14.out T14.out).mono ?_
  rintro e w15 ⟨jv, rfl, hj, bz⟩
  clear RDc0 RDc1
  obtain ⟨ja, jc, rfl, _, _, _⟩ := id hj
  have E16 := Hid.mk7 (E14.out.later bz)
  have RD16 := Hid.mk7 (RD14.out.later bz)
  have T16 := Hid.mk7 (T14.out.later bz)
  have G16 := Hid.mk7 (G14.out.trans (bz.mono G14.out.size))
  clear E14 RD14 T14 G14 bz
  have J17 := Hid.mk7 (hj)
  clear hj
  clear HIN
  have bz : RowKit.Below w15.heap.size w15 (w15.alloc (.cells #[.int .i64 b1, .slice ja zs.length jc] 24)) := below_newE (RowKit.Below.refl _ _) _
  have nw18 := Hid.mk7 (@Rd.new w15 (.int .i64 b1) (.slice ja zs.length jc))
  have E19 := Hid.mk7 (E16.out.later bz)
  have RD19 := Hid.mk7 (RD16.out.later bz)
  have T19 := Hid.mk7 (T16.out.later bz)
  have G19 := Hid.mk7 (G16.out.trans (bz.mono G16.out.size))
  have J19 := Hid.mk7 (J17.out.later bz)
  clear E16 RD16 T16 G16 J17 bz
  have RDc0 := RD19.out.c0
  have RDc1 := RD19.out.c1
  have RJc0 := nw18.out.c0
  have RJc1 := nw18.out.c1
  go_wp2_with fail
  refine (ris_yes13 HIA.out E19.out).mono ?_
  rintro e w20 ⟨rfl, bz⟩
  clear RDc0 RDc1 RJc0 RJc1
  have E21 := Hid.mk7 (E19.out.later bz)
  have RD21 := Hid.mk7 (RD19.out.later bz)
  have T21 := Hid.mk7 (T19.out.later bz)
  have G21 := Hid.mk7 (G19.out.trans (bz.mono G19.out.size))
  have J21 := Hid.mk7 (J19.out.later bz)
  have RJ21 := Hid.mk7 (nw18.out.later bz)
  clear E19 RD19 T19 G19 J19 nw18 bz
  have RDc0 := RD21.out.c0
  have RDc1 := RD21.out.c1
  have RJc0 := RJ21.out.c0
  have RJc1 := RJ21.out.c1
  go_wp2_with fail
  refine (refvalid13 hs HVL.out _).mono ?_
  rintro e wv ⟨rfl, hw⟩
  obtain rfl : w20 = wv := hw.symm
  go_upto_region 10 with fail
  clear RDc0 RDc1 RJc0 RJc1
  go_cut [7, 8] from 56 to 65 (fun s9 s10 wx => ∃ (gz : Nat) (yv : Value), s9 = .pointer (some ⟨gz, 0, none⟩) ∧ s10 = .int .i64 er ∧ Hid (Rd wx gz (.int .i64 b1) yv) ∧ Hid (ElAt wx yv zs) ∧ Hid (RowKit.Below w20.heap.size w20 wx))
  case first =>
    refine wp_region_turns (fun w' => ∃ q : (GW (fun W => Rd W w.heap.size (.int .i64 (s.size : Nat)) (.slice va es.length vcap))), w' = q.w) [0, 3, 4] 12 10 (by kernel_rfl) (by kernel_rfl) (fun d => ⟨⟨redrawn w20 d, RD21.out.later (below_redrawnE w20 d)⟩, rfl⟩) ?_
    intro d
    have k0 : ∀ q : (GW (fun W => Rd W w.heap.size (.int .i64 (s.size : Nat)) (.slice va es.length vcap))), q.w.cell? ⟨w.heap.size, 0, none⟩ = some (.int .i64 (s.size : Nat)) := fun q => q.h.c0
    have k1 : ∀ q : (GW (fun W => Rd W w.heap.size (.int .i64 (s.size : Nat)) (.slice va es.length vcap))), q.w.cell? ⟨w.heap.size, 1, none⟩ = some (.slice va es.length vcap) := fun q => q.h.c1
    simp only [pickAll, pickAt, List.nil_append, List.cons_append, List.append_nil]
    have hne : Nonempty (GW (fun W => Rd W w.heap.size (.int .i64 (s.size : Nat)) (.slice va es.length vcap))) := ⟨⟨w20, RD21.out⟩⟩
    repeat (go_big_quiet_step (fail))
    refine wpQuiet_nil ?_
    clear hne k0 k1
    have bb0 := Hid.mk7 (below_redrawnE w20 d)
    generalize redrawn w20 d = x0 at *
    refine anyC_pick2 1 10 (by kernel_rfl) (by kernel_rfl) (by kernel_rfl) ?_ ?_
    · simp only [pickAll, pickAt, List.nil_append, List.cons_append, List.append_nil]
      go_wp2_with fail
      refine (HCE.out _ _ (E21.out.later bb0.out)).mono ?_
      rintro e x1 ⟨cv0, rfl, hy, bz⟩
      obtain ⟨xa, xc, rfl, _, _⟩ := id hy
      rw [HCN.out]
      clear hy
      have bb1 : Hid (RowKit.Below w20.heap.size w20 x1) := bb0.out.trans (bz.mono bb0.out.size)
      clear bz
      go_wp2
      refine anyNext_mk ⟨⟨_, RD21.out.later bb1.out⟩, rfl⟩ ?_
      refine anyC_pick3F 2 5 10 (by kernel_rfl) (by kernel_rfl) (by kernel_rfl) (by kernel_rfl) ?_ ?_ ?_
      · simp only [pickAll, pickAt, List.nil_append, List.cons_append, List.append_nil]
        go_wp2
        refine anyNext_mk ⟨⟨_, RD21.out.later bb1.out⟩, rfl⟩ ?_
        refine anyC_pick2 5 10 (by kernel_rfl) (by kernel_rfl) (by kernel_rfl) ?_ ?_
        · simp only [pickAll, pickAt, List.nil_append, List.cons_append, List.append_nil]
          go_wp2_with fail
          refine (HLI.out _ _ (E21.out.later bb1.out)).mono ?_
          rintro e x3 ⟨cv, rfl, hy, bz⟩
          have C3 := Hid.mk7 hy
          have bb3 : Hid (RowKit.Below w20.heap.size w20 x3) := bb1.out.trans (bz.mono bb1.out.size)
          clear bz hy
          go_wp2
          refine anyNext_mk ⟨⟨_, RD21.out.later bb3.out⟩, rfl⟩ ?_
          refine anyC_pick2 6 10 (by kernel_rfl) (by kernel_rfl) (by kernel_rfl) ?_ ?_
          · simp only [pickAll, pickAt, List.nil_append, List.cons_append, List.append_nil]
            go_wp2_with fail
            refine (HTO.out _ _ C3.out).mono ?_
            rintro e x4 ⟨yv, rfl, hy, bz⟩
            obtain ⟨ya, yc, rfl, _, _, _⟩ := id hy
            have C4 := Hid.mk7 (C3.out.later bz)
            have Y4 := Hid.mk7 hy
            have bb4 : Hid (RowKit.Below w20.heap.size w20 x4) := bb3.out.trans (bz.mono bb3.out.size)
            clear bz hy
            go_wp2
            refine anyNext_mk ⟨⟨_, RD21.out.later bb4.out⟩, rfl⟩ ?_
            refine anyC_pick2 7 10 (by kernel_rfl) (by kernel_rfl) (by kernel_rfl) ?_ ?_
            · simp only [pickAll, pickAt, List.nil_append, List.cons_append, List.append_nil]
              go_wp2
              refine anyNext_mk ⟨⟨_, RD21.out.later bb4.out⟩, rfl⟩ ?_
              refine anyC_pick3F 8 9 10 (by kernel_rfl) (by kernel_rfl) (by kernel_rfl) (by kernel_rfl) ?_ ?_ ?_
              · simp only [pickAll, pickAt, List.nil_append, List.cons_append, List.append_nil]
                go_wp2
                refine anyNext_mk ⟨⟨_, RD21.out.later bb4.out⟩, rfl⟩ ?_
                refine anyC_pick2 9 10 (by kernel_rfl) (by kernel_rfl) (by kernel_rfl) ?_ ?_
                · simp only [pickAll, pickAt, List.nil_append, List.cons_append, List.append_nil]
                  go_wp2
                  refine anyNext_mk ⟨⟨_, RD21.out.later bb4.out⟩, rfl⟩ ?_
                  refine anyC_pick1 10 (by kernel_rfl) (by kernel_rfl) ?_
                  simp only [pickAll, pickAt, List.nil_append, List.cons_append, List.append_nil]
                  have C8 := Hid.mk7 (C4.out.later (below_newE (RowKit.Below.refl _ _) (.cells #[.int .i64 0, .slice none 0 0] 24)))
                  have Y8 := Hid.mk7 (Y4.out.later (below_newE (RowKit.Below.refl _ _) (.cells #[.int .i64 0, .slice none 0 0] 24)))
                  have Z8 : Hid (Rd (x4.alloc (.cells #[.int .i64 0, .slice none 0 0] 24)) x4.heap.size (.int .i64 0) (.slice none 0 0)) := Rd.new _ _ _
                  have bb8 : Hid (RowKit.Below w20.heap.size w20 (x4.alloc (.cells #[.int .i64 0, .slice none 0 0] 24))) := bb4.out.alloc bb4.out.size _
                  have hgz := bb4.out.size
                  go_wp2
                  generalize (x4.alloc (.cells #[.int .i64 0, .slice none 0 0] 24)) = x8 at *
                  generalize x4.heap.size = gz at *
                  refine anyNext_mk ⟨⟨_, RD21.out.later bb8.out⟩, rfl⟩ ?_
                  refine anyC_pick1 11 (by kernel_rfl) (by kernel_rfl) ?_
                  simp only [pickAll, pickAt, List.nil_append, List.cons_append, List.append_nil]
                  have c0 := Z8.out.c0
                  have c1 := Z8.out.c1
                  have fz := Z8.out.fz
                  have c2 : (x8.setCell ⟨gz, 0, none⟩ (.int .i64 b1)).cell? ⟨gz, 1, none⟩ = some (.slice none 0 0) := (Z8.out.set0 _).c1
                  have fz2 := (Z8.out.set0 (.int .i64 b1)).fz
                  have Y9 := Hid.mk7 (Y8.out.set_del Z8.out (.int .i64 b1) (.slice ya zs.length yc))
                  have Z9 := Hid.mk7 (Z8.out.set (.int .i64 b1) (.slice ya zs.length yc))
                  have bb9 : Hid (RowKit.Below w20.heap.size w20 ((x8.setCell ⟨gz, 0, none⟩ (.int .i64 b1)).setCell ⟨gz, 1, none⟩ (.slice ya zs.length yc))) := below_set2 bb8.out hgz _ _
                  go_wp2
                  clear c0 c1 c2 fz fz2
                  generalize ((x8.setCell ⟨gz, 0, none⟩ (.int .i64 b1)).setCell ⟨gz, 1, none⟩ (.slice ya zs.length yc)) = x9 at *
                  refine anyNext_mk ⟨⟨_, RD21.out.later bb9.out⟩, rfl⟩ ?_
                  refine anyC_pick1 12 (by kernel_rfl) (by kernel_rfl) ?_
                  simp only [pickAll, pickAt, List.nil_append, List.cons_append, List.append_nil]
                  go_wp2
                  refine anyNext_last (anyC_done (by kernel_rfl) ?_)
                  go_wp2
                  go_meet
                  exact ⟨gz, _, rfl, rfl, Z9, Y9, bb9⟩
                · simp only [pickAll, pickAt, List.nil_append, List.cons_append, List.append_nil]
                  have C11 := Hid.mk7 (C4.out.later (below_newE (RowKit.Below.refl _ _) (.cells #[.int .i64 0, .slice none 0 0] 24)))
                  have Y11 := Hid.mk7 (Y4.out.later (below_newE (RowKit.Below.refl _ _) (.cells #[.int .i64 0, .slice none 0 0] 24)))
                  have Z11 : Hid (Rd (x4.alloc (.cells #[.int .i64 0, .slice none 0 0] 24)) x4.heap.size (.int .i64 0) (.slice none 0 0)) := Rd.new _ _ _
                  have bb11 : Hid (RowKit.Below w20.heap.size w20 (x4.alloc (.cells #[.int .i64 0, .slice none 0 0] 24))) := bb4.out.alloc bb4.out.size _
                  have hgz := bb4.out.size
                  go_wp2
                  generalize (x4.alloc (.cells #[.int .i64 0, .slice none 0 0] 24)) = x11 at *
                  generalize x4.heap.size = gz at *
                  refine anyNext_mk ⟨⟨_, RD21.out.later bb11.out⟩, rfl⟩ ?_
                  refine anyC_pick2 9 11 (by kernel_rfl) (by kernel_rfl) (by kernel_rfl) ?_ ?_
                  · simp only [pickAll, pickAt, List.nil_append, List.cons_append, List.append_nil]
                    go_wp2
                    refine anyNext_mk ⟨⟨_, RD21.out.later bb11.out⟩, rfl⟩ ?_
                    refine anyC_pick1 11 (by kernel_rfl) (by kernel_rfl) ?_
                    simp only [pickAll, pickAt, List.nil_append, List.cons_append, List.append_nil]
                    have c0 := Z11.out.c0
                    have c1 := Z11.out.c1
                    have fz := Z11.out.fz
                    have c2 : (x11.setCell ⟨gz, 0, none⟩ (.int .i64 b1)).cell? ⟨gz, 1, none⟩ = some (.slice none 0 0) := (Z11.out.set0 _).c1
                    have fz2 := (Z11.out.set0 (.int .i64 b1)).fz
                    have Y13 := Hid.mk7 (Y11.out.set_del Z11.out (.int .i64 b1) (.slice ya zs.length yc))
                    have Z13 := Hid.mk7 (Z11.out.set (.int .i64 b1) (.slice ya zs.length yc))
                    have bb13 : Hid (RowKit.Below w20.heap.size w20 ((x11.setCell ⟨gz, 0, none⟩ (.int .i64 b1)).setCell ⟨gz, 1, none⟩ (.slice ya zs.length yc))) := below_set2 bb11.out hgz _ _
                    go_wp2
                    clear c0 c1 c2 fz fz2
                    generalize ((x11.setCell ⟨gz, 0, none⟩ (.int .i64 b1)).setCell ⟨gz, 1, none⟩ (.slice ya zs.length yc)) = x13 at *
                    refine anyNext_mk ⟨⟨_, RD21.out.later bb13.out⟩, rfl⟩ ?_
                    refine anyC_pick1 12 (by kernel_rfl) (by kernel_rfl) ?_
                    simp only [pickAll, pickAt, List.nil_append, List.cons_append, List.append_nil]
                    go_wp2
                    refine anyNext_last (anyC_done (by kernel_rfl) ?_)
                    go_wp2
                    go_meet
                    exact ⟨gz, _, rfl, rfl, Z13, Y13, bb13⟩
                  · simp only [pickAll, pickAt, List.nil_append, List.cons_append, List.append_nil]
                    have c0 := Z11.out.c0
                    have c1 := Z11.out.c1
                    have fz := Z11.out.fz
                    have c2 : (x11.setCell ⟨gz, 0, none⟩ (.int .i64 b1)).cell? ⟨gz, 1, none⟩ = some (.slice none 0 0) := (Z11.out.set0 _).c1
                    have fz2 := (Z11.out.set0 (.int .i64 b1)).fz
                    have Y15 := Hid.mk7 (Y11.out.set_del Z11.out (.int .i64 b1) (.slice ya zs.length yc))
                    have Z15 := Hid.mk7 (Z11.out.set (.int .i64 b1) (.slice ya zs.length yc))
                    have bb15 : Hid (RowKit.Below w20.heap.size w20 ((x11.setCell ⟨gz, 0, none⟩ (.int .i64 b1)).setCell ⟨gz, 1, none⟩ (.slice ya zs.length yc))) := below_set2 bb11.out hgz _ _
                    go_wp2
                    clear c0 c1 c2 fz fz2
                    generalize ((x11.setCell ⟨gz, 0, none⟩ (.int .i64 b1)).setCell ⟨gz, 1, none⟩ (.slice ya zs.length yc)) = x15 at *
                    refine anyNext_mk ⟨⟨_, RD21.out.later bb15.out⟩, rfl⟩ ?_
                    refine anyC_pick1 9 (by kernel_rfl) (by kernel_rfl) ?_
                    simp only [pickAll, pickAt, List.nil_append, List.cons_append, List.append_nil]
                    go_wp2
                    refine anyNext_mk ⟨⟨_, RD21.out.later bb15.out⟩, rfl⟩ ?_
                    refine anyC_pick1 12 (by kernel_rfl) (by kernel_rfl) ?_
                    simp only [pickAll, pickAt, List.nil_append, List.cons_append, List.append_nil]
                    go_wp2
                    refine anyNext_last (anyC_done (by kernel_rfl) ?_)
                    go_wp2
                    go_meet
                    exact ⟨gz, _, rfl, rfl, Z15, Y15, bb15⟩
              · simp only [pickAll, pickAt, List.nil_append, List.cons_append, List.append_nil]
                go_wp2
                refine anyNext_mk ⟨⟨_, RD21.out.later bb4.out⟩, rfl⟩ ?_
                refine anyC_pick2 8 10 (by kernel_rfl) (by kernel_rfl) (by kernel_rfl) ?_ ?_
                · simp only [pickAll, pickAt, List.nil_append, List.cons_append, List.append_nil]
                  go_wp2
                  refine anyNext_mk ⟨⟨_, RD21.out.later bb4.out⟩, rfl⟩ ?_
                  refine anyC_pick1 10 (by kernel_rfl) (by kernel_rfl) ?_
                  simp only [pickAll, pickAt, List.nil_append, List.cons_append, List.append_nil]
                  have C20 := Hid.mk7 (C4.out.later (below_newE (RowKit.Below.refl _ _) (.cells #[.int .i64 0, .slice none 0 0] 24)))
                  have Y20 := Hid.mk7 (Y4.out.later (below_newE (RowKit.Below.refl _ _) (.cells #[.int .i64 0, .slice none 0 0] 24)))
                  have Z20 : Hid (Rd (x4.alloc (.cells #[.int .i64 0, .slice none 0 0] 24)) x4.heap.size (.int .i64 0) (.slice none 0 0)) := Rd.new _ _ _
                  have bb20 : Hid (RowKit.Below w20.heap.size w20 (x4.alloc (.cells #[.int .i64 0, .slice none 0 0] 24))) := bb4.out.alloc bb4.out.size _
                  have hgz := bb4.out.size
                  go_wp2
                  generalize (x4.alloc (.cells #[.int .i64 0, .slice none 0 0] 24)) = x20 at *
                  generalize x4.heap.size = gz at *
                  refine anyNext_mk ⟨⟨_, RD21.out.later bb20.out⟩, rfl⟩ ?_
                  refine anyC_pick1 11 (by kernel_rfl) (by kernel_rfl) ?_
                  simp only [pickAll, pickAt, List.nil_append, List.cons_append, List.append_nil]
                  have c0 := Z20.out.c0
                  have c1 := Z20.out.c1
                  have fz := Z20.out.fz
                  have c2 : (x20.setCell ⟨gz, 0, none⟩ (.int .i64 b1)).cell? ⟨gz, 1, none⟩ = some (.slice none 0 0) := (Z20.out.set0 _).c1
                  have fz2 := (Z20.out.set0 (.int .i64 b1)).fz
                  have Y21 := Hid.mk7 (Y20.out.set_del Z20.out (.int .i64 b1) (.slice ya zs.length yc))
                  have Z21 := Hid.mk7 (Z20.out.set (.int .i64 b1) (.slice ya zs.length yc))
                  have bb21 : Hid (RowKit.Below w20.heap.size w20 ((x20.setCell ⟨gz, 0, none⟩ (.int .i64 b1)).setCell ⟨gz, 1, none⟩ (.slice ya zs.length yc))) := below_set2 bb20.out hgz _ _
                  go_wp2
                  clear c0 c1 c2 fz fz2
                  generalize ((x20.setCell ⟨gz, 0, none⟩ (.int .i64 b1)).setCell ⟨gz, 1, none⟩ (.slice ya zs.length yc)) = x21 at *
                  refine anyNext_mk ⟨⟨_, RD21.out.later bb21.out⟩, rfl⟩ ?_
                  refine anyC_pick1 12 (by kernel_rfl) (by kernel_rfl) ?_
                  simp only [pickAll, pickAt, List.nil_append, List.cons_append, List.append_nil]
                  go_wp2
                  refine anyNext_last (anyC_done (by kernel_rfl) ?_)
                  go_wp2
                  go_meet
                  exact ⟨gz, _, rfl, rfl, Z21, Y21, bb21⟩
                · simp only [pickAll, pickAt, List.nil_append, List.cons_append, List.append_nil]
                  have C23 := Hid.mk7 (C4.out.later (below_newE (RowKit.Below.refl _ _) (.cells #[.int .i64 0, .slice none 0 0] 24)))
                  have Y23 := Hid.mk7 (Y4.out.later (below_newE (RowKit.Below.refl _ _) (.cells #[.int .i64 0, .slice none 0 0] 24)))
                  have Z23 : Hid (Rd (x4.alloc (.cells #[.int .i64 0, .slice none 0 0] 24)) x4.heap.size (.int .i64 0) (.slice none 0 0)) := Rd.new _ _ _
                  have bb23 : Hid (RowKit.Below w20.heap.size w20 (x4.alloc (.cells #[.int .i64 0, .slice none 0 0] 24))) := bb4.out.alloc bb4.out.size _
                  have hgz := bb4.out.size
                  go_wp2
                  generalize (x4.alloc (.cells #[.int .i64 0, .slice none 0 0] 24)) = x23 at *
                  generalize x4.heap.size = gz at *
                  refine anyNext_mk ⟨⟨_, RD21.out.later bb23.out⟩, rfl⟩ ?_
                  refine anyC_pick1 8 (by kernel_rfl) (by kernel_rfl) ?_
                  simp only [pickAll, pickAt, List.nil_append, List.cons_append, List.append_nil]
                  go_wp2
                  refine anyNext_mk ⟨⟨_, RD21.out.later bb23.out⟩, rfl⟩ ?_
                  refine anyC_pick1 11 (by kernel_rfl) (by kernel_rfl) ?_
                  simp only [pickAll, pickAt, List.nil_append, List.cons_append, List.append_nil]
                  have c0 := Z23.out.c0
                  have c1 := Z23.out.c1
                  have fz := Z23.out.fz
                  have c2 : (x23.setCell ⟨gz, 0, none⟩ (.int .i64 b1)).cell? ⟨gz, 1, none⟩ = some (.slice none 0 0) := (Z23.out.set0 _).c1
                  have fz2 := (Z23.out.set0 (.int .i64 b1)).fz
                  have Y25 := Hid.mk7 (Y23.out.set_del Z23.out (.int .i64 b1) (.slice ya zs.length yc))
                  have Z25 := Hid.mk7 (Z23.out.set (.int .i64 b1) (.slice ya zs.length yc))
                  have bb25 : Hid (RowKit.Below w20.heap.size w20 ((x23.setCell ⟨gz, 0, none⟩ (.int .i64 b1)).setCell ⟨gz, 1, none⟩ (.slice ya zs.length yc))) := below_set2 bb23.out hgz _ _
                  go_wp2
                  clear c0 c1 c2 fz fz2
                  generalize ((x23.setCell ⟨gz, 0, none⟩ (.int .i64 b1)).setCell ⟨gz, 1, none⟩ (.slice ya zs.length yc)) = x25 at *
                  refine anyNext_mk ⟨⟨_, RD21.out.later bb25.out⟩, rfl⟩ ?_
                  refine anyC_pick1 12 (by kernel_rfl) (by kernel_rfl) ?_
                  simp only [pickAll, pickAt, List.nil_append, List.cons_append, List.append_nil]
                  go_wp2
                  refine anyNext_last (anyC_done (by kernel_rfl) ?_)
                  go_wp2
                  go_meet
                  exact ⟨gz, _, rfl, rfl, Z25, Y25, bb25⟩
              · simp only [pickAll, pickAt, List.nil_append, List.cons_append, List.append_nil]
                have C27 := Hid.mk7 (C4.out.later (below_newE (RowKit.Below.refl _ _) (.cells #[.int .i64 0, .slice none 0 0] 24)))
                have Y27 := Hid.mk7 (Y4.out.later (below_newE (RowKit.Below.refl _ _) (.cells #[.int .i64 0, .slice none 0 0] 24)))
                have Z27 : Hid (Rd (x4.alloc (.cells #[.int .i64 0, .slice none 0 0] 24)) x4.heap.size (.int .i64 0) (.slice none 0 0)) := Rd.new _ _ _
                have bb27 : Hid (RowKit.Below w20.heap.size w20 (x4.alloc (.cells #[.int .i64 0, .slice none 0 0] 24))) := bb4.out.alloc bb4.out.size _
                have hgz := bb4.out.size
                go_wp2
                generalize (x4.alloc (.cells #[.int .i64 0, .slice none 0 0] 24)) = x27 at *
                generalize x4.heap.size = gz at *
                refine anyNext_mk ⟨⟨_, RD21.out.later bb27.out⟩, rfl⟩ ?_
                refine anyC_pick2 8 9 (by kernel_rfl) (by kernel_rfl) (by kernel_rfl) ?_ ?_
                · simp only [pickAll, pickAt, List.nil_append, List.cons_append, List.append_nil]
                  go_wp2
                  refine anyNext_mk ⟨⟨_, RD21.out.later bb27.out⟩, rfl⟩ ?_
                  refine anyC_pick2 9 11 (by kernel_rfl) (by kernel_rfl) (by kernel_rfl) ?_ ?_
                  · simp only [pickAll, pickAt, List.nil_append, List.cons_append, List.append_nil]
                    go_wp2
                    refine anyNext_mk ⟨⟨_, RD21.out.later bb27.out⟩, rfl⟩ ?_
                    refine anyC_pick1 11 (by kernel_rfl) (by kernel_rfl) ?_
                    simp only [pickAll, pickAt, List.nil_append, List.cons_append, List.append_nil]
                    have c0 := Z27.out.c0
                    have c1 := Z27.out.c1
                    have fz := Z27.out.fz
                    have c2 : (x27.setCell ⟨gz, 0, none⟩ (.int .i64 b1)).cell? ⟨gz, 1, none⟩ = some (.slice none 0 0) := (Z27.out.set0 _).c1
                    have fz2 := (Z27.out.set0 (.int .i64 b1)).fz
                    have Y30 := Hid.mk7 (Y27.out.set_del Z27.out (.int .i64 b1) (.slice ya zs.length yc))
                    have Z30 := Hid.mk7 (Z27.out.set (.int .i64 b1) (.slice ya zs.length yc))
                    have bb30 : Hid (RowKit.Below w20.heap.size w20 ((x27.setCell ⟨gz, 0, none⟩ (.int .i64 b1)).setCell ⟨gz, 1, none⟩ (.slice ya zs.length yc))) := below_set2 bb27.out hgz _ _
                    go_wp2
                    clear c0 c1 c2 fz fz2
                    generalize ((x27.setCell ⟨gz, 0, none⟩ (.int .i64 b1)).setCell ⟨gz, 1, none⟩ (.slice ya zs.length yc)) = x30 at *
                    refine anyNext_mk ⟨⟨_, RD21.out.later bb30.out⟩, rfl⟩ ?_
                    refine anyC_pick1 12 (by kernel_rfl) (by kernel_rfl) ?_
                    simp only [pickAll, pickAt, List.nil_append, List.cons_append, List.append_nil]
                    go_wp2
                    refine anyNext_last (anyC_done (by kernel_rfl) ?_)
                    go_wp2
                    go_meet
                    exact ⟨gz, _, rfl, rfl, Z30, Y30, bb30⟩
                  · simp only [pickAll, pickAt, List.nil_append, List.cons_append, List.append_nil]
                    have c0 := Z27.out.c0
                    have c1 := Z27.out.c1
                    have fz := Z27.out.fz
                    have c2 : (x27.setCell ⟨gz, 0, none⟩ (.int .i64 b1)).cell? ⟨gz, 1, none⟩ = some (.slice none 0 0) := (Z27.out.set0 _).c1
                    have fz2 := (Z27.out.set0 (.int .i64 b1)).fz
                    have Y32 := Hid.mk7 (Y27.out.set_del Z27.out (.int .i64 b1) (.slice ya zs.length yc))
                    have Z32 := Hid.mk7 (Z27.out.set (.int .i64 b1) (.slice ya zs.length yc))
                    have bb32 : Hid (RowKit.Below w20.heap.size w20 ((x27.setCell ⟨gz, 0, none⟩ (.int .i64 b1)).setCell ⟨gz, 1, none⟩ (.slice ya zs.length yc))) := below_set2 bb27.out hgz _ _
                    go_wp2
                    clear c0 c1 c2 fz fz2
                    generalize ((x27.setCell ⟨gz, 0, none⟩ (.int .i64 b1)).setCell ⟨gz, 1, none⟩ (.slice ya zs.length yc)) = x32 at *
                    refine anyNext_mk ⟨⟨_, RD21.out.later bb32.out⟩, rfl⟩ ?_
                    refine anyC_pick1 9 (by kernel_rfl) (by kernel_rfl) ?_
                    simp only [pickAll, pickAt, List.nil_append, List.cons_append, List.append_nil]
                    go_wp2
                    refine anyNext_mk ⟨⟨_, RD21.out.later bb32.out⟩, rfl⟩ ?_
                    refine anyC_pick1 12 (by kernel_rfl) (by kernel_rfl) ?_
                    simp only [pickAll, pickAt, List.nil_append, List.cons_append, List.append_nil]
                    go_wp2
                    refine anyNext_last (anyC_done (by kernel_rfl) ?_)
                    go_wp2
                    go_meet
                    exact ⟨gz, _, rfl, rfl, Z32, Y32, bb32⟩
                · simp only [pickAll, pickAt, List.nil_append, List.cons_append, List.append_nil]
                  go_wp2
                  refine anyNext_mk ⟨⟨_, RD21.out.later bb27.out⟩, rfl⟩ ?_
                  refine anyC_pick1 8 (by kernel_rfl) (by kernel_rfl) ?_
                  simp only [pickAll, pickAt, List.nil_append, List.cons_append, List.append_nil]
                  go_wp2
                  refine anyNext_mk ⟨⟨_, RD21.out.later bb27.out⟩, rfl⟩ ?_
                  refine anyC_pick1 11 (by kernel_rfl) (by kernel_rfl) ?_
                  simp only [pickAll, pickAt, List.nil_append, List.cons_append, List.append_nil]
                  have c0 := Z27.out.c0
                  have c1 := Z27.out.c1
                  have fz := Z27.out.fz
                  have c2 : (x27.setCell ⟨gz, 0, none⟩ (.int .i64 b1)).cell? ⟨gz, 1, none⟩ = some (.slice none 0 0) := (Z27.out.set0 _).c1
                  have fz2 := (Z27.out.set0 (.int .i64 b1)).fz
                  have Y37 := Hid.mk7 (Y27.out.set_del Z27.out (.int .i64 b1) (.slice ya zs.length yc))
                  have Z37 := Hid.mk7 (Z27.out.set (.int .i64 b1) (.slice ya zs.length yc))
                  have bb37 : Hid (RowKit.Below w20.heap.size w20 ((x27.setCell ⟨gz, 0, none⟩ (.int .i64 b1)).setCell ⟨gz, 1, none⟩ (.slice ya zs.length yc))) := below_set2 bb27.out hgz _ _
                  go_wp2
                  clear c0 c1 c2 fz fz2
                  generalize ((x27.setCell ⟨gz, 0, none⟩ (.int .i64 b1)).setCell ⟨gz, 1, none⟩ (.slice ya zs.length yc)) = x37 at *
                  refine anyNext_mk ⟨⟨_, RD21.out.later bb37.out⟩, rfl⟩ ?_
                  refine anyC_pick1 12 (by kernel_rfl) (by kernel_rfl) ?_
                  simp only [pickAll, pickAt, List.nil_append, List.cons_append, List.append_nil]
                  go_wp2
                  refine anyNext_last (anyC_done (by kernel_rfl) ?_)
                  go_wp2
                  go_meet
                  exact ⟨gz, _, rfl, rfl, Z37, Y37, bb37⟩
            · simp only [pickAll, pickAt, List.nil_append, List.cons_append, List.append_nil]
              have C39 := Hid.mk7 (C4.out.later (below_newE (RowKit.Below.refl _ _) (.cells #[.int .i64 0, .slice none 0 0] 24)))
              have Y39 := Hid.mk7 (Y4.out.later (below_newE (RowKit.Below.refl _ _) (.cells #[.int .i64 0, .slice none 0 0] 24)))
              have Z39 : Hid (Rd (x4.alloc (.cells #[.int .i64 0, .slice none 0 0] 24)) x4.heap.size (.int .i64 0) (.slice none 0 0)) := Rd.new _ _ _
              have bb39 : Hid (RowKit.Below w20.heap.size w20 (x4.alloc (.cells #[.int .i64 0, .slice none 0 0] 24))) := bb4.out.alloc bb4.out.size _
              have hgz := bb4.out.size
              go_wp2
              generalize (x4.alloc (.cells #[.int .i64 0, .slice none 0 0] 24)) = x39 at *
              generalize x4.heap.size = gz at *
              refine anyNext_mk ⟨⟨_, RD21.out.later bb39.out⟩, rfl⟩ ?_
              refine anyC_pick1 7 (by kernel_rfl) (by kernel_rfl) ?_
              simp only [pickAll, pickAt, List.nil_append, List.cons_append, List.append_nil]
              go_wp2
              refine anyNext_mk ⟨⟨_, RD21.out.later bb39.out⟩, rfl⟩ ?_
              refine anyC_pick2 8 9 (by kernel_rfl) (by kernel_rfl) (by kernel_rfl) ?_ ?_
              · simp only [pickAll, pickAt, List.nil_append, List.cons_append, List.append_nil]
                go_wp2
                refine anyNext_mk ⟨⟨_, RD21.out.later bb39.out⟩, rfl⟩ ?_
                refine anyC_pick2 9 11 (by kernel_rfl) (by kernel_rfl) (by kernel_rfl) ?_ ?_
                · simp only [pickAll, pickAt, List.nil_append, List.cons_append, List.append_nil]
                  go_wp2
                  refine anyNext_mk ⟨⟨_, RD21.out.later bb39.out⟩, rfl⟩ ?_
                  refine anyC_pick1 11 (by kernel_rfl) (by kernel_rfl) ?_
                  simp only [pickAll, pickAt, List.nil_append, List.cons_append, List.append_nil]
                  have c0 := Z39.out.c0
                  have c1 := Z39.out.c1
                  have fz := Z39.out.fz
                  have c2 : (x39.setCell ⟨gz, 0, none⟩ (.int .i64 b1)).cell? ⟨gz, 1, none⟩ = some (.slice none 0 0) := (Z39.out.set0 _).c1
                  have fz2 := (Z39.out.set0 (.int .i64 b1)).fz
                  have Y43 := Hid.mk7 (Y39.out.set_del Z39.out (.int .i64 b1) (.slice ya zs.length yc))
                  have Z43 := Hid.mk7 (Z39.out.set (.int .i64 b1) (.slice ya zs.length yc))
                  have bb43 : Hid (RowKit.Below w20.heap.size w20 ((x39.setCell ⟨gz, 0, none⟩ (.int .i64 b1)).setCell ⟨gz, 1, none⟩ (.slice ya zs.length yc))) := below_set2 bb39.out hgz _ _
                  go_wp2
                  clear c0 c1 c2 fz fz2
                  generalize ((x39.setCell ⟨gz, 0, none⟩ (.int .i64 b1)).setCell ⟨gz, 1, none⟩ (.slice ya zs.length yc)) = x43 at *
                  refine anyNext_mk ⟨⟨_, RD21.out.later bb43.out⟩, rfl⟩ ?_
                  refine anyC_pick1 12 (by kernel_rfl) (by kernel_rfl) ?_
                  simp only [pickAll, pickAt, List.nil_append, List.cons_append, List.append_nil]
                  go_wp2
                  refine anyNext_last (anyC_done (by kernel_rfl) ?_)
                  go_wp2
                  go_meet
                  exact ⟨gz, _, rfl, rfl, Z43, Y43, bb43⟩
                · simp only [pickAll, pickAt, List.nil_append, List.cons_append, List.append_nil]
                  have c0 := Z39.out.c0
                  have c1 := Z39.out.c1
                  have fz := Z39.out.fz
                  have c2 : (x39.setCell ⟨gz, 0, none⟩ (.int .i64 b1)).cell? ⟨gz, 1, none⟩ = some (.slice none 0 0) := (Z39.out.set0 _).c1
                  have fz2 := (Z39.out.set0 (.int .i64 b1)).fz
                  have Y45 := Hid.mk7 (Y39.out.set_del Z39.out (.int .i64 b1) (.slice ya zs.length yc))
                  have Z45 := Hid.mk7 (Z39.out.set (.int .i64 b1) (.slice ya zs.length yc))
                  have bb45 : Hid (RowKit.Below w20.heap.size w20 ((x39.setCell ⟨gz, 0, none⟩ (.int .i64 b1)).setCell ⟨gz, 1, none⟩ (.slice ya zs.length yc))) := below_set2 bb39.out hgz _ _
                  go_wp2
                  clear c0 c1 c2 fz fz2
                  generalize ((x39.setCell ⟨gz, 0, none⟩ (.int .i64 b1)).setCell ⟨gz, 1, none⟩ (.slice ya zs.length yc)) = x45 at *
                  refine anyNext_mk ⟨⟨_, RD21.out.later bb45.out⟩, rfl⟩ ?_
                  refine anyC_pick1 9 (by kernel_rfl) (by kernel_rfl) ?_
                  simp only [pickAll, pickAt, List.nil_append, List.cons_append, List.append_nil]
                  go_wp2
                  refine anyNext_mk ⟨⟨_, RD21.out.later bb45.out⟩, rfl⟩ ?_
                  refine anyC_pick1 12 (by kernel_rfl) (by kernel_rfl) ?_
                  simp only [pickAll, pickAt, List.nil_append, List.cons_append, List.append_nil]
                  go_wp2
                  refine anyNext_last (anyC_done (by kernel_rfl) ?_)
                  go_wp2
                  go_meet
                  exact ⟨gz, _, rfl, rfl, Z45, Y45, bb45⟩
              · simp only [pickAll, pickAt, List.nil_append, List.cons_append, List.append_nil]
                go_wp2
                refine anyNext_mk ⟨⟨_, RD21.out.later bb39.out⟩, rfl⟩ ?_
                refine anyC_pick1 8 (by kernel_rfl) (by kernel_rfl) ?_
                simp only [pickAll, pickAt, List.nil_append, List.cons_append, List.append_nil]
                go_wp2
                refine anyNext_mk ⟨⟨_, RD21.out.later bb39.out⟩, rfl⟩ ?_
                refine anyC_pick1 11 (by kernel_rfl) (by kernel_rfl) ?_
                simp only [pickAll, pickAt, List.nil_append, List.cons_append, List.append_nil]
                have c0 := Z39.out.c0
                have c1 := Z39.out.c1
                have fz := Z39.out.fz
                have c2 : (x39.setCell ⟨gz, 0, none⟩ (.int .i64 b1)).cell? ⟨gz, 1, none⟩ = some (.slice none 0 0) := (Z39.out.set0 _).c1
                have fz2 := (Z39.out.set0 (.int .i64 b1)).fz
                have Y50 := Hid.mk7 (Y39.out.set_del Z39.out (.int .i64 b1) (.slice ya zs.length yc))
                have Z50 := Hid.mk7 (Z39.out.set (.int .i64 b1) (.slice ya zs.length yc))
                have bb50 : Hid (RowKit.Below w20.heap.size w20 ((x39.setCell ⟨gz, 0, none⟩ (.int .i64 b1)).setCell ⟨gz, 1, none⟩ (.slice ya zs.length yc))) := below_set2 bb39.out hgz _ _
                go_wp2
                clear c0 c1 c2 fz fz2
                generalize ((x39.setCell ⟨gz, 0, none⟩ (.int .i64 b1)).setCell ⟨gz, 1, none⟩ (.slice ya zs.length yc)) = x50 at *
                refine anyNext_mk ⟨⟨_, RD21.out.later bb50.out⟩, rfl⟩ ?_
                refine anyC_pick1 12 (by kernel_rfl) (by kernel_rfl) ?_
                simp only [pickAll, pickAt, List.nil_append, List.cons_append, List.append_nil]
                go_wp2
                refine anyNext_last (anyC_done (by kernel_rfl) ?_)
                go_wp2
                go_meet
                exact ⟨gz, _, rfl, rfl, Z50, Y50, bb50⟩
          · simp only [pickAll, pickAt, List.nil_append, List.cons_append, List.append_nil]
            have C52 := Hid.mk7 (C3.out.later (below_newE (RowKit.Below.refl _ _) (.cells #[.int .i64 0, .slice none 0 0] 24)))
            have Z52 : Hid (Rd (x3.alloc (.cells #[.int .i64 0, .slice none 0 0] 24)) x3.heap.size (.int .i64 0) (.slice none 0 0)) := Rd.new _ _ _
            have bb52 : Hid (RowKit.Below w20.heap.size w20 (x3.alloc (.cells #[.int .i64 0, .slice none 0 0] 24))) := bb3.out.alloc bb3.out.size _
            have hgz := bb3.out.size
            go_wp2
            generalize (x3.alloc (.cells #[.int .i64 0, .slice none 0 0] 24)) = x52 at *
            generalize x3.heap.size = gz at *
            refine anyNext_mk ⟨⟨_, RD21.out.later bb52.out⟩, rfl⟩ ?_
            refine anyC_pick1 6 (by kernel_rfl) (by kernel_rfl) ?_
            simp only [pickAll, pickAt, List.nil_append, List.cons_append, List.append_nil]
            go_wp2_with fail
            refine (HTO.out _ _ C52.out).mono ?_
            rintro e x53 ⟨yv, rfl, hy, bz⟩
            obtain ⟨ya, yc, rfl, _, _, _⟩ := id hy
            have C53 := Hid.mk7 (C52.out.later bz)
            have Z53 := Hid.mk7 (Z52.out.later bz)
            have Y53 := Hid.mk7 hy
            have bb53 : Hid (RowKit.Below w20.heap.size w20 x53) := bb52.out.trans (bz.mono bb52.out.size)
            clear bz hy
            go_wp2
            refine anyNext_mk ⟨⟨_, RD21.out.later bb53.out⟩, rfl⟩ ?_
            refine anyC_pick1 7 (by kernel_rfl) (by kernel_rfl) ?_
            simp only [pickAll, pickAt, List.nil_append, List.cons_append, List.append_nil]
            go_wp2
            refine anyNext_mk ⟨⟨_, RD21.out.later bb53.out⟩, rfl⟩ ?_
            refine anyC_pick2 8 9 (by kernel_rfl) (by kernel_rfl) (by kernel_rfl) ?_ ?_
            · simp only [pickAll, pickAt, List.nil_append, List.cons_append, List.append_nil]
              go_wp2
              refine anyNext_mk ⟨⟨_, RD21.out.later bb53.out⟩, rfl⟩ ?_
              refine anyC_pick2 9 11 (by kernel_rfl) (by kernel_rfl) (by kernel_rfl) ?_ ?_
              · simp only [pickAll, pickAt, List.nil_append, List.cons_append, List.append_nil]
                go_wp2
                refine anyNext_mk ⟨⟨_, RD21.out.later bb53.out⟩, rfl⟩ ?_
                refine anyC_pick1 11 (by kernel_rfl) (by kernel_rfl) ?_
                simp only [pickAll, pickAt, List.nil_append, List.cons_append, List.append_nil]
                have c0 := Z53.out.c0
                have c1 := Z53.out.c1
                have fz := Z53.out.fz
                have c2 : (x53.setCell ⟨gz, 0, none⟩ (.int .i64 b1)).cell? ⟨gz, 1, none⟩ = some (.slice none 0 0) := (Z53.out.set0 _).c1
                have fz2 := (Z53.out.set0 (.int .i64 b1)).fz
                have Y57 := Hid.mk7 (Y53.out.set_del Z53.out (.int .i64 b1) (.slice ya zs.length yc))
                have Z57 := Hid.mk7 (Z53.out.set (.int .i64 b1) (.slice ya zs.length yc))
                have bb57 : Hid (RowKit.Below w20.heap.size w20 ((x53.setCell ⟨gz, 0, none⟩ (.int .i64 b1)).setCell ⟨gz, 1, none⟩ (.slice ya zs.length yc))) := below_set2 bb53.out hgz _ _
                go_wp2
                clear c0 c1 c2 fz fz2
                generalize ((x53.setCell ⟨gz, 0, none⟩ (.int .i64 b1)).setCell ⟨gz, 1, none⟩ (.slice ya zs.length yc)) = x57 at *
                refine anyNext_mk ⟨⟨_, RD21.out.later bb57.out⟩, rfl⟩ ?_
                refine anyC_pick1 12 (by kernel_rfl) (by kernel_rfl) ?_
                simp only [pickAll, pickAt, List.nil_append, List.cons_append, List.append_nil]
                go_wp2
                refine anyNext_last (anyC_done (by kernel_rfl) ?_)
                go_wp2
                go_meet
                exact ⟨gz, _, rfl, rfl, Z57, Y57, bb57⟩
              · simp only [pickAll, pickAt, List.nil_append, List.cons_append, List.append_nil]
                have c0 := Z53.out.c0
                have c1 := Z53.out.c1
                have fz := Z53.out.fz
                have c2 : (x53.setCell ⟨gz, 0, none⟩ (.int .i64 b1)).cell? ⟨gz, 1, none⟩ = some (.slice none 0 0) := (Z53.out.set0 _).c1
                have fz2 := (Z53.out.set0 (.int .i64 b1)).fz
                have Y59 := Hid.mk7 (Y53.out.set_del Z53.out (.int .i64 b1) (.slice ya zs.length yc))
                have Z59 := Hid.mk7 (Z53.out.set (.int .i64 b1) (.slice ya zs.length yc))
                have bb59 : Hid (RowKit.Below w20.heap.size w20 ((x53.setCell ⟨gz, 0, none⟩ (.int .i64 b1)).setCell ⟨gz, 1, none⟩ (.slice ya zs.length yc))) := below_set2 bb53.out hgz _ _
                go_wp2
                clear c0 c1 c2 fz fz2
                generalize ((x53.setCell ⟨gz, 0, none⟩ (.int .i64 b1)).setCell ⟨gz, 1, none⟩ (.slice ya zs.length yc)) = x59 at *
                refine anyNext_mk ⟨⟨_, RD21.out.later bb59.out⟩, rfl⟩ ?_
                refine anyC_pick1 9 (by kernel_rfl) (by kernel_rfl) ?_
                simp only [pickAll, pickAt, List.nil_append, List.cons_append, List.append_nil]
                go_wp2
                refine anyNext_mk ⟨⟨_, RD21.out.later bb59.out⟩, rfl⟩ ?_
                refine anyC_pick1 12 (by kernel_rfl) (by kernel_rfl) ?_
                simp only [pickAll, pickAt, List.nil_append, List.cons_append, List.append_nil]
                go_wp2
                refine anyNext_last (anyC_done (by kernel_rfl) ?_)
                go_wp2
                go_meet
                exact ⟨gz, _, rfl, rfl, Z59, Y59, bb59⟩
            · simp only [pickAll, pickAt, List.nil_append, List.cons_append, List.append_nil]
              go_wp2
              refine anyNext_mk ⟨⟨_, RD21.out.later bb53.out⟩, rfl⟩ ?_
              refine anyC_pick1 8 (by kernel_rfl) (by kernel_rfl) ?_
              simp only [pickAll, pickAt, List.nil_append, List.cons_append, List.append_nil]
              go_wp2
              refine anyNext_mk ⟨⟨_, RD21.out.later bb53.out⟩, rfl⟩ ?_
              refine anyC_pick1 11 (by kernel_rfl) (by kernel_rfl) ?_
              simp only [pickAll, pickAt, List.nil_append, List.cons_append, List.append_nil]
              have c0 := Z53.out.c0
              have c1 := Z53.out.c1
              have fz := Z53.out.fz
              have c2 : (x53.setCell ⟨gz, 0, none⟩ (.int .i64 b1)).cell? ⟨gz, 1, none⟩ = some (.slice none 0 0) := (Z53.out.set0 _).c1
              have fz2 := (Z53.out.set0 (.int .i64 b1)).fz
              have Y64 := Hid.mk7 (Y53.out.set_del Z53.out (.int .i64 b1) (.slice ya zs.length yc))
              have Z64 := Hid.mk7 (Z53.out.set (.int .i64 b1) (.slice ya zs.length yc))
              have bb64 : Hid (RowKit.Below w20.heap.size w20 ((x53.setCell ⟨gz, 0, none⟩ (.int .i64 b1)).setCell ⟨gz, 1, none⟩ (.slice ya zs.length yc))) := below_set2 bb53.out hgz _ _
              go_wp2
              clear c0 c1 c2 fz fz2
              generalize ((x53.setCell ⟨gz, 0, none⟩ (.int .i64 b1)).setCell ⟨gz, 1, none⟩ (.slice ya zs.length yc)) = x64 at *
              refine anyNext_mk ⟨⟨_, RD21.out.later bb64.out⟩, rfl⟩ ?_
              refine anyC_pick1 12 (by kernel_rfl) (by kernel_rfl) ?_
              simp only [pickAll, pickAt, List.nil_append, List.cons_append, List.append_nil]
              go_wp2
              refine anyNext_last (anyC_done (by kernel_rfl) ?_)
              go_wp2
              go_meet
              exact ⟨gz, _, rfl, rfl, Z64, Y64, bb64⟩
        · simp only [pickAll, pickAt, List.nil_append, List.cons_append, List.append_nil]
          have Z66 : Hid (Rd (x1.alloc (.cells #[.int .i64 0, .slice none 0 0] 24)) x1.heap.size (.int .i64 0) (.slice none 0 0)) := Rd.new _ _ _
          have bb66 : Hid (RowKit.Below w20.heap.size w20 (x1.alloc (.cells #[.int .i64 0, .slice none 0 0] 24))) := bb1.out.alloc bb1.out.size _
          have hgz := bb1.out.size
          go_wp2
          generalize (x1.alloc (.cells #[.int .i64 0, .slice none 0 0] 24)) = x66 at *
          generalize x1.heap.size = gz at *
          refine anyNext_mk ⟨⟨_, RD21.out.later bb66.out⟩, rfl⟩ ?_
          refine anyC_pick1 5 (by kernel_rfl) (by kernel_rfl) ?_
          simp only [pickAll, pickAt, List.nil_append, List.cons_append, List.append_nil]
          go_wp2_with fail
          refine (HLI.out _ _ (E21.out.later bb66.out)).mono ?_
          rintro e x67 ⟨cv, rfl, hy, bz⟩
          have Z67 := Hid.mk7 (Z66.out.later bz)
          have C67 := Hid.mk7 hy
          have bb67 : Hid (RowKit.Below w20.heap.size w20 x67) := bb66.out.trans (bz.mono bb66.out.size)
          clear bz hy
          go_wp2
          refine anyNext_mk ⟨⟨_, RD21.out.later bb67.out⟩, rfl⟩ ?_
          refine anyC_pick1 6 (by kernel_rfl) (by kernel_rfl) ?_
          simp only [pickAll, pickAt, List.nil_append, List.cons_append, List.append_nil]
          go_wp2_with fail
          refine (HTO.out _ _ C67.out).mono ?_
          rintro e x68 ⟨yv, rfl, hy, bz⟩
          obtain ⟨ya, yc, rfl, _, _, _⟩ := id hy
          have Z68 := Hid.mk7 (Z67.out.later bz)
          have C68 := Hid.mk7 (C67.out.later bz)
          have Y68 := Hid.mk7 hy
          have bb68 : Hid (RowKit.Below w20.heap.size w20 x68) := bb67.out.trans (bz.mono bb67.out.size)
          clear bz hy
          go_wp2
          refine anyNext_mk ⟨⟨_, RD21.out.later bb68.out⟩, rfl⟩ ?_
          refine anyC_pick1 7 (by kernel_rfl) (by kernel_rfl) ?_
          simp only [pickAll, pickAt, List.nil_append, List.cons_append, List.append_nil]
          go_wp2
          refine anyNext_mk ⟨⟨_, RD21.out.later bb68.out⟩, rfl⟩ ?_
          refine anyC_pick2 8 9 (by kernel_rfl) (by kernel_rfl) (by kernel_rfl) ?_ ?_
          · simp only [pickAll, pickAt, List.nil_append, List.cons_append, List.append_nil]
            go_wp2
            refine anyNext_mk ⟨⟨_, RD21.out.later bb68.out⟩, rfl⟩ ?_
            refine anyC_pick2 9 11 (by kernel_rfl) (by kernel_rfl) (by kernel_rfl) ?_ ?_
            · simp only [pickAll, pickAt, List.nil_append, List.cons_append, List.append_nil]
              go_wp2
              refine anyNext_mk ⟨⟨_, RD21.out.later bb68.out⟩, rfl⟩ ?_
              refine anyC_pick1 11 (by kernel_rfl) (by kernel_rfl) ?_
              simp only [pickAll, pickAt, List.nil_append, List.cons_append, List.append_nil]
              have c0 := Z68.out.c0
              have c1 := Z68.out.c1
              have fz := Z68.out.fz
              have c2 : (x68.setCell ⟨gz, 0, none⟩ (.int .i64 b1)).cell? ⟨gz, 1, none⟩ = some (.slice none 0 0) := (Z68.out.set0 _).c1
              have fz2 := (Z68.out.set0 (.int .i64 b1)).fz
              have Y72 := Hid.mk7 (Y68.out.set_del Z68.out (.int .i64 b1) (.slice ya zs.length yc))
              have Z72 := Hid.mk7 (Z68.out.set (.int .i64 b1) (.slice ya zs.length yc))
              have bb72 : Hid (RowKit.Below w20.heap.size w20 ((x68.setCell ⟨gz, 0, none⟩ (.int .i64 b1)).setCell ⟨gz, 1, none⟩ (.slice ya zs.length yc))) := below_set2 bb68.out hgz _ _
              go_wp2
              clear c0 c1 c2 fz fz2
              generalize ((x68.setCell ⟨gz, 0, none⟩ (.int .i64 b1)).setCell ⟨gz, 1, none⟩ (.slice ya zs.length yc)) = x72 at *
              refine anyNext_mk ⟨⟨_, RD21.out.later bb72.out⟩, rfl⟩ ?_
              refine anyC_pick1 12 (by kernel_rfl) (by kernel_rfl) ?_
              simp only [pickAll, pickAt, List.nil_append, List.cons_append, List.append_nil]
              go_wp2
              refine anyNext_last (anyC_done (by kernel_rfl) ?_)
              go_wp2
              go_meet
              exact ⟨gz, _, rfl, rfl, Z72, Y72, bb72⟩
            · simp only [pickAll, pickAt, List.nil_append, List.cons_append, List.append_nil]
              have c0 := Z68.out.c0
              have c1 := Z68.out.c1
              have fz := Z68.out.fz
              have c2 : (x68.setCell ⟨gz, 0, none⟩ (.int .i64 b1)).cell? ⟨gz, 1, none⟩ = some (.slice none 0 0) := (Z68.out.set0 _).c1
              have fz2 := (Z68.out.set0 (.int .i64 b1)).fz
              have Y74 := Hid.mk7 (Y68.out.set_del Z68.out (.int .i64 b1) (.slice ya zs.length yc))
              have Z74 := Hid.mk7 (Z68.out.set (.int .i64 b1) (.slice ya zs.length yc))
              have bb74 : Hid (RowKit.Below w20.heap.size w20 ((x68.setCell ⟨gz, 0, none⟩ (.int .i64 b1)).setCell ⟨gz, 1, none⟩ (.slice ya zs.length yc))) := below_set2 bb68.out hgz _ _
              go_wp2
              clear c0 c1 c2 fz fz2
              generalize ((x68.setCell ⟨gz, 0, none⟩ (.int .i64 b1)).setCell ⟨gz, 1, none⟩ (.slice ya zs.length yc)) = x74 at *
              refine anyNext_mk ⟨⟨_, RD21.out.later bb74.out⟩, rfl⟩ ?_
              refine anyC_pick1 9 (by kernel_rfl) (by kernel_rfl) ?_
              simp only [pickAll, pickAt, List.nil_append, List.cons_append, List.append_nil]
              go_wp2
              refine anyNext_mk ⟨⟨_, RD21.out.later bb74.out⟩, rfl⟩ ?_
              refine anyC_pick1 12 (by kernel_rfl) (by kernel_rfl) ?_
              simp only [pickAll, pickAt, List.nil_append, List.cons_append, List.append_nil]
              go_wp2
              refine anyNext_last (anyC_done (by kernel_rfl) ?_)
              go_wp2
              go_meet
              exact ⟨gz, _, rfl, rfl, Z74, Y74, bb74⟩
          · simp only [pickAll, pickAt, List.nil_append, List.cons_append, List.append_nil]
            go_wp2
            refine anyNext_mk ⟨⟨_, RD21.out.later bb68.out⟩, rfl⟩ ?_
            refine anyC_pick1 8 (by kernel_rfl) (by kernel_rfl) ?_
            simp only [pickAll, pickAt, List.nil_append, List.cons_append, List.append_nil]
            go_wp2
            refine anyNext_mk ⟨⟨_, RD21.out.later bb68.out⟩, rfl⟩ ?_
            refine anyC_pick1 11 (by kernel_rfl) (by kernel_rfl) ?_
            simp only [pickAll, pickAt, List.nil_append, List.cons_append, List.append_nil]
            have c0 := Z68.out.c0
            have c1 := Z68.out.c1
            have fz := Z68.out.fz
            have c2 : (x68.setCell ⟨gz, 0, none⟩ (.int .i64 b1)).cell? ⟨gz, 1, none⟩ = some (.slice none 0 0) := (Z68.out.set0 _).c1
            have fz2 := (Z68.out.set0 (.int .i64 b1)).fz
            have Y79 := Hid.mk7 (Y68.out.set_del Z68.out (.int .i64 b1) (.slice ya zs.length yc))
            have Z79 := Hid.mk7 (Z68.out.set (.int .i64 b1) (.slice ya zs.length yc))
            have bb79 : Hid (RowKit.Below w20.heap.size w20 ((x68.setCell ⟨gz, 0, none⟩ (.int .i64 b1)).setCell ⟨gz, 1, none⟩ (.slice ya zs.length yc))) := below_set2 bb68.out hgz _ _
            go_wp2
            clear c0 c1 c2 fz fz2
            generalize ((x68.setCell ⟨gz, 0, none⟩ (.int .i64 b1)).setCell ⟨gz, 1, none⟩ (.slice ya zs.length yc)) = x79 at *
            refine anyNext_mk ⟨⟨_, RD21.out.later bb79.out⟩, rfl⟩ ?_
            refine anyC_pick1 12 (by kernel_rfl) (by kernel_rfl) ?_
            simp only [pickAll, pickAt, List.nil_append, List.cons_append, List.append_nil]
            go_wp2
            refine anyNext_last (anyC_done (by kernel_rfl) ?_)
            go_wp2
            go_meet
            exact ⟨gz, _, rfl, rfl, Z79, Y79, bb79⟩
      · simp only [pickAll, pickAt, List.nil_append, List.cons_append, List.append_nil]
        go_wp2_with fail
        refine (HLI.out _ _ (E21.out.later bb1.out)).mono ?_
        rintro e x81 ⟨cv, rfl, hy, bz⟩
        have C81 := Hid.mk7 hy
        have bb81 : Hid (RowKit.Below w20.heap.size w20 x81) := bb1.out.trans (bz.mono bb1.out.size)
        clear bz hy
        go_wp2
        refine anyNext_mk ⟨⟨_, RD21.out.later bb81.out⟩, rfl⟩ ?_
        refine anyC_pick2 2 10 (by kernel_rfl) (by kernel_rfl) (by kernel_rfl) ?_ ?_
        · simp only [pickAll, pickAt, List.nil_append, List.cons_append, List.append_nil]
          go_wp2
          refine anyNext_mk ⟨⟨_, RD21.out.later bb81.out⟩, rfl⟩ ?_
          refine anyC_pick2 6 10 (by kernel_rfl) (by kernel_rfl) (by kernel_rfl) ?_ ?_
          · simp only [pickAll, pickAt, List.nil_append, List.cons_append, List.append_nil]
            go_wp2_with fail
            refine (HTO.out _ _ C81.out).mono ?_
            rintro e x83 ⟨yv, rfl, hy, bz⟩
            obtain ⟨ya, yc, rfl, _, _, _⟩ := id hy
            have C83 := Hid.mk7 (C81.out.later bz)
            have Y83 := Hid.mk7 hy
            have bb83 : Hid (RowKit.Below w20.heap.size w20 x83) := bb81.out.trans (bz.mono bb81.out.size)
            clear bz hy
            go_wp2
            refine anyNext_mk ⟨⟨_, RD21.out.later bb83.out⟩, rfl⟩ ?_
            refine anyC_pick2 7 10 (by kernel_rfl) (by kernel_rfl) (by kernel_rfl) ?_ ?_
            · simp only [pickAll, pickAt, List.nil_append, List.cons_append, List.append_nil]
              go_wp2
              refine anyNext_mk ⟨⟨_, RD21.out.later bb83.out⟩, rfl⟩ ?_
              refine anyC_pick3F 8 9 10 (by kernel_rfl) (by kernel_rfl) (by kernel_rfl) (by kernel_rfl) ?_ ?_ ?_
              · simp only [pickAll, pickAt, List.nil_append, List.cons_append, List.append_nil]
                go_wp2
                refine anyNext_mk ⟨⟨_, RD21.out.later bb83.out⟩, rfl⟩ ?_
                refine anyC_pick2 9 10 (by kernel_rfl) (by kernel_rfl) (by kernel_rfl) ?_ ?_
                · simp only [pickAll, pickAt, List.nil_append, List.cons_append, List.append_nil]
                  go_wp2
                  refine anyNext_mk ⟨⟨_, RD21.out.later bb83.out⟩, rfl⟩ ?_
                  refine anyC_pick1 10 (by kernel_rfl) (by kernel_rfl) ?_
                  simp only [pickAll, pickAt, List.nil_append, List.cons_append, List.append_nil]
                  have C87 := Hid.mk7 (C83.out.later (below_newE (RowKit.Below.refl _ _) (.cells #[.int .i64 0, .slice none 0 0] 24)))
                  have Y87 := Hid.mk7 (Y83.out.later (below_newE (RowKit.Below.refl _ _) (.cells #[.int .i64 0, .slice none 0 0] 24)))
                  have Z87 : Hid (Rd (x83.alloc (.cells #[.int .i64 0, .slice none 0 0] 24)) x83.heap.size (.int .i64 0) (.slice none 0 0)) := Rd.new _ _ _
                  have bb87 : Hid (RowKit.Below w20.heap.size w20 (x83.alloc (.cells #[.int .i64 0, .slice none 0 0] 24))) := bb83.out.alloc bb83.out.size _
                  have hgz := bb83.out.size
                  go_wp2
                  generalize (x83.alloc (.cells #[.int .i64 0, .slice none 0 0] 24)) = x87 at *
                  generalize x83.heap.size = gz at *
                  refine anyNext_mk ⟨⟨_, RD21.out.later bb87.out⟩, rfl⟩ ?_
                  refine anyC_pick1 11 (by kernel_rfl) (by kernel_rfl) ?_
                  simp only [pickAll, pickAt, List.nil_append, List.cons_append, List.append_nil]
                  have c0 := Z87.out.c0
                  have c1 := Z87.out.c1
                  have fz := Z87.out.fz
                  have c2 : (x87.setCell ⟨gz, 0, none⟩ (.int .i64 b1)).cell? ⟨gz, 1, none⟩ = some (.slice none 0 0) := (Z87.out.set0 _).c1
                  have fz2 := (Z87.out.set0 (.int .i64 b1)).fz
                  have Y88 := Hid.mk7 (Y87.out.set_del Z87.out (.int .i64 b1) (.slice ya zs.length yc))
                  have Z88 := Hid.mk7 (Z87.out.set (.int .i64 b1) (.slice ya zs.length yc))
                  have bb88 : Hid (RowKit.Below w20.heap.size w20 ((x87.setCell ⟨gz, 0, none⟩ (.int .i64 b1)).setCell ⟨gz, 1, none⟩ (.slice ya zs.length yc))) := below_set2 bb87.out hgz _ _
                  go_wp2
                  clear c0 c1 c2 fz fz2
                  generalize ((x87.setCell ⟨gz, 0, none⟩ (.int .i64 b1)).setCell ⟨gz, 1, none⟩ (.slice ya zs.length yc)) = x88 at *
                  refine anyNext_mk ⟨⟨_, RD21.out.later bb88.out⟩, rfl⟩ ?_
                  refine anyC_pick1 12 (by kernel_rfl) (by kernel_rfl) ?_
                  simp only [pickAll, pickAt, List.nil_append, List.cons_append, List.append_nil]
                  go_wp2
                  refine anyNext_last (anyC_done (by kernel_rfl) ?_)
                  go_wp2
                  go_meet
                  exact ⟨gz, _, rfl, rfl, Z88, Y88, bb88⟩
                · simp only [pickAll, pickAt, List.nil_append, List.cons_append, List.append_nil]
                  have C90 := Hid.mk7 (C83.out.later (below_newE (RowKit.Below.refl _ _) (.cells #[.int .i64 0, .slice none 0 0] 24)))
                  have Y90 := Hid.mk7 (Y83.out.later (below_newE (RowKit.Below.refl _ _) (.cells #[.int .i64 0, .slice none 0 0] 24)))
                  have Z90 : Hid (Rd (x83.alloc (.cells #[.int .i64 0, .slice none 0 0] 24)) x83.heap.size (.int .i64 0) (.slice none 0 0)) := Rd.new _ _ _
                  have bb90 : Hid (RowKit.Below w20.heap.size w20 (x83.alloc (.cells #[.int .i64 0, .slice none 0 0] 24))) := bb83.out.alloc bb83.out.size _
                  have hgz := bb83.out.size
                  go_wp2
                  generalize (x83.alloc (.cells #[.int .i64 0, .slice none 0 0] 24)) = x90 at *
                  generalize x83.heap.size = gz at *
                  refine anyNext_mk ⟨⟨_, RD21.out.later bb90.out⟩, rfl⟩ ?_
                  refine anyC_pick2 9 11 (by kernel_rfl) (by kernel_rfl) (by kernel_rfl) ?_ ?_
                  · simp only [pickAll, pickAt, List.nil_append, List.cons_append, List.append_nil]
                    go_wp2
                    refine anyNext_mk ⟨⟨_, RD21.out.later bb90.out⟩, rfl⟩ ?_
                    refine anyC_pick1 11 (by kernel_rfl) (by kernel_rfl) ?_
                    simp only [pickAll, pickAt, List.nil_append, List.cons_append, List.append_nil]
                    have c0 := Z90.out.c0
                    have c1 := Z90.out.c1
                    have fz := Z90.out.fz
                    have c2 : (x90.setCell ⟨gz, 0, none⟩ (.int .i64 b1)).cell? ⟨gz, 1, none⟩ = some (.slice none 0 0) := (Z90.out.set0 _).c1
                    have fz2 := (Z90.out.set0 (.int .i64 b1)).fz
                    have Y92 := Hid.mk7 (Y90.out.set_del Z90.out (.int .i64 b1) (.slice ya zs.length yc))
                    have Z92 := Hid.mk7 (Z90.out.set (.int .i64 b1) (.slice ya zs.length yc))
                    have bb92 : Hid (RowKit.Below w20.heap.size w20 ((x90.setCell ⟨gz, 0, none⟩ (.int .i64 b1)).setCell ⟨gz, 1, none⟩ (.slice ya zs.length yc))) := below_set2 bb90.out hgz _ _
                    go_wp2
                    clear c0 c1 c2 fz fz2
                    generalize ((x90.setCell ⟨gz, 0, none⟩ (.int .i64 b1)).setCell ⟨gz, 1, none⟩ (.slice ya zs.length yc)) = x92 at *
                    refine anyNext_mk ⟨⟨_, RD21.out.later bb92.out⟩, rfl⟩ ?_
                    refine anyC_pick1 12 (by kernel_rfl) (by kernel_rfl) ?_
                    simp only [pickAll, pickAt, List.nil_append, List.cons_append, List.append_nil]
                    go_wp2
                    refine anyNext_last (anyC_done (by kernel_rfl) ?_)
                    go_wp2
                    go_meet
                    exact ⟨gz, _, rfl, rfl, Z92, Y92, bb92⟩
                  · simp only [pickAll, pickAt, List.nil_append, List.cons_append, List.append_nil]
                    have c0 := Z90.out.c0
                    have c1 := Z90.out.c1
                    have fz := Z90.out.fz
                    have c2 : (x90.setCell ⟨gz, 0, none⟩ (.int .i64 b1)).cell? ⟨gz, 1, none⟩ = some (.slice none 0 0) := (Z90.out.set0 _).c1
                    have fz2 := (Z90.out.set0 (.int .i64 b1)).fz
                    have Y94 := Hid.mk7 (Y90.out.set_del Z90.out (.int .i64 b1) (.slice ya zs.length yc))
                    have Z94 := Hid.mk7 (Z90.out.set (.int .i64 b1) (.slice ya zs.length yc))
                    have bb94 : Hid (RowKit.Below w20.heap.size w20 ((x90.setCell ⟨gz, 0, none⟩ (.int .i64 b1)).setCell ⟨gz, 1, none⟩ (.slice ya zs.length yc))) := below_set2 bb90.out hgz _ _
                    go_wp2
                    clear c0 c1 c2 fz fz2
                    generalize ((x90.setCell ⟨gz, 0, none⟩ (.int .i64 b1)).setCell ⟨gz, 1, none⟩ (.slice ya zs.length yc)) = x94 at *
                    refine anyNext_mk ⟨⟨_, RD21.out.later bb94.out⟩, rfl⟩ ?_
                    refine anyC_pick1 9 (by kernel_rfl) (by kernel_rfl) ?_
                    simp only [pickAll, pickAt, List.nil_append, List.cons_append, List.append_nil]
                    go_wp2
                    refine anyNext_mk ⟨⟨_, RD21.out.later bb94.out⟩, rfl⟩ ?_
                    refine anyC_pick1 12 (by kernel_rfl) (by kernel_rfl) ?_
                    simp only [pickAll, pickAt, List.nil_append, List.cons_append, List.append_nil]
                    go_wp2
                    refine anyNext_last (anyC_done (by kernel_rfl) ?_)
                    go_wp2
                    go_meet
                    exact ⟨gz, _, rfl, rfl, Z94, Y94, bb94⟩
              · simp only [pickAll, pickAt, List.nil_append, List.cons_append, List.append_nil]
                go_wp2
                refine anyNext_mk ⟨⟨_, RD21.out.later bb83.out⟩, rfl⟩ ?_
                refine anyC_pick2 8 10 (by kernel_rfl) (by kernel_rfl) (by kernel_rfl) ?_ ?_
                · simp only [pickAll, pickAt, List.nil_append, List.cons_append, List.append_nil]
                  go_wp2
                  refine anyNext_mk ⟨⟨_, RD21.out.later bb83.out⟩, rfl⟩ ?_
                  refine anyC_pick1 10 (by kernel_rfl) (by kernel_rfl) ?_
                  simp only [pickAll, pickAt, List.nil_append, List.cons_append, List.append_nil]
                  have C99 := Hid.mk7 (C83.out.later (below_newE (RowKit.Below.refl _ _) (.cells #[.int .i64 0, .slice none 0 0] 24)))
                  have Y99 := Hid.mk7 (Y83.out.later (below_newE (RowKit.Below.refl _ _) (.cells #[.int .i64 0, .slice none 0 0] 24)))
                  have Z99 : Hid (Rd (x83.alloc (.cells #[.int .i64 0, .slice none 0 0] 24)) x83.heap.size (.int .i64 0) (.slice none 0 0)) := Rd.new _ _ _
                  have bb99 : Hid (RowKit.Below w20.heap.size w20 (x83.alloc (.cells #[.int .i64 0, .slice none 0 0] 24))) := bb83.out.alloc bb83.out.size _
                  have hgz := bb83.out.size
                  go_wp2
                  generalize (x83.alloc (.cells #[.int .i64 0, .slice none 0 0] 24)) = x99 at *
                  generalize x83.heap.size = gz at *
                  refine anyNext_mk ⟨⟨_, RD21.out.later bb99.out⟩, rfl⟩ ?_
                  refine anyC_pick1 11 (by kernel_rfl) (by kernel_rfl) ?_
                  simp only [pickAll, pickAt, List.nil_append, List.cons_append, List.append_nil]
                  have c0 := Z99.out.c0
                  have c1 := Z99.out.c1
                  have fz := Z99.out.fz
                  have c2 : (x99.setCell ⟨gz, 0, none⟩ (.int .i64 b1)).cell? ⟨gz, 1, none⟩ = some (.slice none 0 0) := (Z99.out.set0 _).c1
                  have fz2 := (Z99.out.set0 (.int .i64 b1)).fz
                  have Y100 := Hid.mk7 (Y99.out.set_del Z99.out (.int .i64 b1) (.slice ya zs.length yc))
                  have Z100 := Hid.mk7 (Z99.out.set (.int .i64 b1) (.slice ya zs.length yc))
                  have bb100 : Hid (RowKit.Below w20.heap.size w20 ((x99.setCell ⟨gz, 0, none⟩ (.int .i64 b1)).setCell ⟨gz, 1, none⟩ (.slice ya zs.length yc))) := below_set2 bb99.out hgz _ _
                  go_wp2
                  clear c0 c1 c2 fz fz2
                  generalize ((x99.setCell ⟨gz, 0, none⟩ (.int .i64 b1)).setCell ⟨gz, 1, none⟩ (.slice ya zs.length yc)) = x100 at *
                  refine anyNext_mk ⟨⟨_, RD21.out.later bb100.out⟩, rfl⟩ ?_
                  refine anyC_pick1 12 (by kernel_rfl) (by kernel_rfl) ?_
                  simp only [pickAll, pickAt, List.nil_append, List.cons_append, List.append_nil]
                  go_wp2
                  refine anyNext_last (anyC_done (by kernel_rfl) ?_)
                  go_wp2
                  go_meet
                  exact ⟨gz, _, rfl, rfl, Z100, Y100, bb100⟩
                · simp only [pickAll, pickAt, List.nil_append, List.cons_append, List.append_nil]
                  have C102 := Hid.mk7 (C83.out.later (below_newE (RowKit.Below.refl _ _) (.cells #[.int .i64 0, .slice none 0 0] 24)))
                  have Y102 := Hid.mk7 (Y83.out.later (below_newE (RowKit.Below.refl _ _) (.cells #[.int .i64 0, .slice none 0 0] 24)))
                  have Z102 : Hid (Rd (x83.alloc (.cells #[.int .i64 0, .slice none 0 0] 24)) x83.heap.size (.int .i64 0) (.slice none 0 0)) := Rd.new _ _ _
                  have bb102 : Hid (RowKit.Below w20.heap.size w20 (x83.alloc (.cells #[.int .i64 0, .slice none 0 0] 24))) := bb83.out.alloc bb83.out.size _
                  have hgz := bb83.out.size
                  go_wp2
                  generalize (x83.alloc (.cells #[.int .i64 0, .slice none 0 0] 24)) = x102 at *
                  generalize x83.heap.size = gz at *
                  refine anyNext_mk ⟨⟨_, RD21.out.later bb102.out⟩, rfl⟩ ?_
                  refine anyC_pick1 8 (by kernel_rfl) (by kernel_rfl) ?_
                  simp only [pickAll, pickAt, List.nil_append, List.cons_append, List.append_nil]
                  go_wp2
                  refine anyNext_mk ⟨⟨_, RD21.out.later bb102.out⟩, rfl⟩ ?_
                  refine anyC_pick1 11 (by kernel_rfl) (by kernel_rfl) ?_
                  simp only [pickAll, pickAt, List.nil_append, List.cons_append, List.append_nil]
                  have c0 := Z102.out.c0
                  have c1 := Z102.out.c1
                  have fz := Z102.out.fz
                  have c2 : (x102.setCell ⟨gz, 0, none⟩ (.int .i64 b1)).cell? ⟨gz, 1, none⟩ = some (.slice none 0 0) := (Z102.out.set0 _).c1
                  have fz2 := (Z102.out.set0 (.int .i64 b1)).fz
                  have Y104 := Hid.mk7 (Y102.out.set_del Z102.out (.int .i64 b1) (.slice ya zs.length yc))
                  have Z104 := Hid.mk7 (Z102.out.set (.int .i64 b1) (.slice ya zs.length yc))
                  have bb104 : Hid (RowKit.Below w20.heap.size w20 ((x102.setCell ⟨gz, 0, none⟩ (.int .i64 b1)).setCell ⟨gz, 1, none⟩ (.slice ya zs.length yc))) := below_set2 bb102.out hgz _ _
                  go_wp2
                  clear c0 c1 c2 fz fz2
                  generalize ((x102.setCell ⟨gz, 0, none⟩ (.int .i64 b1)).setCell ⟨gz, 1, none⟩ (.slice ya zs.length yc)) = x104 at *
                  refine anyNext_mk ⟨⟨_, RD21.out.later bb104.out⟩, rfl⟩ ?_
                  refine anyC_pick1 12 (by kernel_rfl) (by kernel_rfl) ?_
                  simp only [pickAll, pickAt, List.nil_append, List.cons_append, List.append_nil]
                  go_wp2
                  refine anyNext_last (anyC_done (by kernel_rfl) ?_)
                  go_wp2
                  go_meet
                  exact ⟨gz, _, rfl, rfl, Z104, Y104, bb104⟩
              · simp only [pickAll, pickAt, List.nil_append, List.cons_append, List.append_nil]
                have C106 := Hid.mk7 (C83.out.later (below_newE (RowKit.Below.refl _ _) (.cells #[.int .i64 0, .slice none 0 0] 24)))
                have Y106 := Hid.mk7 (Y83.out.later (below_newE (RowKit.Below.refl _ _) (.cells #[.int .i64 0, .slice none 0 0] 24)))
                have Z106 : Hid (Rd (x83.alloc (.cells #[.int .i64 0, .slice none 0 0] 24)) x83.heap.size (.int .i64 0) (.slice none 0 0)) := Rd.new _ _ _
                have bb106 : Hid (RowKit.Below w20.heap.size w20 (x83.alloc (.cells #[.int .i64 0, .slice none 0 0] 24))) := bb83.out.alloc bb83.out.size _
                have hgz := bb83.out.size
                go_wp2
                generalize (x83.alloc (.cells #[.int .i64 0, .slice none 0 0] 24)) = x106 at *
                generalize x83.heap.size = gz at *
                refine anyNext_mk ⟨⟨_, RD21.out.later bb106.out⟩, rfl⟩ ?_
                refine anyC_pick2 8 9 (by kernel_rfl) (by kernel_rfl) (by kernel_rfl) ?_ ?_
                · simp only [pickAll, pickAt, List.nil_append, List.cons_append, List.append_nil]
                  go_wp2
                  refine anyNext_mk ⟨⟨_, RD21.out.later bb106.out⟩, rfl⟩ ?_
                  refine anyC_pick2 9 11 (by kernel_rfl) (by kernel_rfl) (by kernel_rfl) ?_ ?_
                  · simp only [pickAll, pickAt, List.nil_append, List.cons_append, List.append_nil]
                    go_wp2
                    refine anyNext_mk ⟨⟨_, RD21.out.later bb106.out⟩, rfl⟩ ?_
                    refine anyC_pick1 11 (by kernel_rfl) (by kernel_rfl) ?_
                    simp only [pickAll, pickAt, List.nil_append, List.cons_append, List.append_nil]
                    have c0 := Z106.out.c0
                    have c1 := Z106.out.c1
                    have fz := Z106.out.fz
                    have c2 : (x106.setCell ⟨gz, 0, none⟩ (.int .i64 b1)).cell? ⟨gz, 1, none⟩ = some (.slice none 0 0) := (Z106.out.set0 _).c1
                    have fz2 := (Z106.out.set0 (.int .i64 b1)).fz
                    have Y109 := Hid.mk7 (Y106.out.set_del Z106.out (.int .i64 b1) (.slice ya zs.length yc))
                    have Z109 := Hid.mk7 (Z106.out.set (.int .i64 b1) (.slice ya zs.length yc))
                    have bb109 : Hid (RowKit.Below w20.heap.size w20 ((x106.setCell ⟨gz, 0, none⟩ (.int .i64 b1)).setCell ⟨gz, 1, none⟩ (.slice ya zs.length yc))) := below_set2 bb106.out hgz _ _
                    go_wp2
                    clear c0 c1 c2 fz fz2
                    generalize ((x106.setCell ⟨gz, 0, none⟩ (.int .i64 b1)).setCell ⟨gz, 1, none⟩ (.slice ya zs.length yc)) = x109 at *
                    refine anyNext_mk ⟨⟨_, RD21.out.later bb109.out⟩, rfl⟩ ?_
                    refine anyC_pick1 12 (by kernel_rfl) (by kernel_rfl) ?_
                    simp only [pickAll, pickAt, List.nil_append, List.cons_append, List.append_nil]
                    go_wp2
                    refine anyNext_last (anyC_done (by kernel_rfl) ?_)
                    go_wp2
                    go_meet
                    exact ⟨gz, _, rfl, rfl, Z109, Y109, bb109⟩
                  · simp only [pickAll, pickAt, List.nil_append, List.cons_append, List.append_nil]
                    have c0 := Z106.out.c0
                    have c1 := Z106.out.c1
                    have fz := Z106.out.fz
                    have c2 : (x106.setCell ⟨gz, 0, none⟩ (.int .i64 b1)).cell? ⟨gz, 1, none⟩ = some (.slice none 0 0) := (Z106.out.set0 _).c1
                    have fz2 := (Z106.out.set0 (.int .i64 b1)).fz
                    have Y111 := Hid.mk7 (Y106.out.set_del Z106.out (.int .i64 b1) (.slice ya zs.length yc))
                    have Z111 := Hid.mk7 (Z106.out.set (.int .i64 b1) (.slice ya zs.length yc))
                    have bb111 : Hid (RowKit.Below w20.heap.size w20 ((x106.setCell ⟨gz, 0, none⟩ (.int .i64 b1)).setCell ⟨gz, 1, none⟩ (.slice ya zs.length yc))) := below_set2 bb106.out hgz _ _
                    go_wp2
                    clear c0 c1 c2 fz fz2
                    generalize ((x106.setCell ⟨gz, 0, none⟩ (.int .i64 b1)).setCell ⟨gz, 1, none⟩ (.slice ya zs.length yc)) = x111 at *
                    refine anyNext_mk ⟨⟨_, RD21.out.later bb111.out⟩, rfl⟩ ?_
                    refine anyC_pick1 9 (by kernel_rfl) (by kernel_rfl) ?_
                    simp only [pickAll, pickAt, List.nil_append, List.cons_append, List.append_nil]
                    go_wp2
                    refine anyNext_mk ⟨⟨_, RD21.out.later bb111.out⟩, rfl⟩ ?_
                    refine anyC_pick1 12 (by kernel_rfl) (by kernel_rfl) ?_
                    simp only [pickAll, pickAt, List.nil_append, List.cons_append, List.append_nil]
                    go_wp2
                    refine anyNext_last (anyC_done (by kernel_rfl) ?_)
                    go_wp2
                    go_meet
                    exact ⟨gz, _, rfl, rfl, Z111, Y111, bb111⟩
                · simp only [pickAll, pickAt, List.nil_append, List.cons_append, List.append_nil]
                  go_wp2
                  refine anyNext_mk ⟨⟨_, RD21.out.later bb106.out⟩, rfl⟩ ?_
                  refine anyC_pick1 8 (by kernel_rfl) (by kernel_rfl) ?_
                  simp only [pickAll, pickAt, List.nil_append, List.cons_append, List.append_nil]
                  go_wp2
                  refine anyNext_mk ⟨⟨_, RD21.out.later bb106.out⟩, rfl⟩ ?_
                  refine anyC_pick1 11 (by kernel_rfl) (by kernel_rfl) ?_
                  simp only [pickAll, pickAt, List.nil_append, List.cons_append, List.append_nil]
                  have c0 := Z106.out.c0
                  have c1 := Z106.out.c1
                  have fz := Z106.out.fz
                  have c2 : (x106.setCell ⟨gz, 0, none⟩ (.int .i64 b1)).cell? ⟨gz, 1, none⟩ = some (.slice none 0 0) := (Z106.out.set0 _).c1
                  have fz2 := (Z106.out.set0 (.int .i64 b1)).fz
                  have Y116 := Hid.mk7 (Y106.out.set_del Z106.out (.int .i64 b1) (.slice ya zs.length yc))
                  have Z116 := Hid.mk7 (Z106.out.set (.int .i64 b1) (.slice ya zs.length yc))
                  have bb116 : Hid (RowKit.Below w20.heap.size w20 ((x106.setCell ⟨gz, 0, none⟩ (.int .i64 b1)).setCell ⟨gz, 1, none⟩ (.slice ya zs.length yc))) := below_set2 bb106.out hgz _ _
                  go_wp2
                  clear c0 c1 c2 fz fz2
                  generalize ((x106.setCell ⟨gz, 0, none⟩ (.int .i64 b1)).setCell ⟨gz, 1, none⟩ (.slice ya zs.length yc)) = x116 at *
                  refine anyNext_mk ⟨⟨_, RD21.out.later bb116.out⟩, rfl⟩ ?_
                  refine anyC_pick1 12 (by kernel_rfl) (by kernel_rfl) ?_
                  simp only [pickAll, pickAt, List.nil_append, List.cons_append, List.append_nil]
                  go_wp2
                  refine anyNext_last (anyC_done (by kernel_rfl) ?_)
                  go_wp2
                  go_meet
                  exact ⟨gz, _, rfl, rfl, Z116, Y116, bb116⟩
            · simp only [pickAll, pickAt, List.nil_append, List.cons_append, List.append_nil]
              have C118 := Hid.mk7 (C83.out.later (below_newE (RowKit.Below.refl _ _) (.cells #[.int .i64 0, .slice none 0 0] 24)))
              have Y118 := Hid.mk7 (Y83.out.later (below_newE (RowKit.Below.refl _ _) (.cells #[.int .i64 0, .slice none 0 0] 24)))
              have Z118 : Hid (Rd (x83.alloc (.cells #[.int .i64 0, .slice none 0 0] 24)) x83.heap.size (.int .i64 0) (.slice none 0 0)) := Rd.new _ _ _
              have bb118 : Hid (RowKit.Below w20.heap.size w20 (x83.alloc (.cells #[.int .i64 0, .slice none 0 0] 24))) := bb83.out.alloc bb83.out.size _
              have hgz := bb83.out.size
              go_wp2
              generalize (x83.alloc (.cells #[.int .i64 0, .slice none 0 0] 24)) = x118 at *
              generalize x83.heap.size = gz at *
              refine anyNext_mk ⟨⟨_, RD21.out.later bb118.out⟩, rfl⟩ ?_
              refine anyC_pick1 7 (by kernel_rfl) (by kernel_rfl) ?_
              simp only [pickAll, pickAt, List.nil_append, List.cons_append, List.append_nil]
              go_wp2
              refine anyNext_mk ⟨⟨_, RD21.out.later bb118.out⟩, rfl⟩ ?_
              refine anyC_pick2 8 9 (by kernel_rfl) (by kernel_rfl) (by kernel_rfl) ?_ ?_
              · simp only [pickAll, pickAt, List.nil_append, List.cons_append, List.append_nil]
                go_wp2
                refine anyNext_mk ⟨⟨_, RD21.out.later bb118.out⟩, rfl⟩ ?_
                refine anyC_pick2 9 11 (by kernel_rfl) (by kernel_rfl) (by kernel_rfl) ?_ ?_
                · simp only [pickAll, pickAt, List.nil_append, List.cons_append, List.append_nil]
                  go_wp2
                  refine anyNext_mk ⟨⟨_, RD21.out.later bb118.out⟩, rfl⟩ ?_
                  refine anyC_pick1 11 (by kernel_rfl) (by kernel_rfl) ?_
                  simp only [pickAll, pickAt, List.nil_append, List.cons_append, List.append_nil]
                  have c0 := Z118.out.c0
                  have c1 := Z118.out.c1
                  have fz := Z118.out.fz
                  have c2 : (x118.setCell ⟨gz, 0, none⟩ (.int .i64 b1)).cell? ⟨gz, 1, none⟩ = some (.slice none 0 0) := (Z118.out.set0 _).c1
                  have fz2 := (Z118.out.set0 (.int .i64 b1)).fz
                  have Y122 := Hid.mk7 (Y118.out.set_del Z118.out (.int .i64 b1) (.slice ya zs.length yc))
                  have Z122 := Hid.mk7 (Z118.out.set (.int .i64 b1) (.slice ya zs.length yc))
                  have bb122 : Hid (RowKit.Below w20.heap.size w20 ((x118.setCell ⟨gz, 0, none⟩ (.int .i64 b1)).setCell ⟨gz, 1, none⟩ (.slice ya zs.length yc))) := below_set2 bb118.out hgz _ _
                  go_wp2
                  clear c0 c1 c2 fz fz2
                  generalize ((x118.setCell ⟨gz, 0, none⟩ (.int .i64 b1)).setCell ⟨gz, 1, none⟩ (.slice ya zs.length yc)) = x122 at *
                  refine anyNext_mk ⟨⟨_, RD21.out.later bb122.out⟩, rfl⟩ ?_
                  refine anyC_pick1 12 (by kernel_rfl) (by kernel_rfl) ?_
                  simp only [pickAll, pickAt, List.nil_append, List.cons_append, List.append_nil]
                  go_wp2
                  refine anyNext_last (anyC_done (by kernel_rfl) ?_)
                  go_wp2
                  go_meet
                  exact ⟨gz, _, rfl, rfl, Z122, Y122, bb122⟩
                · simp only [pickAll, pickAt, List.nil_append, List.cons_append, List.append_nil]
                  have c0 := Z118.out.c0
                  have c1 := Z118.out.c1
                  have fz := Z118.out.fz
                  have c2 : (x118.setCell ⟨gz, 0, none⟩ (.int .i64 b1)).cell? ⟨gz, 1, none⟩ = some (.slice none 0 0) := (Z118.out.set0 _).c1
                  have fz2 := (Z118.out.set0 (.int .i64 b1)).fz
                  have Y124 := Hid.mk7 (Y118.out.set_del Z118.out (.int .i64 b1) (.slice ya zs.length yc))
                  have Z124 := Hid.mk7 (Z118.out.set (.int .i64 b1) (.slice ya zs.length yc))
                  have bb124 : Hid (RowKit.Below w20.heap.size w20 ((x118.setCell ⟨gz, 0, none⟩ (.int .i64 b1)).setCell ⟨gz, 1, none⟩ (.slice ya zs.length yc))) := below_set2 bb118.out hgz _ _
                  go_wp2
                  clear c0 c1 c2 fz fz2
                  generalize ((x118.setCell ⟨gz, 0, none⟩ (.int .i64 b1)).setCell ⟨gz, 1, none⟩ (.slice ya zs.length yc)) = x124 at *
                  refine anyNext_mk ⟨⟨_, RD21.out.later bb124.out⟩, rfl⟩ ?_
                  refine anyC_pick1 9 (by kernel_rfl) (by kernel_rfl) ?_
                  simp only [pickAll, pickAt, List.nil_append, List.cons_append, List.append_nil]
                  go_wp2
                  refine anyNext_mk ⟨⟨_, RD21.out.later bb124.out⟩, rfl⟩ ?_
                  refine anyC_pick1 12 (by kernel_rfl) (by kernel_rfl) ?_
                  simp only [pickAll, pickAt, List.nil_append, List.cons_append, List.append_nil]
                  go_wp2
                  refine anyNext_last (anyC_done (by kernel_rfl) ?_)
                  go_wp2
                  go_meet
                  exact ⟨gz, _, rfl, rfl, Z124, Y124, bb124⟩
              · simp only [pickAll, pickAt, List.nil_append, List.cons_append, List.append_nil]
                go_wp2
                refine anyNext_mk ⟨⟨_, RD21.out.later bb118.out⟩, rfl⟩ ?_
                refine anyC_pick1 8 (by kernel_rfl) (by kernel_rfl) ?_
                simp only [pickAll, pickAt, List.nil_append, List.cons_append, List.append_nil]
                go_wp2
                refine anyNext_mk ⟨⟨_, RD21.out.later bb118.out⟩, rfl⟩ ?_
                refine anyC_pick1 11 (by kernel_rfl) (by kernel_rfl) ?_
                simp only [pickAll, pickAt, List.nil_append, List.cons_append, List.append_nil]
                have c0 := Z118.out.c0
                have c1 := Z118.out.c1
                have fz := Z118.out.fz
                have c2 : (x118.setCell ⟨gz, 0, none⟩ (.int .i64 b1)).cell? ⟨gz, 1, none⟩ = some (.slice none 0 0) := (Z118.out.set0 _).c1
                have fz2 := (Z118.out.set0 (.int .i64 b1)).fz
                have Y129 := Hid.mk7 (Y118.out.set_del Z118.out (.int .i64 b1) (.slice ya zs.length yc))
                have Z129 := Hid.mk7 (Z118.out.set (.int .i64 b1) (.slice ya zs.length yc))
                have bb129 : Hid (RowKit.Below w20.heap.size w20 ((x118.setCell ⟨gz, 0, none⟩ (.int .i64 b1)).setCell ⟨gz, 1, none⟩ (.slice ya zs.length yc))) := below_set2 bb118.out hgz _ _
                go_wp2
                clear c0 c1 c2 fz fz2
                generalize ((x118.setCell ⟨gz, 0, none⟩ (.int .i64 b1)).setCell ⟨gz, 1, none⟩ (.slice ya zs.length yc)) = x129 at *
                refine anyNext_mk ⟨⟨_, RD21.out.later bb129.out⟩, rfl⟩ ?_
                refine anyC_pick1 12 (by kernel_rfl) (by kernel_rfl) ?_
                simp only [pickAll, pickAt, List.nil_append, List.cons_append, List.append_nil]
                go_wp2
                refine anyNext_last (anyC_done (by kernel_rfl) ?_)
                go_wp2
                go_meet
                exact ⟨gz, _, rfl, rfl, Z129, Y129, bb129⟩
          · simp only [pickAll, pickAt, List.nil_append, List.cons_append, List.append_nil]
            have C131 := Hid.mk7 (C81.out.later (below_newE (RowKit.Below.refl _ _) (.cells #[.int .i64 0, .slice none 0 0] 24)))
            have Z131 : Hid (Rd (x81.alloc (.cells #[.int .i64 0, .slice none 0 0] 24)) x81.heap.size (.int .i64 0) (.slice none 0 0)) := Rd.new _ _ _
            have bb131 : Hid (RowKit.Below w20.heap.size w20 (x81.alloc (.cells #[.int .i64 0, .slice none 0 0] 24))) := bb81.out.alloc bb81.out.size _
            have hgz := bb81.out.size
            go_wp2
            generalize (x81.alloc (.cells #[.int .i64 0, .slice none 0 0] 24)) = x131 at *
            generalize x81.heap.size = gz at *
            refine anyNext_mk ⟨⟨_, RD21.out.later bb131.out⟩, rfl⟩ ?_
            refine anyC_pick1 6 (by kernel_rfl) (by kernel_rfl) ?_
            simp only [pickAll, pickAt, List.nil_append, List.cons_append, List.append_nil]
            go_wp2_with fail
            refine (HTO.out _ _ C131.out).mono ?_
            rintro e x132 ⟨yv, rfl, hy, bz⟩
            obtain ⟨ya, yc, rfl, _, _, _⟩ := id hy
            have C132 := Hid.mk7 (C131.out.later bz)
            have Z132 := Hid.mk7 (Z131.out.later bz)
            have Y132 := Hid.mk7 hy
            have bb132 : Hid (RowKit.Below w20.heap.size w20 x132) := bb131.out.trans (bz.mono bb131.out.size)
            clear bz hy
            go_wp2
            refine anyNext_mk ⟨⟨_, RD21.out.later bb132.out⟩, rfl⟩ ?_
            refine anyC_pick1 7 (by kernel_rfl) (by kernel_rfl) ?_
            simp only [pickAll, pickAt, List.nil_append, List.cons_append, List.append_nil]
            go_wp2
            refine anyNext_mk ⟨⟨_, RD21.out.later bb132.out⟩, rfl⟩ ?_
            refine anyC_pick2 8 9 (by kernel_rfl) (by kernel_rfl) (by kernel_rfl) ?_ ?_
            · simp only [pickAll, pickAt, List.nil_append, List.cons_append, List.append_nil]
              go_wp2
              refine anyNext_mk ⟨⟨_, RD21.out.later bb132.out⟩, rfl⟩ ?_
              refine anyC_pick2 9 11 (by kernel_rfl) (by kernel_rfl) (by kernel_rfl) ?_ ?_
              · simp only [pickAll, pickAt, List.nil_append, List.cons_append, List.append_nil]
                go_wp2
                refine anyNext_mk ⟨⟨_, RD21.out.later bb132.out⟩, rfl⟩ ?_
                refine anyC_pick1 11 (by kernel_rfl) (by kernel_rfl) ?_
                simp only [pickAll, pickAt, List.nil_append, List.cons_append, List.append_nil]
                have c0 := Z132.out.c0
                have c1 := Z132.out.c1
                have fz := Z132.out.fz
                have c2 : (x132.setCell ⟨gz, 0, none⟩ (.int .i64 b1)).cell? ⟨gz, 1, none⟩ = some (.slice none 0 0) := (Z132.out.set0 _).c1
                have fz2 := (Z132.out.set0 (.int .i64 b1)).fz
                have Y136 := Hid.mk7 (Y132.out.set_del Z132.out (.int .i64 b1) (.slice ya zs.length yc))
                have Z136 := Hid.mk7 (Z132.out.set (.int .i64 b1) (.slice ya zs.length yc))
                have bb136 : Hid (RowKit.Below w20.heap.size w20 ((x132.setCell ⟨gz, 0, none⟩ (.int .i64 b1)).setCell ⟨gz, 1, none⟩ (.slice ya zs.length yc))) := below_set2 bb132.out hgz _ _
                go_wp2
                clear c0 c1 c2 fz fz2
                generalize ((x132.setCell ⟨gz, 0, none⟩ (.int .i64 b1)).setCell ⟨gz, 1, none⟩ (.slice ya zs.length yc)) = x136 at *
                refine anyNext_mk ⟨⟨_, RD21.out.later bb136.out⟩, rfl⟩ ?_
                refine anyC_pick1 12 (by kernel_rfl) (by kernel_rfl) ?_
                simp only [pickAll, pickAt, List.nil_append, List.cons_append, List.append_nil]
                go_wp2
                refine anyNext_last (anyC_done (by kernel_rfl) ?_)
                go_wp2
                go_meet
                exact ⟨gz, _, rfl, rfl, Z136, Y136, bb136⟩
              · simp only [pickAll, pickAt, List.nil_append, List.cons_append, List.append_nil]
                have c0 := Z132.out.c0
                have c1 := Z132.out.c1
                have fz := Z132.out.fz
                have c2 : (x132.setCell ⟨gz, 0, none⟩ (.int .i64 b1)).cell? ⟨gz, 1, none⟩ = some (.slice none 0 0) := (Z132.out.set0 _).c1
                have fz2 := (Z132.out.set0 (.int .i64 b1)).fz
                have Y138 := Hid.mk7 (Y132.out.set_del Z132.out (.int .i64 b1) (.slice ya zs.length yc))
                have Z138 := Hid.mk7 (Z132.out.set (.int .i64 b1) (.slice ya zs.length yc))
                have bb138 : Hid (RowKit.Below w20.heap.size w20 ((x132.setCell ⟨gz, 0, none⟩ (.int .i64 b1)).setCell ⟨gz, 1, none⟩ (.slice ya zs.length yc))) := below_set2 bb132.out hgz _ _
                go_wp2
                clear c0 c1 c2 fz fz2
                generalize ((x132.setCell ⟨gz, 0, none⟩ (.int .i64 b1)).setCell ⟨gz, 1, none⟩ (.slice ya zs.length yc)) = x138 at *
                refine anyNext_mk ⟨⟨_, RD21.out.later bb138.out⟩, rfl⟩ ?_
                refine anyC_pick1 9 (by kernel_rfl) (by kernel_rfl) ?_
                simp only [pickAll, pickAt, List.nil_append, List.cons_append, List.append_nil]
                go_wp2
                refine anyNext_mk ⟨⟨_, RD21.out.later bb138.out⟩, rfl⟩ ?_
                refine anyC_pick1 12 (by kernel_rfl) (by kernel_rfl) ?_
                simp only [pickAll, pickAt, List.nil_append, List.cons_append, List.append_nil]
                go_wp2
                refine anyNext_last (anyC_done (by kernel_rfl) ?_)
                go_wp2
                go_meet
                exact ⟨gz, _, rfl, rfl, Z138, Y138, bb138⟩
            · simp only [pickAll, pickAt, List.nil_append, List.cons_append, List.append_nil]
              go_wp2
              refine anyNext_mk ⟨⟨_, RD21.out.later bb132.out⟩, rfl⟩ ?_
              refine anyC_pick1 8 (by kernel_rfl) (by kernel_rfl) ?_
              simp only [pickAll, pickAt, List.nil_append, List.cons_append, List.append_nil]
              go_wp2
              refine anyNext_mk ⟨⟨_, RD21.out.later bb132.out⟩, rfl⟩ ?_
              refine anyC_pick1 11 (by kernel_rfl) (by kernel_rfl) ?_
              simp only [pickAll, pickAt, List.nil_append, List.cons_append, List.append_nil]
              have c0 := Z132.out.c0
              have c1 := Z132.out.c1
              have fz := Z132.out.fz
              have c2 : (x132.setCell ⟨gz, 0, none⟩ (.int .i64 b1)).cell? ⟨gz, 1, none⟩ = some (.slice none 0 0) := (Z132.out.set0 _).c1
              have fz2 := (Z132.out.set0 (.int .i64 b1)).fz
              have Y143 := Hid.mk7 (Y132.out.set_del Z132.out (.int .i64 b1) (.slice ya zs.length yc))
              have Z143 := Hid.mk7 (Z132.out.set (.int .i64 b1) (.slice ya zs.length yc))
              have bb143 : Hid (RowKit.Below w20.heap.size w20 ((x132.setCell ⟨gz, 0, none⟩ (.int .i64 b1)).setCell ⟨gz, 1, none⟩ (.slice ya zs.length yc))) := below_set2 bb132.out hgz _ _
              go_wp2
              clear c0 c1 c2 fz fz2
              generalize ((x132.setCell ⟨gz, 0, none⟩ (.int .i64 b1)).setCell ⟨gz, 1, none⟩ (.slice ya zs.length yc)) = x143 at *
              refine anyNext_mk ⟨⟨_, RD21.out.later bb143.out⟩, rfl⟩ ?_
              refine anyC_pick1 12 (by kernel_rfl) (by kernel_rfl) ?_
              simp only [pickAll, pickAt, List.nil_append, List.cons_append, List.append_nil]
              go_wp2
              refine anyNext_last (anyC_done (by kernel_rfl) ?_)
              go_wp2
              go_meet
              exact ⟨gz, _, rfl, rfl, Z143, Y143, bb143⟩
        · simp only [pickAll, pickAt, List.nil_append, List.cons_append, List.append_nil]
          have C145 := Hid.mk7 (C81.out.later (below_newE (RowKit.Below.refl _ _) (.cells #[.int .i64 0, .slice none 0 0] 24)))
          have Z145 : Hid (Rd (x81.alloc (.cells #[.int .i64 0, .slice none 0 0] 24)) x81.heap.size (.int .i64 0) (.slice none 0 0)) := Rd.new _ _ _
          have bb145 : Hid (RowKit.Below w20.heap.size w20 (x81.alloc (.cells #[.int .i64 0, .slice none 0 0] 24))) := bb81.out.alloc bb81.out.size _
          have hgz := bb81.out.size
          go_wp2
          generalize (x81.alloc (.cells #[.int .i64 0, .slice none 0 0] 24)) = x145 at *
          generalize x81.heap.size = gz at *
          refine anyNext_mk ⟨⟨_, RD21.out.later bb145.out⟩, rfl⟩ ?_
          refine anyC_pick1 2 (by kernel_rfl) (by kernel_rfl) ?_
          simp only [pickAll, pickAt, List.nil_append, List.cons_append, List.append_nil]
          go_wp2
          refine anyNext_mk ⟨⟨_, RD21.out.later bb145.out⟩, rfl⟩ ?_
          refine anyC_pick1 6 (by kernel_rfl) (by kernel_rfl) ?_
          simp only [pickAll, pickAt, List.nil_append, List.cons_append, List.append_nil]
          go_wp2_with fail
          refine (HTO.out _ _ C145.out).mono ?_
          rintro e x147 ⟨yv, rfl, hy, bz⟩
          obtain ⟨ya, yc, rfl, _, _, _⟩ := id hy
          have C147 := Hid.mk7 (C145.out.later bz)
          have Z147 := Hid.mk7 (Z145.out.later bz)
          have Y147 := Hid.mk7 hy
          have bb147 : Hid (RowKit.Below w20.heap.size w20 x147) := bb145.out.trans (bz.mono bb145.out.size)
          clear bz hy
          go_wp2
          refine anyNext_mk ⟨⟨_, RD21.out.later bb147.out⟩, rfl⟩ ?_
          refine anyC_pick1 7 (by kernel_rfl) (by kernel_rfl) ?_
          simp only [pickAll, pickAt, List.nil_append, List.cons_append, List.append_nil]
          go_wp2
          refine anyNext_mk ⟨⟨_, RD21.out.later bb147.out⟩, rfl⟩ ?_
          refine anyC_pick2 8 9 (by kernel_rfl) (by kernel_rfl) (by kernel_rfl) ?_ ?_
          · simp only [pickAll, pickAt, List.nil_append, List.cons_append, List.append_nil]
            go_wp2
            refine anyNext_mk ⟨⟨_, RD21.out.later bb147.out⟩, rfl⟩ ?_
            refine anyC_pick2 9 11 (by kernel_rfl) (by kernel_rfl) (by kernel_rfl) ?_ ?_
            · simp only [pickAll, pickAt, List.nil_append, List.cons_append, List.append_nil]
              go_wp2
              refine anyNext_mk ⟨⟨_, RD21.out.later bb147.out⟩, rfl⟩ ?_
              refine anyC_pick1 11 (by kernel_rfl) (by kernel_rfl) ?_
              simp only [pickAll, pickAt, List.nil_append, List.cons_append, List.append_nil]
              have c0 := Z147.out.c0
              have c1 := Z147.out.c1
              have fz := Z147.out.fz
              have c2 : (x147.setCell ⟨gz, 0, none⟩ (.int .i64 b1)).cell? ⟨gz, 1, none⟩ = some (.slice none 0 0) := (Z147.out.set0 _).c1
              have fz2 := (Z147.out.set0 (.int .i64 b1)).fz
              have Y151 := Hid.mk7 (Y147.out.set_del Z147.out (.int .i64 b1) (.slice ya zs.length yc))
              have Z151 := Hid.mk7 (Z147.out.set (.int .i64 b1) (.slice ya zs.length yc))
              have bb151 : Hid (RowKit.Below w20.heap.size w20 ((x147.setCell ⟨gz, 0, none⟩ (.int .i64 b1)).setCell ⟨gz, 1, none⟩ (.slice ya zs.length yc))) := below_set2 bb147.out hgz _ _
              go_wp2
              clear c0 c1 c2 fz fz2
              generalize ((x147.setCell ⟨gz, 0, none⟩ (.int .i64 b1)).setCell ⟨gz, 1, none⟩ (.slice ya zs.length yc)) = x151 at *
              refine anyNext_mk ⟨⟨_, RD21.out.later bb151.out⟩, rfl⟩ ?_
              refine anyC_pick1 12 (by kernel_rfl) (by kernel_rfl) ?_
              simp only [pickAll, pickAt, List.nil_append, List.cons_append, List.append_nil]
              go_wp2
              refine anyNext_last (anyC_done (by kernel_rfl) ?_)
              go_wp2
              go_meet
              exact ⟨gz, _, rfl, rfl, Z151, Y151, bb151⟩
            · simp only [pickAll, pickAt, List.nil_append, List.cons_append, List.append_nil]
              have c0 := Z147.out.c0
              have c1 := Z147.out.c1
              have fz := Z147.out.fz
              have c2 : (x147.setCell ⟨gz, 0, none⟩ (.int .i64 b1)).cell? ⟨gz, 1, none⟩ = some (.slice none 0 0) := (Z147.out.set0 _).c1
              have fz2 := (Z147.out.set0 (.int .i64 b1)).fz
              have Y153 := Hid.mk7 (Y147.out.set_del Z147.out (.int .i64 b1) (.slice ya zs.length yc))
              have Z153 := Hid.mk7 (Z147.out.set (.int .i64 b1) (.slice ya zs.length yc))
              have bb153 : Hid (RowKit.Below w20.heap.size w20 ((x147.setCell ⟨gz, 0, none⟩ (.int .i64 b1)).setCell ⟨gz, 1, none⟩ (.slice ya zs.length yc))) := below_set2 bb147.out hgz _ _
              go_wp2
              clear c0 c1 c2 fz fz2
              generalize ((x147.setCell ⟨gz, 0, none⟩ (.int .i64 b1)).setCell ⟨gz, 1, none⟩ (.slice ya zs.length yc)) = x153 at *
              refine anyNext_mk ⟨⟨_, RD21.out.later bb153.out⟩, rfl⟩ ?_
              refine anyC_pick1 9 (by kernel_rfl) (by kernel_rfl) ?_
              simp only [pickAll, pickAt, List.nil_append, List.cons_append, List.append_nil]
              go_wp2
              refine anyNext_mk ⟨⟨_, RD21.out.later bb153.out⟩, rfl⟩ ?_
              refine anyC_pick1 12 (by kernel_rfl) (by kernel_rfl) ?_
              simp only [pickAll, pickAt, List.nil_append, List.cons_append, List.append_nil]
              go_wp2
              refine anyNext_last (anyC_done (by kernel_rfl) ?_)
              go_wp2
              go_meet
              exact ⟨gz, _, rfl, rfl, Z153, Y153, bb153⟩
          · simp only [pickAll, pickAt, List.nil_append, List.cons_append, List.append_nil]
            go_wp2
            refine anyNext_mk ⟨⟨_, RD21.out.later bb147.out⟩, rfl⟩ ?_
            refine anyC_pick1 8 (by kernel_rfl) (by kernel_rfl) ?_
            simp only [pickAll, pickAt, List.nil_append, List.cons_append, List.append_nil]
            go_wp2
            refine anyNext_mk ⟨⟨_, RD21.out.later bb147.out⟩, rfl⟩ ?_
            refine anyC_pick1 11 (by kernel_rfl) (by kernel_rfl) ?_
            simp only [pickAll, pickAt, List.nil_append, List.cons_append, List.append_nil]
            have c0 := Z147.out.c0
            have c1 := Z147.out.c1
            have fz := Z147.out.fz
            have c2 : (x147.setCell ⟨gz, 0, none⟩ (.int .i64 b1)).cell? ⟨gz, 1, none⟩ = some (.slice none 0 0) := (Z147.out.set0 _).c1
            have fz2 := (Z147.out.set0 (.int .i64 b1)).fz
            have Y158 := Hid.mk7 (Y147.out.set_del Z147.out (.int .i64 b1) (.slice ya zs.length yc))
            have Z158 := Hid.mk7 (Z147.out.set (.int .i64 b1) (.slice ya zs.length yc))
            have bb158 : Hid (RowKit.Below w20.heap.size w20 ((x147.setCell ⟨gz, 0, none⟩ (.int .i64 b1)).setCell ⟨gz, 1, none⟩ (.slice ya zs.length yc))) := below_set2 bb147.out hgz _ _
            go_wp2
            clear c0 c1 c2 fz fz2
            generalize ((x147.setCell ⟨gz, 0, none⟩ (.int .i64 b1)).setCell ⟨gz, 1, none⟩ (.slice ya zs.length yc)) = x158 at *
            refine anyNext_mk ⟨⟨_, RD21.out.later bb158.out⟩, rfl⟩ ?_
            refine anyC_pick1 12 (by kernel_rfl) (by kernel_rfl) ?_
            simp only [pickAll, pickAt, List.nil_append, List.cons_append, List.append_nil]
            go_wp2
            refine anyNext_last (anyC_done (by kernel_rfl) ?_)
            go_wp2
            go_meet
            exact ⟨gz, _, rfl, rfl, Z158, Y158, bb158⟩
      · simp only [pickAll, pickAt, List.nil_append, List.cons_append, List.append_nil]
        have Z160 : Hid (Rd (x1.alloc (.cells #[.int .i64 0, .slice none 0 0] 24)) x1.heap.size (.int .i64 0) (.slice none 0 0)) := Rd.new _ _ _
        have bb160 : Hid (RowKit.Below w20.heap.size w20 (x1.alloc (.cells #[.int .i64 0, .slice none 0 0] 24))) := bb1.out.alloc bb1.out.size _
        have hgz := bb1.out.size
        go_wp2
        generalize (x1.alloc (.cells #[.int .i64 0, .slice none 0 0] 24)) = x160 at *
        generalize x1.heap.size = gz at *
        refine anyNext_mk ⟨⟨_, RD21.out.later bb160.out⟩, rfl⟩ ?_
        refine anyC_pick2 2 5 (by kernel_rfl) (by kernel_rfl) (by kernel_rfl) ?_ ?_
        · simp only [pickAll, pickAt, List.nil_append, List.cons_append, List.append_nil]
          go_wp2
          refine anyNext_mk ⟨⟨_, RD21.out.later bb160.out⟩, rfl⟩ ?_
          refine anyC_pick1 5 (by kernel_rfl) (by kernel_rfl) ?_
          simp only [pickAll, pickAt, List.nil_append, List.cons_append, List.append_nil]
          go_wp2_with fail
          refine (HLI.out _ _ (E21.out.later bb160.out)).mono ?_
          rintro e x162 ⟨cv, rfl, hy, bz⟩
          have Z162 := Hid.mk7 (Z160.out.later bz)
          have C162 := Hid.mk7 hy
          have bb162 : Hid (RowKit.Below w20.heap.size w20 x162) := bb160.out.trans (bz.mono bb160.out.size)
          clear bz hy
          go_wp2
          refine anyNext_mk ⟨⟨_, RD21.out.later bb162.out⟩, rfl⟩ ?_
          refine anyC_pick1 6 (by kernel_rfl) (by kernel_rfl) ?_
          simp only [pickAll, pickAt, List.nil_append, List.cons_append, List.append_nil]
          go_wp2_with fail
          refine (HTO.out _ _ C162.out).mono ?_
          rintro e x163 ⟨yv, rfl, hy, bz⟩
          obtain ⟨ya, yc, rfl, _, _, _⟩ := id hy
          have Z163 := Hid.mk7 (Z162.out.later bz)
          have C163 := Hid.mk7 (C162.out.later bz)
          have Y163 := Hid.mk7 hy
          have bb163 : Hid (RowKit.Below w20.heap.size w20 x163) := bb162.out.trans (bz.mono bb162.out.size)
          clear bz hy
          go_wp2
          refine anyNext_mk ⟨⟨_, RD21.out.later bb163.out⟩, rfl⟩ ?_
          refine anyC_pick1 7 (by kernel_rfl) (by kernel_rfl) ?_
          simp only [pickAll, pickAt, List.nil_append, List.cons_append, List.append_nil]
          go_wp2
          refine anyNext_mk ⟨⟨_, RD21.out.later bb163.out⟩, rfl⟩ ?_
          refine anyC_pick2 8 9 (by kernel_rfl) (by kernel_rfl) (by kernel_rfl) ?_ ?_
          · simp only [pickAll, pickAt, List.nil_append, List.cons_append, List.append_nil]
            go_wp2
            refine anyNext_mk ⟨⟨_, RD21.out.later bb163.out⟩, rfl⟩ ?_
            refine anyC_pick2 9 11 (by kernel_rfl) (by kernel_rfl) (by kernel_rfl) ?_ ?_
            · simp only [pickAll, pickAt, List.nil_append, List.cons_append, List.append_nil]
              go_wp2
              refine anyNext_mk ⟨⟨_, RD21.out.later bb163.out⟩, rfl⟩ ?_
              refine anyC_pick1 11 (by kernel_rfl) (by kernel_rfl) ?_
              simp only [pickAll, pickAt, List.nil_append, List.cons_append, List.append_nil]
              have c0 := Z163.out.c0
              have c1 := Z163.out.c1
              have fz := Z163.out.fz
              have c2 : (x163.setCell ⟨gz, 0, none⟩ (.int .i64 b1)).cell? ⟨gz, 1, none⟩ = some (.slice none 0 0) := (Z163.out.set0 _).c1
              have fz2 := (Z163.out.set0 (.int .i64 b1)).fz
              have Y167 := Hid.mk7 (Y163.out.set_del Z163.out (.int .i64 b1) (.slice ya zs.length yc))
              have Z167 := Hid.mk7 (Z163.out.set (.int .i64 b1) (.slice ya zs.length yc))
              have bb167 : Hid (RowKit.Below w20.heap.size w20 ((x163.setCell ⟨gz, 0, none⟩ (.int .i64 b1)).setCell ⟨gz, 1, none⟩ (.slice ya zs.length yc))) := below_set2 bb163.out hgz _ _
              go_wp2
              clear c0 c1 c2 fz fz2
              generalize ((x163.setCell ⟨gz, 0, none⟩ (.int .i64 b1)).setCell ⟨gz, 1, none⟩ (.slice ya zs.length yc)) = x167 at *
              refine anyNext_mk ⟨⟨_, RD21.out.later bb167.out⟩, rfl⟩ ?_
              refine anyC_pick1 12 (by kernel_rfl) (by kernel_rfl) ?_
              simp only [pickAll, pickAt, List.nil_append, List.cons_append, List.append_nil]
              go_wp2
              refine anyNext_last (anyC_done (by kernel_rfl) ?_)
              go_wp2
              go_meet
              exact ⟨gz, _, rfl, rfl, Z167, Y167, bb167⟩
            · simp only [pickAll, pickAt, List.nil_append, List.cons_append, List.append_nil]
              have c0 := Z163.out.c0
              have c1 := Z163.out.c1
              have fz := Z163.out.fz
              have c2 : (x163.setCell ⟨gz, 0, none⟩ (.int .i64 b1)).cell? ⟨gz, 1, none⟩ = some (.slice none 0 0) := (Z163.out.set0 _).c1
              have fz2 := (Z163.out.set0 (.int .i64 b1)).fz
              have Y169 := Hid.mk7 (Y163.out.set_del Z163.out (.int .i64 b1) (.slice ya zs.length yc))
              have Z169 := Hid.mk7 (Z163.out.set (.int .i64 b1) (.slice ya zs.length yc))
              have bb169 : Hid (RowKit.Below w20.heap.size w20 ((x163.setCell ⟨gz, 0, none⟩ (.int .i64 b1)).setCell ⟨gz, 1, none⟩ (.slice ya zs.length yc))) := below_set2 bb163.out hgz _ _
              go_wp2
              clear c0 c1 c2 fz fz2
              generalize ((x163.setCell ⟨gz, 0, none⟩ (.int .i64 b1)).setCell ⟨gz, 1, none⟩ (.slice ya zs.length yc)) = x169 at *
              refine anyNext_mk ⟨⟨_, RD21.out.later bb169.out⟩, rfl⟩ ?_
              refine anyC_pick1 9 (by kernel_rfl) (by kernel_rfl) ?_
              simp only [pickAll, pickAt, List.nil_append, List.cons_append, List.append_nil]
              go_wp2
              refine anyNext_mk ⟨⟨_, RD21.out.later bb169.out⟩, rfl⟩ ?_
              refine anyC_pick1 12 (by kernel_rfl) (by kernel_rfl) ?_
              simp only [pickAll, pickAt, List.nil_append, List.cons_append, List.append_nil]
              go_wp2
              refine anyNext_last (anyC_done (by kernel_rfl) ?_)
              go_wp2
              go_meet
              exact ⟨gz, _, rfl, rfl, Z169, Y169, bb169⟩
          · simp only [pickAll, pickAt, List.nil_append, List.cons_append, List.append_nil]
            go_wp2
            refine anyNext_mk ⟨⟨_, RD21.out.later bb163.out⟩, rfl⟩ ?_
            refine anyC_pick1 8 (by kernel_rfl) (by kernel_rfl) ?_
            simp only [pickAll, pickAt, List.nil_append, List.cons_append, List.append_nil]
            go_wp2
            refine anyNext_mk ⟨⟨_, RD21.out.later bb163.out⟩, rfl⟩ ?_
            refine anyC_pick1 11 (by kernel_rfl) (by kernel_rfl) ?_
            simp only [pickAll, pickAt, List.nil_append, List.cons_append, List.append_nil]
            have c0 := Z163.out.c0
            have c1 := Z163.out.c1
            have fz := Z163.out.fz
            have c2 : (x163.setCell ⟨gz, 0, none⟩ (.int .i64 b1)).cell? ⟨gz, 1, none⟩ = some (.slice none 0 0) := (Z163.out.set0 _).c1
            have fz2 := (Z163.out.set0 (.int .i64 b1)).fz
            have Y174 := Hid.mk7 (Y163.out.set_del Z163.out (.int .i64 b1) (.slice ya zs.length yc))
            have Z174 := Hid.mk7 (Z163.out.set (.int .i64 b1) (.slice ya zs.length yc))
            have bb174 : Hid (RowKit.Below w20.heap.size w20 ((x163.setCell ⟨gz, 0, none⟩ (.int .i64 b1)).setCell ⟨gz, 1, none⟩ (.slice ya zs.length yc))) := below_set2 bb163.out hgz _ _
            go_wp2
            clear c0 c1 c2 fz fz2
            generalize ((x163.setCell ⟨gz, 0, none⟩ (.int .i64 b1)).setCell ⟨gz, 1, none⟩ (.slice ya zs.length yc)) = x174 at *
            refine anyNext_mk ⟨⟨_, RD21.out.later bb174.out⟩, rfl⟩ ?_
            refine anyC_pick1 12 (by kernel_rfl) (by kernel_rfl) ?_
            simp only [pickAll, pickAt, List.nil_append, List.cons_append, List.append_nil]
            go_wp2
            refine anyNext_last (anyC_done (by kernel_rfl) ?_)
            go_wp2
            go_meet
            exact ⟨gz, _, rfl, rfl, Z174, Y174, bb174⟩
        · simp only [pickAll, pickAt, List.nil_append, List.cons_append, List.append_nil]
          go_wp2_with fail
          refine (HLI.out _ _ (E21.out.later bb160.out)).mono ?_
          rintro e x176 ⟨cv, rfl, hy, bz⟩
          have Z176 := Hid.mk7 (Z160.out.later bz)
          have C176 := Hid.mk7 hy
          have bb176 : Hid (RowKit.Below w20.heap.size w20 x176) := bb160.out.trans (bz.mono bb160.out.size)
          clear bz hy
          go_wp2
          refine anyNext_mk ⟨⟨_, RD21.out.later bb176.out⟩, rfl⟩ ?_
          refine anyC_pick1 2 (by kernel_rfl) (by kernel_rfl) ?_
          simp only [pickAll, pickAt, List.nil_append, List.cons_append, List.append_nil]
          go_wp2
          refine anyNext_mk ⟨⟨_, RD21.out.later bb176.out⟩, rfl⟩ ?_
          refine anyC_pick1 6 (by kernel_rfl) (by kernel_rfl) ?_
          simp only [pickAll, pickAt, List.nil_append, List.cons_append, List.append_nil]
          go_wp2_with fail
          refine (HTO.out _ _ C176.out).mono ?_
          rintro e x178 ⟨yv, rfl, hy, bz⟩
          obtain ⟨ya, yc, rfl, _, _, _⟩ := id hy
          have Z178 := Hid.mk7 (Z176.out.later bz)
          have C178 := Hid.mk7 (C176.out.later bz)
          have Y178 := Hid.mk7 hy
          have bb178 : Hid (RowKit.Below w20.heap.size w20 x178) := bb176.out.trans (bz.mono bb176.out.size)
          clear bz hy
          go_wp2
          refine anyNext_mk ⟨⟨_, RD21.out.later bb178.out⟩, rfl⟩ ?_
          refine anyC_pick1 7 (by kernel_rfl) (by kernel_rfl) ?_
          simp only [pickAll, pickAt, List.nil_append, List.cons_append, List.append_nil]
          go_wp2
          refine anyNext_mk ⟨⟨_, RD21.out.later bb178.out⟩, rfl⟩ ?_
          refine anyC_pick2 8 9 (by kernel_rfl) (by kernel_rfl) (by kernel_rfl) ?_ ?_
          · simp only [pickAll, pickAt, List.nil_append, List.cons_append, List.append_nil]
            go_wp2
            refine anyNext_mk ⟨⟨_, RD21.out.later bb178.out⟩, rfl⟩ ?_
            refine anyC_pick2 9 11 (by kernel_rfl) (by kernel_rfl) (by kernel_rfl) ?_ ?_
            · simp only [pickAll, pickAt, List.nil_append, List.cons_append, List.append_nil]
              go_wp2
              refine anyNext_mk ⟨⟨_, RD21.out.later bb178.out⟩, rfl⟩ ?_
              refine anyC_pick1 11 (by kernel_rfl) (by kernel_rfl) ?_
              simp only [pickAll, pickAt, List.nil_append, List.cons_append, List.append_nil]
              have c0 := Z178.out.c0
              have c1 := Z178.out.c1
              have fz := Z178.out.fz
              have c2 : (x178.setCell ⟨gz, 0, none⟩ (.int .i64 b1)).cell? ⟨gz, 1, none⟩ = some (.slice none 0 0) := (Z178.out.set0 _).c1
              have fz2 := (Z178.out.set0 (.int .i64 b1)).fz
              have Y182 := Hid.mk7 (Y178.out.set_del Z178.out (.int .i64 b1) (.slice ya zs.length yc))
              have Z182 := Hid.mk7 (Z178.out.set (.int .i64 b1) (.slice ya zs.length yc))
              have bb182 : Hid (RowKit.Below w20.heap.size w20 ((x178.setCell ⟨gz, 0, none⟩ (.int .i64 b1)).setCell ⟨gz, 1, none⟩ (.slice ya zs.length yc))) := below_set2 bb178.out hgz _ _
              go_wp2
              clear c0 c1 c2 fz fz2
              generalize ((x178.setCell ⟨gz, 0, none⟩ (.int .i64 b1)).setCell ⟨gz, 1, none⟩ (.slice ya zs.length yc)) = x182 at *
              refine anyNext_mk ⟨⟨_, RD21.out.later bb182.out⟩, rfl⟩ ?_
              refine anyC_pick1 12 (by kernel_rfl) (by kernel_rfl) ?_
              simp only [pickAll, pickAt, List.nil_append, List.cons_append, List.append_nil]
              go_wp2
              refine anyNext_last (anyC_done (by kernel_rfl) ?_)
              go_wp2
              go_meet
              exact ⟨gz, _, rfl, rfl, Z182, Y182, bb182⟩
            · simp only [pickAll, pickAt, List.nil_append, List.cons_append, List.append_nil]
              have c0 := Z178.out.c0
              have c1 := Z178.out.c1
              have fz := Z178.out.fz
              have c2 : (x178.setCell ⟨gz, 0, none⟩ (.int .i64 b1)).cell? ⟨gz, 1, none⟩ = some (.slice none 0 0) := (Z178.out.set0 _).c1
              have fz2 := (Z178.out.set0 (.int .i64 b1)).fz
              have Y184 := Hid.mk7 (Y178.out.set_del Z178.out (.int .i64 b1) (.slice ya zs.length yc))
              have Z184 := Hid.mk7 (Z178.out.set (.int .i64 b1) (.slice ya zs.length yc))
              have bb184 : Hid (RowKit.Below w20.heap.size w20 ((x178.setCell ⟨gz, 0, none⟩ (.int .i64 b1)).setCell ⟨gz, 1, none⟩ (.slice ya zs.length yc))) := below_set2 bb178.out hgz _ _
              go_wp2
              clear c0 c1 c2 fz fz2
              generalize ((x178.setCell ⟨gz, 0, none⟩ (.int .i64 b1)).setCell ⟨gz, 1, none⟩ (.slice ya zs.length yc)) = x184 at *
              refine anyNext_mk ⟨⟨_, RD21.out.later bb184.out⟩, rfl⟩ ?_
              refine anyC_pick1 9 (by kernel_rfl) (by kernel_rfl) ?_
              simp only [pickAll, pickAt, List.nil_append, List.cons_append, List.append_nil]
              go_wp2
              refine anyNext_mk ⟨⟨_, RD21.out.later bb184.out⟩, rfl⟩ ?_
              refine anyC_pick1 12 (by kernel_rfl) (by kernel_rfl) ?_
              simp only [pickAll, pickAt, List.nil_append, List.cons_append, List.append_nil]
              go_wp2
              refine anyNext_last (anyC_done (by kernel_rfl) ?_)
              go_wp2
              go_meet
              exact ⟨gz, _, rfl, rfl, Z184, Y184, bb184⟩
          · simp only [pickAll, pickAt, List.nil_append, List.cons_append, List.append_nil]
            go_wp2
            refine anyNext_mk ⟨⟨_, RD21.out.later bb178.out⟩, rfl⟩ ?_
            refine anyC_pick1 8 (by kernel_rfl) (by kernel_rfl) ?_
            simp only [pickAll, pickAt, List.nil_append, List.cons_append, List.append_nil]
            go_wp2
            refine anyNext_mk ⟨⟨_, RD21.out.later bb178.out⟩, rfl⟩ ?_
            refine anyC_pick1 11 (by kernel_rfl) (by kernel_rfl) ?_
            simp only [pickAll, pickAt, List.nil_append, List.cons_append, List.append_nil]
            have c0 := Z178.out.c0
            have c1 := Z178.out.c1
            have fz := Z178.out.fz
            have c2 : (x178.setCell ⟨gz, 0, none⟩ (.int .i64 b1)).cell? ⟨gz, 1, none⟩ = some (.slice none 0 0) := (Z178.out.set0 _).c1
            have fz2 := (Z178.out.set0 (.int .i64 b1)).fz
            have Y189 := Hid.mk7 (Y178.out.set_del Z178.out (.int .i64 b1) (.slice ya zs.length yc))
            have Z189 := Hid.mk7 (Z178.out.set (.int .i64 b1) (.slice ya zs.length yc))
            have bb189 : Hid (RowKit.Below w20.heap.size w20 ((x178.setCell ⟨gz, 0, none⟩ (.int .i64 b1)).setCell ⟨gz, 1, none⟩ (.slice ya zs.length yc))) := below_set2 bb178.out hgz _ _
            go_wp2
            clear c0 c1 c2 fz fz2
            generalize ((x178.setCell ⟨gz, 0, none⟩ (.int .i64 b1)).setCell ⟨gz, 1, none⟩ (.slice ya zs.length yc)) = x189 at *
            refine anyNext_mk ⟨⟨_, RD21.out.later bb189.out⟩, rfl⟩ ?_
            refine anyC_pick1 12 (by kernel_rfl) (by kernel_rfl) ?_
            simp only [pickAll, pickAt, List.nil_append, List.cons_append, List.append_nil]
            go_wp2
            refine anyNext_last (anyC_done (by kernel_rfl) ?_)
            go_wp2
            go_meet
            exact ⟨gz, _, rfl, rfl, Z189, Y189, bb189⟩
    · simp only [pickAll, pickAt, List.nil_append, List.cons_append, List.append_nil]
      have Z191 : Hid (Rd (x0.alloc (.cells #[.int .i64 0, .slice none 0 0] 24)) x0.heap.size (.int .i64 0) (.slice none 0 0)) := Rd.new _ _ _
      have bb191 : Hid (RowKit.Below w20.heap.size w20 (x0.alloc (.cells #[.int .i64 0, .slice none 0 0] 24))) := bb0.out.alloc bb0.out.size _
      have hgz := bb0.out.size
      go_wp2
      generalize (x0.alloc (.cells #[.int .i64 0, .slice none 0 0] 24)) = x191 at *
      generalize x0.heap.size = gz at *
      refine anyNext_mk ⟨⟨_, RD21.out.later bb191.out⟩, rfl⟩ ?_
      refine anyC_pick1 1 (by kernel_rfl) (by kernel_rfl) ?_
      simp only [pickAll, pickAt, List.nil_append, List.cons_append, List.append_nil]
      go_wp2_with fail
      refine (HCE.out _ _ (E21.out.later bb191.out)).mono ?_
      rintro e x192 ⟨cv0, rfl, hy, bz⟩
      obtain ⟨xa, xc, rfl, _, _⟩ := id hy
      rw [HCN.out]
      clear hy
      have Z192 := Hid.mk7 (Z191.out.later bz)
      have bb192 : Hid (RowKit.Below w20.heap.size w20 x192) := bb191.out.trans (bz.mono bb191.out.size)
      clear bz
      go_wp2
      refine anyNext_mk ⟨⟨_, RD21.out.later bb192.out⟩, rfl⟩ ?_
      refine anyC_pick2 2 5 (by kernel_rfl) (by kernel_rfl) (by kernel_rfl) ?_ ?_
      · simp only [pickAll, pickAt, List.nil_append, List.cons_append, List.append_nil]
        go_wp2
        refine anyNext_mk ⟨⟨_, RD21.out.later bb192.out⟩, rfl⟩ ?_
        refine anyC_pick1 5 (by kernel_rfl) (by kernel_rfl) ?_
        simp only [pickAll, pickAt, List.nil_append, List.cons_append, List.append_nil]
        go_wp2_with fail
        refine (HLI.out _ _ (E21.out.later bb192.out)).mono ?_
        rintro e x194 ⟨cv, rfl, hy, bz⟩
        have Z194 := Hid.mk7 (Z192.out.later bz)
        have C194 := Hid.mk7 hy
        have bb194 : Hid (RowKit.Below w20.heap.size w20 x194) := bb192.out.trans (bz.mono bb192.out.size)
        clear bz hy
        go_wp2
        refine anyNext_mk ⟨⟨_, RD21.out.later bb194.out⟩, rfl⟩ ?_
        refine anyC_pick1 6 (by kernel_rfl) (by kernel_rfl) ?_
        simp only [pickAll, pickAt, List.nil_append, List.cons_append, List.append_nil]
        go_wp2_with fail
        refine (HTO.out _ _ C194.out).mono ?_
        rintro e x195 ⟨yv, rfl, hy, bz⟩
        obtain ⟨ya, yc, rfl, _, _, _⟩ := id hy
        have Z195 := Hid.mk7 (Z194.out.later bz)
        have C195 := Hid.mk7 (C194.out.later bz)
        have Y195 := Hid.mk7 hy
        have bb195 : Hid (RowKit.Below w20.heap.size w20 x195) := bb194.out.trans (bz.mono bb194.out.size)
        clear bz hy
        go_wp2
        refine anyNext_mk ⟨⟨_, RD21.out.later bb195.out⟩, rfl⟩ ?_
        refine anyC_pick1 7 (by kernel_rfl) (by kernel_rfl) ?_
        simp only [pickAll, pickAt, List.nil_append, List.cons_append, List.append_nil]
        go_wp2
        refine anyNext_mk ⟨⟨_, RD21.out.later bb195.out⟩, rfl⟩ ?_
        refine anyC_pick2 8 9 (by kernel_rfl) (by kernel_rfl) (by kernel_rfl) ?_ ?_
        · simp only [pickAll, pickAt, List.nil_append, List.cons_append, List.append_nil]
          go_wp2
          refine anyNext_mk ⟨⟨_, RD21.out.later bb195.out⟩, rfl⟩ ?_
          refine anyC_pick2 9 11 (by kernel_rfl) (by kernel_rfl) (by kernel_rfl) ?_ ?_
          · simp only [pickAll, pickAt, List.nil_append, List.cons_append, List.append_nil]
            go_wp2
            refine anyNext_mk ⟨⟨_, RD21.out.later bb195.out⟩, rfl⟩ ?_
            refine anyC_pick1 11 (by kernel_rfl) (by kernel_rfl) ?_
            simp only [pickAll, pickAt, List.nil_append, List.cons_append, List.append_nil]
            have c0 := Z195.out.c0
            have c1 := Z195.out.c1
            have fz := Z195.out.fz
            have c2 : (x195.setCell ⟨gz, 0, none⟩ (.int .i64 b1)).cell? ⟨gz, 1, none⟩ = some (.slice none 0 0) := (Z195.out.set0 _).c1
            have fz2 := (Z195.out.set0 (.int .i64 b1)).fz
            have Y199 := Hid.mk7 (Y195.out.set_del Z195.out (.int .i64 b1) (.slice ya zs.length yc))
            have Z199 := Hid.mk7 (Z195.out.set (.int .i64 b1) (.slice ya zs.length yc))
            have bb199 : Hid (RowKit.Below w20.heap.size w20 ((x195.setCell ⟨gz, 0, none⟩ (.int .i64 b1)).setCell ⟨gz, 1, none⟩ (.slice ya zs.length yc))) := below_set2 bb195.out hgz _ _
            go_wp2
            clear c0 c1 c2 fz fz2
            generalize ((x195.setCell ⟨gz, 0, none⟩ (.int .i64 b1)).setCell ⟨gz, 1, none⟩ (.slice ya zs.length yc)) = x199 at *
            refine anyNext_mk ⟨⟨_, RD21.out.later bb199.out⟩, rfl⟩ ?_
            refine anyC_pick1 12 (by kernel_rfl) (by kernel_rfl) ?_
            simp only [pickAll, pickAt, List.nil_append, List.cons_append, List.append_nil]
            go_wp2
            refine anyNext_last (anyC_done (by kernel_rfl) ?_)
            go_wp2
            go_meet
            exact ⟨gz, _, rfl, rfl, Z199, Y199, bb199⟩
          · simp only [pickAll, pickAt, List.nil_append, List.cons_append, List.append_nil]
            have c0 := Z195.out.c0
            have c1 := Z195.out.c1
            have fz := Z195.out.fz
            have c2 : (x195.setCell ⟨gz, 0, none⟩ (.int .i64 b1)).cell? ⟨gz, 1, none⟩ = some (.slice none 0 0) := (Z195.out.set0 _).c1
            have fz2 := (Z195.out.set0 (.int .i64 b1)).fz
            have Y201 := Hid.mk7 (Y195.out.set_del Z195.out (.int .i64 b1) (.slice ya zs.length yc))
            have Z201 := Hid.mk7 (Z195.out.set (.int .i64 b1) (.slice ya zs.length yc))
            have bb201 : Hid (RowKit.Below w20.heap.size w20 ((x195.setCell ⟨gz, 0, none⟩ (.int .i64 b1)).setCell ⟨gz, 1, none⟩ (.slice ya zs.length yc))) := below_set2 bb195.out hgz _ _
            go_wp2
            clear c0 c1 c2 fz fz2
            generalize ((x195.setCell ⟨gz, 0, none⟩ (.int .i64 b1)).setCell ⟨gz, 1, none⟩ (.slice ya zs.length yc)) = x201 at *
            refine anyNext_mk ⟨⟨_, RD21.out.later bb201.out⟩, rfl⟩ ?_
            refine anyC_pick1 9 (by kernel_rfl) (by kernel_rfl) ?_
            simp only [pickAll, pickAt, List.nil_append, List.cons_append, List.append_nil]
            go_wp2
            refine anyNext_mk ⟨⟨_, RD21.out.later bb201.out⟩, rfl⟩ ?_
            refine anyC_pick1 12 (by kernel_rfl) (by kernel_rfl) ?_
            simp only [pickAll, pickAt, List.nil_append, List.cons_append, List.append_nil]
            go_wp2
            refine anyNext_last (anyC_done (by kernel_rfl) ?_)
            go_wp2
            go_meet
            exact ⟨gz, _, rfl, rfl, Z201, Y201, bb201⟩
        · simp only [pickAll, pickAt, List.nil_append, List.cons_append, List.append_nil]
          go_wp2
          refine anyNext_mk ⟨⟨_, RD21.out.later bb195.out⟩, rfl⟩ ?_
          refine anyC_pick1 8 (by kernel_rfl) (by kernel_rfl) ?_
          simp only [pickAll, pickAt, List.nil_append, List.cons_append, List.append_nil]
          go_wp2
          refine anyNext_mk ⟨⟨_, RD21.out.later bb195.out⟩, rfl⟩ ?_
          refine anyC_pick1 11 (by kernel_rfl) (by kernel_rfl) ?_
          simp only [pickAll, pickAt, List.nil_append, List.cons_append, List.append_nil]
          have c0 := Z195.out.c0
          have c1 := Z195.out.c1
          have fz := Z195.out.fz
          have c2 : (x195.setCell ⟨gz, 0, none⟩ (.int .i64 b1)).cell? ⟨gz, 1, none⟩ = some (.slice none 0 0) := (Z195.out.set0 _).c1
          have fz2 := (Z195.out.set0 (.int .i64 b1)).fz
          have Y206 := Hid.mk7 (Y195.out.set_del Z195.out (.int .i64 b1) (.slice ya zs.length yc))
          have Z206 := Hid.mk7 (Z195.out.set (.int .i64 b1) (.slice ya zs.length yc))
          have bb206 : Hid (RowKit.Below w20.heap.size w20 ((x195.setCell ⟨gz, 0, none⟩ (.int .i64 b1)).setCell ⟨gz, 1, none⟩ (.slice ya zs.length yc))) := below_set2 bb195.out hgz _ _
          go_wp2
          clear c0 c1 c2 fz fz2
          generalize ((x195.setCell ⟨gz, 0, none⟩ (.int .i64 b1)).setCell ⟨gz, 1, none⟩ (.slice ya zs.length yc)) = x206 at *
          refine anyNext_mk ⟨⟨_, RD21.out.later bb206.out⟩, rfl⟩ ?_
          refine anyC_pick1 12 (by kernel_rfl) (by kernel_rfl) ?_
          simp only [pickAll, pickAt, List.nil_append, List.cons_append, List.append_nil]
          go_wp2
          refine anyNext_last (anyC_done (by kernel_rfl) ?_)
          go_wp2
          go_meet
          exact ⟨gz, _, rfl, rfl, Z206, Y206, bb206⟩
      · simp only [pickAll, pickAt, List.nil_append, List.cons_append, List.append_nil]
        go_wp2_with fail
        refine (HLI.out _ _ (E21.out.later bb192.out)).mono ?_
        rintro e x208 ⟨cv, rfl, hy, bz⟩
        have Z208 := Hid.mk7 (Z192.out.later bz)
        have C208 := Hid.mk7 hy
        have bb208 : Hid (RowKit.Below w20.heap.size w20 x208) := bb192.out.trans (bz.mono bb192.out.size)
        clear bz hy
        go_wp2
        refine anyNext_mk ⟨⟨_, RD21.out.later bb208.out⟩, rfl⟩ ?_
        refine anyC_pick1 2 (by kernel_rfl) (by kernel_rfl) ?_
        simp only [pickAll, pickAt, List.nil_append, List.cons_append, List.append_nil]
        go_wp2
        refine anyNext_mk ⟨⟨_, RD21.out.later bb208.out⟩, rfl⟩ ?_
        refine anyC_pick1 6 (by kernel_rfl) (by kernel_rfl) ?_
        simp only [pickAll, pickAt, List.nil_append, List.cons_append, List.append_nil]
        go_wp2_with fail
        refine (HTO.out _ _ C208.out).mono ?_
        rintro e x210 ⟨yv, rfl, hy, bz⟩
        obtain ⟨ya, yc, rfl, _, _, _⟩ := id hy
        have Z210 := Hid.mk7 (Z208.out.later bz)
        have C210 := Hid.mk7 (C208.out.later bz)
        have Y210 := Hid.mk7 hy
        have bb210 : Hid (RowKit.Below w20.heap.size w20 x210) := bb208.out.trans (bz.mono bb208.out.size)
        clear bz hy
        go_wp2
        refine anyNext_mk ⟨⟨_, RD21.out.later bb210.out⟩, rfl⟩ ?_
        refine anyC_pick1 7 (by kernel_rfl) (by kernel_rfl) ?_
        simp only [pickAll, pickAt, List.nil_append, List.cons_append, List.append_nil]
        go_wp2
        refine anyNext_mk ⟨⟨_, RD21.out.later bb210.out⟩, rfl⟩ ?_
        refine anyC_pick2 8 9 (by kernel_rfl) (by kernel_rfl) (by kernel_rfl) ?_ ?_
        · simp only [pickAll, pickAt, List.nil_append, List.cons_append, List.append_nil]
          go_wp2
          refine anyNext_mk ⟨⟨_, RD21.out.later bb210.out⟩, rfl⟩ ?_
          refine anyC_pick2 9 11 (by kernel_rfl) (by kernel_rfl) (by kernel_rfl) ?_ ?_
          · simp only [pickAll, pickAt, List.nil_append, List.cons_append, List.append_nil]
            go_wp2
            refine anyNext_mk ⟨⟨_, RD21.out.later bb210.out⟩, rfl⟩ ?_
            refine anyC_pick1 11 (by kernel_rfl) (by kernel_rfl) ?_
            simp only [pickAll, pickAt, List.nil_append, List.cons_append, List.append_nil]
            have c0 := Z210.out.c0
            have c1 := Z210.out.c1
            have fz := Z210.out.fz
            have c2 : (x210.setCell ⟨gz, 0, none⟩ (.int .i64 b1)).cell? ⟨gz, 1, none⟩ = some (.slice none 0 0) := (Z210.out.set0 _).c1
            have fz2 := (Z210.out.set0 (.int .i64 b1)).fz
            have Y214 := Hid.mk7 (Y210.out.set_del Z210.out (.int .i64 b1) (.slice ya zs.length yc))
            have Z214 := Hid.mk7 (Z210.out.set (.int .i64 b1) (.slice ya zs.length yc))
            have bb214 : Hid (RowKit.Below w20.heap.size w20 ((x210.setCell ⟨gz, 0, none⟩ (.int .i64 b1)).setCell ⟨gz, 1, none⟩ (.slice ya zs.length yc))) := below_set2 bb210.out hgz _ _
            go_wp2
            clear c0 c1 c2 fz fz2
            generalize ((x210.setCell ⟨gz, 0, none⟩ (.int .i64 b1)).setCell ⟨gz, 1, none⟩ (.slice ya zs.length yc)) = x214 at *
            refine anyNext_mk ⟨⟨_, RD21.out.later bb214.out⟩, rfl⟩ ?_
            refine anyC_pick1 12 (by kernel_rfl) (by kernel_rfl) ?_
            simp only [pickAll, pickAt, List.nil_append, List.cons_append, List.append_nil]
            go_wp2
            refine anyNext_last (anyC_done (by kernel_rfl) ?_)
            go_wp2
            go_meet
            exact ⟨gz, _, rfl, rfl, Z214, Y214, bb214⟩
          · simp only [pickAll, pickAt, List.nil_append, List.cons_append, List.append_nil]
            have c0 := Z210.out.c0
            have c1 := Z210.out.c1
            have fz := Z210.out.fz
            have c2 : (x210.setCell ⟨gz, 0, none⟩ (.int .i64 b1)).cell? ⟨gz, 1, none⟩ = some (.slice none 0 0) := (Z210.out.set0 _).c1
            have fz2 := (Z210.out.set0 (.int .i64 b1)).fz
            have Y216 := Hid.mk7 (Y210.out.set_del Z210.out (.int .i64 b1) (.slice ya zs.length yc))
            have Z216 := Hid.mk7 (Z210.out.set (.int .i64 b1) (.slice ya zs.length yc))
            have bb216 : Hid (RowKit.Below w20.heap.size w20 ((x210.setCell ⟨gz, 0, none⟩ (.int .i64 b1)).setCell ⟨gz, 1, none⟩ (.slice ya zs.length yc))) := below_set2 bb210.out hgz _ _
            go_wp2
            clear c0 c1 c2 fz fz2
            generalize ((x210.setCell ⟨gz, 0, none⟩ (.int .i64 b1)).setCell ⟨gz, 1, none⟩ (.slice ya zs.length yc)) = x216 at *
            refine anyNext_mk ⟨⟨_, RD21.out.later bb216.out⟩, rfl⟩ ?_
            refine anyC_pick1 9 (by kernel_rfl) (by kernel_rfl) ?_
            simp only [pickAll, pickAt, List.nil_append, List.cons_append, List.append_nil]
            go_wp2
            refine anyNext_mk ⟨⟨_, RD21.out.later bb216.out⟩, rfl⟩ ?_
            refine anyC_pick1 12 (by kernel_rfl) (by kernel_rfl) ?_
            simp only [pickAll, pickAt, List.nil_append, List.cons_append, List.append_nil]
            go_wp2
            refine anyNext_last (anyC_done (by kernel_rfl) ?_)
            go_wp2
            go_meet
            exact ⟨gz, _, rfl, rfl, Z216, Y216, bb216⟩
        · simp only [pickAll, pickAt, List.nil_append, List.cons_append, List.append_nil]
          go_wp2
          refine anyNext_mk ⟨⟨_, RD21.out.later bb210.out⟩, rfl⟩ ?_
          refine anyC_pick1 8 (by kernel_rfl) (by kernel_rfl) ?_
          simp only [pickAll, pickAt, List.nil_append, List.cons_append, List.append_nil]
          go_wp2
          refine anyNext_mk ⟨⟨_, RD21.out.later bb210.out⟩, rfl⟩ ?_
          refine anyC_pick1 11 (by kernel_rfl) (by kernel_rfl) ?_
          simp only [pickAll, pickAt, List.nil_append, List.cons_append, List.append_nil]
          have c0 := Z210.out.c0
          have c1 := Z210.out.c1
          have fz := Z210.out.fz
          have c2 : (x210.setCell ⟨gz, 0, none⟩ (.int .i64 b1)).cell? ⟨gz, 1, none⟩ = some (.slice none 0 0) := (Z210.out.set0 _).c1
          have fz2 := (Z210.out.set0 (.int .i64 b1)).fz
          have Y221 := Hid.mk7 (Y210.out.set_del Z210.out (.int .i64 b1) (.slice ya zs.length yc))
          have Z221 := Hid.mk7 (Z210.out.set (.int .i64 b1) (.slice ya zs.length yc))
          have bb221 : Hid (RowKit.Below w20.heap.size w20 ((x210.setCell ⟨gz, 0, none⟩ (.int .i64 b1)).setCell ⟨gz, 1, none⟩ (.slice ya zs.length yc))) := below_set2 bb210.out hgz _ _
          go_wp2
          clear c0 c1 c2 fz fz2
          generalize ((x210.setCell ⟨gz, 0, none⟩ (.int .i64 b1)).setCell ⟨gz, 1, none⟩ (.slice ya zs.length yc)) = x221 at *
          refine anyNext_mk ⟨⟨_, RD21.out.later bb221.out⟩, rfl⟩ ?_
          refine anyC_pick1 12 (by kernel_rfl) (by kernel_rfl) ?_
          simp only [pickAll, pickAt, List.nil_append, List.cons_append, List.append_nil]
          go_wp2
          refine anyNext_last (anyC_done (by kernel_rfl) ?_)
          go_wp2
          go_meet
          exact ⟨gz, _, rfl, rfl, Z221, Y221, bb221⟩
  case rest =>
    obtain ⟨gz, yv, rfl, rfl, RZ, HY, BB⟩ := hcut
    obtain ⟨ya, yc, rfl, _, _, _⟩ := id HY.out
    have RJ9 := Hid.mk7 (RJ21.out.later BB.out)
    have J9 := Hid.mk7 (J21.out.later BB.out)
    have G9 := Hid.mk7 (G21.out.trans (BB.out.mono G21.out.size))
    have p0 := RJ9.out.c0
    have p1 := RJ9.out.c1
    have y0 := RZ.out.c0
    have y1 := RZ.out.c1
    rcases HRS.out.ok with rfl | ⟨rfl, rfl, rfl⟩ | ⟨rfl, rfl, rfl⟩
    · have hm := HRS.out.len
      clear HTO
      go_wp2_with fail
      refine (rsame_self13 b1 J9.out HY.out hm).mono ?_
      rintro e wz ⟨rfl, bz⟩
      clear p0 p1 y0 y1
      have GZ := Hid.mk7 (G9.out.trans (bz.mono G9.out.size))
      go_wp2
      go_ret
      exact ⟨rfl, GZ.out⟩
    · clear HTO
      simp only [List.length_nil] at *
      go_wp2
      go_ret
      exact ⟨rfl, G9.out⟩
    · clear HTO
      simp only [List.length_nil] at *
      go_wp2
      go_ret
      exact ⟨rfl, G9.out⟩
end Go.Proofs.YtiienebioebjpaaDoor
