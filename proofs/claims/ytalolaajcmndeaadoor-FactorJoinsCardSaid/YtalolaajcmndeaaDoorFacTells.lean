/- FactorTells walked. -/
import Derived.Test.YtalolaajcmndeaaDoorFacKnown
import Derived.Test.YtalolaajcmndeaaDoorFacRefSp
import Derived.Test.YtalolaajcmndeaaDoorFacFew
import Derived.Test.YtalolaajcmndeaaDoorDelRefTold
import Derived.Test.YtalolaajcmndeaaDoorDelRefBuild
namespace Go.Proofs.YtalolaajcmndeaaDoor
open Go.RowKit Go.Sort Go.Lib
set_option linter.unusedSimpArgs false
set_option linter.unusedVariables false

/-- Which are put in. -/
def ownF (cs : List Ce) : List Int := cs.map fun c => if c.1 < 0 then 1 else 0
theorem ownF_append (a b : List Ce) : ownF (a ++ b) = ownF a ++ ownF b := by simp [ownF]
theorem ownF_own (T : List UInt8) : ownF (ownT T) = List.replicate T.length 1 := by
  simp only [ownF, ownT, List.map_map]
  rw [List.eq_replicate_iff]
  refine ⟨by simp, fun b hb => ?_⟩
  obtain ⟨x, _, rfl⟩ := List.mem_map.1 hb
  rfl
theorem ownF_rng {f t : Int} (h : 0 ≤ f) : ownF (rng f t) = List.replicate (t - f).toNat 0 := by
  rw [List.eq_replicate_iff]
  refine ⟨by simp [ownF, rng_len], fun b hb => ?_⟩
  simp only [ownF, List.mem_map] at hb
  obtain ⟨c, hc, rfl⟩ := hb
  have := (rng_mem hc).1
  rw [if_neg (by omega)]
theorem insL_celF {base : Int} : ∀ (es : List El) (last : Int) (k : Nat), 0 ≤ last → Nm base last k es → insL es = ownF (cel es)
  | [], _, _, _, _ => rfl
  | (f, t, T) :: es, last, k, h0, h => by
    rw [cel_cons, ownF_append, show ce1 (f, t, T) = ownT T ++ rng f t from rfl, ownF_append, ownF_own]
    by_cases hT : T = []
    · subst hT
      rw [Nm, if_pos rfl] at h
      rw [ownF_rng (by omega), ← insL_celF es t 2 (by omega) h.2.2.2.2]
      simp [insL]
    · rw [Nm, if_neg hT] at h
      obtain ⟨rfl, rfl, h3, h4⟩ := h
      rw [rng_none (Int.le_refl _), ← insL_celF es last 1 h0 h4]
      simp [insL, ownF]
theorem ownF_take {cs : List Ce} {k : Nat} {c : Ce} (h : cs[k]? = some c) : ownF (cs.take (k + 1)) = ownF (cs.take k) ++ [if c.1 < 0 then 1 else 0] := by
  rw [take_snoc7 h, ownF_append]; rfl
theorem fewD_of {n : Int} {es : List El} (h : fewD n es = true) : Sm es 200 ∧ n ≤ 400 ∧ es.length ≤ 70 := by
  unfold fewD at h
  simp only [Bool.and_eq_true, decide_eq_true_eq] at h
  refine ⟨fun e he => ?_, h.2.1, h.2.2⟩
  exact of_decide_eq_true (List.all_eq_true.1 h.1 e he)
/-- What the document's Told makes of the first half. -/
theorem told12 {w : World} {v : Value} {N : Nat} {es : List El} (hi : isB (N : Int) es = true) (hq : (N : Int) + inS es ≤ 20000) (h : KAt w v (bce N 0 (insX 0 es))) :
    Calls Tryd.prog 16 #[.int .i64 (N : Nat), v] w fun e w' => ToldR N (w.heap.size + 2) (insE N es) e w' ∧ RowKit.Below w.heap.size w w' := by
  have hf : flt (N : Int) (insX 0 es) = 0 := by rw [insX_flt hi, if_neg (by omega)]
  have := rtold_any (N : Int) h (cw_bce hf)
  rw [← elG_tld (gd_of hf).ch] at this
  exact this
theorem toldR_ok {N : Int} {B : Nat} {es : List El} {e : Ending} {w' : World} (h : ToldR N B es e w') (hm : es.length ≤ 60) : ∃ v', e = .returned (.tuple #[.agg #[.int .i64 N, v'], .int .i64 0]) ∧ ElAt w' v' es := by
  unfold ToldR at h
  rw [if_neg (by omega)] at h
  obtain ⟨v', h1, h2⟩ := h
  exact ⟨v', h1, h2.row⟩
theorem toldR_many {N : Int} {B : Nat} {es : List El} {e : Ending} {w' : World} (h : ToldR N B es e w') (hm : 60 < es.length) : e = .returned (.tuple #[.agg #[.int .i64 0, .slice none 0 0], .int .i64 70]) := by
  unfold ToldR at h
  rw [if_pos hm] at h
  exact h
set_option maxHeartbeats 4000000 in
set_option maxRecDepth 100000 in
theorem tells12_any (n : Int) {v : Value} {es : List El} (hl : es.length ≤ maxLen) (hsm : Sm es maxLen) (w : World) (tb : Nat × Nat) (hT : Tab w tb) (h : ElAt w v es) :
    Calls Tryd.prog 3 #[.agg #[.int .i64 n, v]] w fun e w' => e = .returned (.bool true) ∧ RowKit.Below w.heap.size w w' := by
  obtain ⟨va, vcap, rfl, _, _, _⟩ := id h
  have B0 := below_newE (RowKit.Below.refl w.heap.size w) (.cells #[.int .i64 n, .slice va es.length vcap] 24)
  have HK := Hid.mk7 (known12_any _ tb (hT.later B0))
  have HFW := Hid.mk7 (fun W (hE : ElAt W (.slice va es.length vcap) es) => fewD12_any n hE hl)
  have E0 := Hid.mk7 (h.later B0)
  have RD0 := Hid.mk7 (Rd.new w (.int .i64 n) (.slice va es.length vcap))
  have T0 := Hid.mk7 (hT.later B0)
  have G0 := Hid.mk7 B0
  clear B0 hT h
  by_cases hfew : fewD n es = true
  case neg =>
    have hf' : fewD n es = false := by simpa using hfew
    rw [hf'] at HFW
    clear hf' hfew
    go_enter Tryd.func3, Tryd.ntmps3
    have RDc0 := RD0.out.c0
    have RDc1 := RD0.out.c1
    go_wp2_with fail
    refine (HK.out).mono ?_
    rintro e w11 ⟨rfl, bz⟩
    clear RDc0 RDc1
    have E12 := Hid.mk7 (E0.out.later bz)
    have RD12 := Hid.mk7 (RD0.out.later bz)
    have T12 := Hid.mk7 (T0.out.later bz)
    have G12 := Hid.mk7 (G0.out.trans (bz.mono G0.out.size))
    clear E0 RD0 T0 G0 bz
    have RDc0 := RD12.out.c0
    have RDc1 := RD12.out.c1
    go_wp2_with fail
    refine (HFW.out _ E12.out).mono ?_
    rintro e w13 ⟨rfl, bz⟩
    clear RDc0 RDc1
    have E14 := Hid.mk7 (E12.out.later bz)
    have RD14 := Hid.mk7 (RD12.out.later bz)
    have T14 := Hid.mk7 (T12.out.later bz)
    have G14 := Hid.mk7 (G12.out.trans (bz.mono G12.out.size))
    clear E12 RD12 T12 G12 bz
    go_wp2
    go_ret
    exact ⟨rfl, G14.out⟩
  rw [hfew] at HFW
  obtain ⟨hs2, hn4, hl7⟩ := fewD_of hfew
  clear hfew
  by_cases hi : isB n es = true
  case neg =>
    have hi' : isB n es = false := by simpa using hi
    clear hi
    go_enter Tryd.func3, Tryd.ntmps3
    have RDc0 := RD0.out.c0
    have RDc1 := RD0.out.c1
    go_wp2_with fail
    refine (HK.out).mono ?_
    rintro e w11 ⟨rfl, bz⟩
    clear RDc0 RDc1
    have E12 := Hid.mk7 (E0.out.later bz)
    have RD12 := Hid.mk7 (RD0.out.later bz)
    have T12 := Hid.mk7 (T0.out.later bz)
    have G12 := Hid.mk7 (G0.out.trans (bz.mono G0.out.size))
    clear E0 RD0 T0 G0 bz
    have RDc0 := RD12.out.c0
    have RDc1 := RD12.out.c1
    go_wp2_with fail
    refine (HFW.out _ E12.out).mono ?_
    rintro e w13 ⟨rfl, bz⟩
    clear RDc0 RDc1
    have E14 := Hid.mk7 (E12.out.later bz)
    have RD14 := Hid.mk7 (RD12.out.later bz)
    have T14 := Hid.mk7 (T12.out.later bz)
    have G14 := Hid.mk7 (G12.out.trans (bz.mono G12.out.size))
    clear E12 RD12 T12 G12 bz
    have RDc0 := RD14.out.c0
    have RDc1 := RD14.out.c1
    go_wp2_with fail
    refine (split_no n tb hi' (hs2.mono (by omega)) E14.out T14.out).mono ?_
    rintro e w15 ⟨rfl, bz⟩
    clear RDc0 RDc1
    have E16 := Hid.mk7 (E14.out.later bz)
    have RD16 := Hid.mk7 (RD14.out.later bz)
    have T16 := Hid.mk7 (T14.out.later bz)
    have G16 := Hid.mk7 (G14.out.trans (bz.mono G14.out.size))
    clear E14 RD14 T14 G14 bz
    have bz : RowKit.Below w15.heap.size w15 (w15.alloc (.cells #[.int .i64 0, .slice none 0 0] 24)) := below_newE (RowKit.Below.refl _ _) _
    have nw17 := Hid.mk7 (@Rd.new w15 (.int .i64 0) (.slice none 0 0))
    have E18 := Hid.mk7 (E16.out.later bz)
    have RD18 := Hid.mk7 (RD16.out.later bz)
    have T18 := Hid.mk7 (T16.out.later bz)
    have G18 := Hid.mk7 (G16.out.trans (bz.mono G16.out.size))
    clear E16 RD16 T16 G16 bz
    have RDc0 := RD18.out.c0
    have RDc1 := RD18.out.c1
    have R0c0 := nw17.out.c0
    have R0c1 := nw17.out.c1
    go_wp2_with fail
    refine (inserted_no n tb hi' (hs2.mono (by omega)) E18.out T18.out).mono ?_
    rintro e w19 ⟨rfl, bz⟩
    clear RDc0 RDc1 R0c0 R0c1
    have E20 := Hid.mk7 (E18.out.later bz)
    have RD20 := Hid.mk7 (RD18.out.later bz)
    have T20 := Hid.mk7 (T18.out.later bz)
    have G20 := Hid.mk7 (G18.out.trans (bz.mono G18.out.size))
    have R020 := Hid.mk7 (nw17.out.later bz)
    clear E18 RD18 T18 G18 nw17 bz
    have RDc0 := RD20.out.c0
    have RDc1 := RD20.out.c1
    have R0c0 := R020.out.c0
    have R0c1 := R020.out.c1
    go_wp2_with fail
    refine (deleted_no n tb hi' (hs2.mono (by omega)) E20.out T20.out).mono ?_
    rintro e w21 ⟨rfl, bz⟩
    clear RDc0 RDc1 R0c0 R0c1
    have E22 := Hid.mk7 (E20.out.later bz)
    have RD22 := Hid.mk7 (RD20.out.later bz)
    have T22 := Hid.mk7 (T20.out.later bz)
    have G22 := Hid.mk7 (G20.out.trans (bz.mono G20.out.size))
    have R022 := Hid.mk7 (R020.out.later bz)
    clear E20 RD20 T20 G20 R020 bz
    have RDc0 := RD22.out.c0
    have RDc1 := RD22.out.c1
    have R0c0 := R022.out.c0
    have R0c1 := R022.out.c1
    go_wp2_with fail
    refine (ris_noF hi' hsm E22.out).mono ?_
    rintro e w23 ⟨rfl, bz⟩
    clear RDc0 RDc1 R0c0 R0c1
    have E24 := Hid.mk7 (E22.out.later bz)
    have RD24 := Hid.mk7 (RD22.out.later bz)
    have T24 := Hid.mk7 (T22.out.later bz)
    have G24 := Hid.mk7 (G22.out.trans (bz.mono G22.out.size))
    have R024 := Hid.mk7 (R022.out.later bz)
    clear E22 RD22 T22 G22 R022 bz
    go_wp2
    go_ret
    exact ⟨rfl, G24.out⟩
  have hd := dl_of hi
  obtain ⟨N, rfl⟩ : ∃ N : Nat, n = (N : Int) := ⟨n.toNat, by have := hd.b0; omega⟩
  have hin := (show inS es ≤ 12000 from Nat.le_trans (inS_bd es 200 hs2) (by have := hd.len; omega))
  have HIS := Hid.mk7 hi
  have HFIT : Hid ((N : Int) + inS es ≤ 20000) := by show _ ≤ _; omega
  have HDL := Hid.mk7 hd
  have HOI := (ins_ok8 hi).1
  have HOG := (gon_ok8 hi).1
  have HIC := Hid.mk7 (insL_celF es 0 0 (Int.le_refl _) hd.nm)
  have hcl : (cel es).length ≤ 20000 := by
    have h1 := cel_size es 0 0 hd.nm
    have h2 := hd.sz
    rw [szE_two] at h1
    omega
  have hl60 := hd.len
  clear hi hd hin
  by_cases hm : (insE N es).length ≤ 60
  · go_enter Tryd.func3, Tryd.ntmps3
    have RDc0 := RD0.out.c0
    have RDc1 := RD0.out.c1
    go_wp2_with fail
    refine (HK.out).mono ?_
    rintro e w11 ⟨rfl, bz⟩
    clear RDc0 RDc1
    have E12 := Hid.mk7 (E0.out.later bz)
    have RD12 := Hid.mk7 (RD0.out.later bz)
    have T12 := Hid.mk7 (T0.out.later bz)
    have G12 := Hid.mk7 (G0.out.trans (bz.mono G0.out.size))
    clear E0 RD0 T0 G0 bz
    have RDc0 := RD12.out.c0
    have RDc1 := RD12.out.c1
    go_wp2_with fail
    refine (HFW.out _ E12.out).mono ?_
    rintro e w13 ⟨rfl, bz⟩
    clear RDc0 RDc1
    have E14 := Hid.mk7 (E12.out.later bz)
    have RD14 := Hid.mk7 (RD12.out.later bz)
    have T14 := Hid.mk7 (T12.out.later bz)
    have G14 := Hid.mk7 (G12.out.trans (bz.mono G12.out.size))
    clear E12 RD12 T12 G12 bz
    have RDc0 := RD14.out.c0
    have RDc1 := RD14.out.c1
    go_wp2_with fail
    refine (split_v HIS.out HFIT.out rfl hm rfl E14.out T14.out).mono ?_
    rintro e w15 ⟨v3, p3, rfl, h3, s3, bz⟩
    clear RDc0 RDc1
    obtain ⟨a3, c3, rfl, _, _, _⟩ := id h3
    have E16 := Hid.mk7 (E14.out.later bz)
    have RD16 := Hid.mk7 (RD14.out.later bz)
    have T16 := Hid.mk7 (T14.out.later bz)
    have G16 := Hid.mk7 (G14.out.trans (bz.mono G14.out.size))
    clear E14 RD14 T14 G14 bz
    have I17 := Hid.mk7 (h3)
    have S18 := Hid.mk7 (s3)
    clear h3 s3
    have bz : RowKit.Below w15.heap.size w15 (w15.alloc (.cells #[.int .i64 (N : Nat), .slice a3 (insE N es).length c3] 24)) := below_newE (RowKit.Below.refl _ _) _
    have nw19 := Hid.mk7 (@Rd.new w15 (.int .i64 (N : Nat)) (.slice a3 (insE N es).length c3))
    have E20 := Hid.mk7 (E16.out.later bz)
    have RD20 := Hid.mk7 (RD16.out.later bz)
    have T20 := Hid.mk7 (T16.out.later bz)
    have G20 := Hid.mk7 (G16.out.trans (bz.mono G16.out.size))
    have I20 := Hid.mk7 (I17.out.later bz)
    have S20 := Hid.mk7 (S18.out.later bz)
    clear E16 RD16 T16 G16 I17 S18 bz
    have RDc0 := RD20.out.c0
    have RDc1 := RD20.out.c1
    have RIc0 := nw19.out.c0
    have RIc1 := nw19.out.c1
    go_wp2_with fail
    refine (inserted_v HIS.out HIC.out E20.out T20.out).mono ?_
    rintro e w21 ⟨p4, rfl, s4, bz⟩
    clear RDc0 RDc1 RIc0 RIc1
    have E22 := Hid.mk7 (E20.out.later bz)
    have RD22 := Hid.mk7 (RD20.out.later bz)
    have T22 := Hid.mk7 (T20.out.later bz)
    have G22 := Hid.mk7 (G20.out.trans (bz.mono G20.out.size))
    have I22 := Hid.mk7 (I20.out.later bz)
    have S22 := Hid.mk7 (S20.out.later bz)
    have RI22 := Hid.mk7 (nw19.out.later bz)
    clear E20 RD20 T20 G20 I20 S20 nw19 bz
    have A23 := Hid.mk7 (s4)
    clear s4
    have RDc0 := RD22.out.c0
    have RDc1 := RD22.out.c1
    have RIc0 := RI22.out.c0
    have RIc1 := RI22.out.c1
    go_wp2_with fail
    refine (deleted_v HIS.out rfl E22.out T22.out).mono ?_
    rintro e w24 ⟨p5, rfl, s5, bz⟩
    clear RDc0 RDc1 RIc0 RIc1
    have E25 := Hid.mk7 (E22.out.later bz)
    have RD25 := Hid.mk7 (RD22.out.later bz)
    have T25 := Hid.mk7 (T22.out.later bz)
    have G25 := Hid.mk7 (G22.out.trans (bz.mono G22.out.size))
    have I25 := Hid.mk7 (I22.out.later bz)
    have S25 := Hid.mk7 (S22.out.later bz)
    have RI25 := Hid.mk7 (RI22.out.later bz)
    have A25 := Hid.mk7 (A23.out.later bz)
    clear E22 RD22 T22 G22 I22 S22 RI22 A23 bz
    have B26 := Hid.mk7 (s5)
    clear s5
    have RDc0 := RD25.out.c0
    have RDc1 := RD25.out.c1
    have RIc0 := RI25.out.c0
    have RIc1 := RI25.out.c1
    go_wp2_with fail
    refine (ris_yesF HIS.out E25.out).mono ?_
    rintro e w27 ⟨rfl, bz⟩
    clear RDc0 RDc1 RIc0 RIc1
    have E28 := Hid.mk7 (E25.out.later bz)
    have RD28 := Hid.mk7 (RD25.out.later bz)
    have T28 := Hid.mk7 (T25.out.later bz)
    have G28 := Hid.mk7 (G25.out.trans (bz.mono G25.out.size))
    have I28 := Hid.mk7 (I25.out.later bz)
    have S28 := Hid.mk7 (S25.out.later bz)
    have RI28 := Hid.mk7 (RI25.out.later bz)
    have A28 := Hid.mk7 (A25.out.later bz)
    have B28 := Hid.mk7 (B26.out.later bz)
    clear E25 RD25 T25 G25 I25 S25 RI25 A25 B26 bz
    have RDc0 := RD28.out.c0
    have RDc1 := RD28.out.c1
    have RIc0 := RI28.out.c0
    have RIc1 := RI28.out.c1
    go_wp2_with fail
    refine (rcells_any (N : Int) E28.out HDL.out).mono ?_
    rintro e w29 ⟨v6, rfl, h6, bz⟩
    clear RDc0 RDc1 RIc0 RIc1
    obtain ⟨ca, cc, rfl, hcc, hck⟩ := h6.row
    have E30 := Hid.mk7 (E28.out.later bz)
    have RD30 := Hid.mk7 (RD28.out.later bz)
    have T30 := Hid.mk7 (T28.out.later bz)
    have G30 := Hid.mk7 (G28.out.trans (bz.mono G28.out.size))
    have I30 := Hid.mk7 (I28.out.later bz)
    have S30 := Hid.mk7 (S28.out.later bz)
    have RI30 := Hid.mk7 (RI28.out.later bz)
    have A30 := Hid.mk7 (A28.out.later bz)
    have B30 := Hid.mk7 (B28.out.later bz)
    clear E28 RD28 T28 G28 I28 S28 RI28 A28 B28 bz
    have C31 := Hid.mk7 (h6.row)
    have HCK := Hid.mk7 hck
    clear hck
    obtain ⟨i0, hi0, hz0, hz1, hz2⟩ := info_parts Tryd.info_int7
    have HI := Hid.mk7 hi0
    clear hi0
    go_wp2
    go_loopw [11, 12] (fun rv iv wr => ∃ k : Nat, k ≤ (cel es).length ∧ iv = .int .i64 (k : Nat) ∧ Hid (OwnI wr w29.heap.size rv (ownF ((cel es).take k))) ∧ RowKit.Below w29.heap.size w29 wr) (fun _ iv _ => (cel es).length - (intOf iv).toNat)
    case atStart => exact ⟨0, Nat.zero_le _, rfl, OwnI.nil _ _, RowKit.Below.refl _ _⟩
    case round =>
      obtain ⟨k, hk, rfl, HO, hb⟩ := hrel
      have hsz := hb.size
      by_cases hlt : k < (cel es).length
      · obtain ⟨⟨ca1, cb1⟩, hr⟩ : ∃ r, (cel es)[k]? = some r := ⟨(cel es)[k], List.getElem?_eq_getElem hlt⟩
        obtain ⟨g, off, rfl, q0, q1⟩ := HCK.out k _ hr
        have c0 := cell_later7 hb (Nat.le_refl _) q0
        have gl : g < wr.heap.size := World.block_lt_of_cell? wr ⟨g, _, none⟩ c0
        have HTK := Hid.mk7 (ownF_take hr)
        have htl : (ownF ((cel es).take k)).length ≤ 20000 := by simp [ownF]; omega
        obtain ⟨X, HX⟩ : ∃ X, Hid (ownF ((cel es).take k) = X) := ⟨_, Hid.mk7 rfl⟩
        rw [HX.out] at HO htl HTK
        simp only at c0 HTK
        clear q0 q1 hr
        by_cases hneg : ca1 < 0
        · have d1 : decide (ca1 < 0) = true := decide_eq_true hneg
          rw [if_pos hneg] at HTK
          go_wp2_with (at_builtin; refine wpList_append_own _ rfl _ _ 35 rfl w29.heap.size 3 i0 (.int .i64 0) 1 8 Tryd.underlying35 HI.out hz0 hz1 hz2 rfl (by decide) _ _ _ rfl (World.ownsRow.alloc HO.out _) ⟨_, 0, none⟩ 1 1 [.int .i64 1] rfl rfl (cell_oneF _ _ _) (fun u hu => by simp at hu; subst hu; rfl) (by unfold maxLen; omega) (by omega) (by simp; omega) ?_)
          intro v' w3 hown hgrow _
          have HO3 := Hid.mk7 (ownI_pushF (c := 1) rfl hown)
          rw [← HTK.out] at HO3
          have hb3 := (hb.alloc hsz (.cells #[.int .i64 1] 3)).grown hgrow (by simp; omega) (fun j hj => (World.ownsRow.lt HO.out j hj).1)
          clear hown hgrow HO hb c0
          go_wp2
          go_roundw
          case rel => exact ⟨k + 1, by omega, by go_num, HO3, hb3⟩
          case measure => simp [intOf]; omega
        · have d1 : decide (ca1 < 0) = false := decide_eq_false hneg
          rw [if_neg hneg] at HTK
          go_wp2_with (at_builtin; refine wpList_append_own _ rfl _ _ 35 rfl w29.heap.size 3 i0 (.int .i64 0) 1 8 Tryd.underlying35 HI.out hz0 hz1 hz2 rfl (by decide) _ _ _ rfl (World.ownsRow.alloc HO.out _) ⟨_, 0, none⟩ 1 1 [.int .i64 0] rfl rfl (cell_oneF _ _ _) (fun u hu => by simp at hu; subst hu; rfl) (by unfold maxLen; omega) (by omega) (by simp; omega) ?_)
          intro v' w3 hown hgrow _
          have HO3 := Hid.mk7 (ownI_pushF (c := 0) rfl hown)
          rw [← HTK.out] at HO3
          have hb3 := (hb.alloc hsz (.cells #[.int .i64 0] 3)).grown hgrow (by simp; omega) (fun j hj => (World.ownsRow.lt HO.out j hj).1)
          clear hown hgrow HO hb c0
          go_wp2
          go_roundw
          case rel => exact ⟨k + 1, by omega, by go_num, HO3, hb3⟩
          case measure => simp [intOf]; omega
      · obtain rfl : k = (cel es).length := by omega
        have HIN := Hid.mk7 HO.out.num
        rw [List.take_length] at HIN
        clear HO
        have bz := hb
        clear hb
        have E32 := Hid.mk7 (E30.out.later bz)
        have RD32 := Hid.mk7 (RD30.out.later bz)
        have T32 := Hid.mk7 (T30.out.later bz)
        have G32 := Hid.mk7 (G30.out.trans (bz.mono G30.out.size))
        have I32 := Hid.mk7 (I30.out.later bz)
        have S32 := Hid.mk7 (S30.out.later bz)
        have RI32 := Hid.mk7 (RI30.out.later bz)
        have A32 := Hid.mk7 (A30.out.later bz)
        have B32 := Hid.mk7 (B30.out.later bz)
        have C32 := Hid.mk7 (C31.out.later bz)
        clear E30 RD30 T30 G30 I30 S30 RI30 A30 B30 C31 bz
        have RDc0 := RD32.out.c0
        have RDc1 := RD32.out.c1
        have RIc0 := RI32.out.c0
        have RIc1 := RI32.out.c1
        go_wp2_with fail
        refine (rsplit_any N E32.out HIS.out).mono ?_
        rintro e w33 ⟨v7, u7, rfl, h7, n7, bz⟩
        clear RDc0 RDc1 RIc0 RIc1
        have E34 := Hid.mk7 (E32.out.later bz)
        have RD34 := Hid.mk7 (RD32.out.later bz)
        have T34 := Hid.mk7 (T32.out.later bz)
        have G34 := Hid.mk7 (G32.out.trans (bz.mono G32.out.size))
        have I34 := Hid.mk7 (I32.out.later bz)
        have S34 := Hid.mk7 (S32.out.later bz)
        have RI34 := Hid.mk7 (RI32.out.later bz)
        have A34 := Hid.mk7 (A32.out.later bz)
        have B34 := Hid.mk7 (B32.out.later bz)
        have C34 := Hid.mk7 (C32.out.later bz)
        have IN34 := Hid.mk7 (HIN.out.later bz)
        clear E32 RD32 T32 G32 I32 S32 RI32 A32 B32 C32 HIN bz
        have CC35 := Hid.mk7 (h7)
        have GO36 := Hid.mk7 (n7)
        clear h7 n7
        have RDc0 := RD34.out.c0
        have RDc1 := RD34.out.c1
        have RIc0 := RI34.out.c0
        have RIc1 := RI34.out.c1
        go_wp2_with fail
        refine (told12 HIS.out HFIT.out CC35.out).mono ?_
        rintro e w8 ⟨ht, bz⟩
        obtain ⟨v8, rfl, h8⟩ := toldR_ok ht hm
        obtain ⟨a8, c8, rfl, _, _, _⟩ := id h8
        clear RDc0 RDc1 RIc0 RIc1
        have E37 := Hid.mk7 (E34.out.later bz)
        have RD37 := Hid.mk7 (RD34.out.later bz)
        have T37 := Hid.mk7 (T34.out.later bz)
        have G37 := Hid.mk7 (G34.out.trans (bz.mono G34.out.size))
        have I37 := Hid.mk7 (I34.out.later bz)
        have S37 := Hid.mk7 (S34.out.later bz)
        have RI37 := Hid.mk7 (RI34.out.later bz)
        have A37 := Hid.mk7 (A34.out.later bz)
        have B37 := Hid.mk7 (B34.out.later bz)
        have C37 := Hid.mk7 (C34.out.later bz)
        have IN37 := Hid.mk7 (IN34.out.later bz)
        have CC37 := Hid.mk7 (CC35.out.later bz)
        have GO37 := Hid.mk7 (GO36.out.later bz)
        clear E34 RD34 T34 G34 I34 S34 RI34 A34 B34 C34 IN34 CC35 GO36 bz
        have Q38 := Hid.mk7 (h8)
        clear ht h8
        have bz : RowKit.Below w8.heap.size w8 (w8.alloc (.cells #[.int .i64 (N : Nat), .slice a8 (insE N es).length c8] 24)) := below_newE (RowKit.Below.refl _ _) _
        have nw39 := Hid.mk7 (@Rd.new w8 (.int .i64 (N : Nat)) (.slice a8 (insE N es).length c8))
        have E40 := Hid.mk7 (E37.out.later bz)
        have RD40 := Hid.mk7 (RD37.out.later bz)
        have T40 := Hid.mk7 (T37.out.later bz)
        have G40 := Hid.mk7 (G37.out.trans (bz.mono G37.out.size))
        have I40 := Hid.mk7 (I37.out.later bz)
        have S40 := Hid.mk7 (S37.out.later bz)
        have RI40 := Hid.mk7 (RI37.out.later bz)
        have A40 := Hid.mk7 (A37.out.later bz)
        have B40 := Hid.mk7 (B37.out.later bz)
        have C40 := Hid.mk7 (C37.out.later bz)
        have IN40 := Hid.mk7 (IN37.out.later bz)
        have CC40 := Hid.mk7 (CC37.out.later bz)
        have GO40 := Hid.mk7 (GO37.out.later bz)
        have Q40 := Hid.mk7 (Q38.out.later bz)
        clear E37 RD37 T37 G37 I37 S37 RI37 A37 B37 C37 IN37 CC37 GO37 Q38 bz
        have RDc0 := RD40.out.c0
        have RDc1 := RD40.out.c1
        have RIc0 := RI40.out.c0
        have RIc1 := RI40.out.c1
        have RQc0 := nw39.out.c0
        have RQc1 := nw39.out.c1
        go_wp2_with fail
        refine (is12_true A40.out IN40.out (by rw [← HIC.out]; exact HOI)).mono ?_
        rintro e w41 ⟨rfl, bz⟩
        clear RDc0 RDc1 RIc0 RIc1 RQc0 RQc1
        have E42 := Hid.mk7 (E40.out.later bz)
        have RD42 := Hid.mk7 (RD40.out.later bz)
        have T42 := Hid.mk7 (T40.out.later bz)
        have G42 := Hid.mk7 (G40.out.trans (bz.mono G40.out.size))
        have I42 := Hid.mk7 (I40.out.later bz)
        have S42 := Hid.mk7 (S40.out.later bz)
        have RI42 := Hid.mk7 (RI40.out.later bz)
        have A42 := Hid.mk7 (A40.out.later bz)
        have B42 := Hid.mk7 (B40.out.later bz)
        have C42 := Hid.mk7 (C40.out.later bz)
        have IN42 := Hid.mk7 (IN40.out.later bz)
        have CC42 := Hid.mk7 (CC40.out.later bz)
        have GO42 := Hid.mk7 (GO40.out.later bz)
        have Q42 := Hid.mk7 (Q40.out.later bz)
        have RQ42 := Hid.mk7 (nw39.out.later bz)
        clear E40 RD40 T40 G40 I40 S40 RI40 A40 B40 C40 IN40 CC40 GO40 Q40 nw39 bz
        have RDc0 := RD42.out.c0
        have RDc1 := RD42.out.c1
        have RIc0 := RI42.out.c0
        have RIc1 := RI42.out.c1
        have RQc0 := RQ42.out.c0
        have RQc1 := RQ42.out.c1
        go_wp2_with fail
        refine (is12_true B42.out GO42.out HOG).mono ?_
        rintro e w43 ⟨rfl, bz⟩
        clear RDc0 RDc1 RIc0 RIc1 RQc0 RQc1
        have E44 := Hid.mk7 (E42.out.later bz)
        have RD44 := Hid.mk7 (RD42.out.later bz)
        have T44 := Hid.mk7 (T42.out.later bz)
        have G44 := Hid.mk7 (G42.out.trans (bz.mono G42.out.size))
        have I44 := Hid.mk7 (I42.out.later bz)
        have S44 := Hid.mk7 (S42.out.later bz)
        have RI44 := Hid.mk7 (RI42.out.later bz)
        have A44 := Hid.mk7 (A42.out.later bz)
        have B44 := Hid.mk7 (B42.out.later bz)
        have C44 := Hid.mk7 (C42.out.later bz)
        have IN44 := Hid.mk7 (IN42.out.later bz)
        have CC44 := Hid.mk7 (CC42.out.later bz)
        have GO44 := Hid.mk7 (GO42.out.later bz)
        have Q44 := Hid.mk7 (Q42.out.later bz)
        have RQ44 := Hid.mk7 (RQ42.out.later bz)
        clear E42 RD42 T42 G42 I42 S42 RI42 A42 B42 C42 IN42 CC42 GO42 Q42 RQ42 bz
        have RDc0 := RD44.out.c0
        have RDc1 := RD44.out.c1
        have RIc0 := RI44.out.c0
        have RIc1 := RI44.out.c1
        have RQc0 := RQ44.out.c0
        have RQc1 := RQ44.out.c1
        go_wp2_with fail
        refine (rsame_selfF (N : Int) I44.out Q44.out hm).mono ?_
        rintro e w45 ⟨rfl, bz⟩
        clear RDc0 RDc1 RIc0 RIc1 RQc0 RQc1
        have E46 := Hid.mk7 (E44.out.later bz)
        have RD46 := Hid.mk7 (RD44.out.later bz)
        have T46 := Hid.mk7 (T44.out.later bz)
        have G46 := Hid.mk7 (G44.out.trans (bz.mono G44.out.size))
        have I46 := Hid.mk7 (I44.out.later bz)
        have S46 := Hid.mk7 (S44.out.later bz)
        have RI46 := Hid.mk7 (RI44.out.later bz)
        have A46 := Hid.mk7 (A44.out.later bz)
        have B46 := Hid.mk7 (B44.out.later bz)
        have C46 := Hid.mk7 (C44.out.later bz)
        have IN46 := Hid.mk7 (IN44.out.later bz)
        have CC46 := Hid.mk7 (CC44.out.later bz)
        have GO46 := Hid.mk7 (GO44.out.later bz)
        have Q46 := Hid.mk7 (Q44.out.later bz)
        have RQ46 := Hid.mk7 (RQ44.out.later bz)
        clear E44 RD44 T44 G44 I44 S44 RI44 A44 B44 C44 IN44 CC44 GO44 Q44 RQ44 bz
        have RDc0 := RD46.out.c0
        have RDc1 := RD46.out.c1
        have RIc0 := RI46.out.c0
        have RIc1 := RI46.out.c1
        have RQc0 := RQ46.out.c0
        have RQc1 := RQ46.out.c1
        go_wp2_with fail
        refine (is12_true S46.out GO46.out HOG).mono ?_
        rintro e w47 ⟨rfl, bz⟩
        clear RDc0 RDc1 RIc0 RIc1 RQc0 RQc1
        have E48 := Hid.mk7 (E46.out.later bz)
        have RD48 := Hid.mk7 (RD46.out.later bz)
        have T48 := Hid.mk7 (T46.out.later bz)
        have G48 := Hid.mk7 (G46.out.trans (bz.mono G46.out.size))
        have I48 := Hid.mk7 (I46.out.later bz)
        have S48 := Hid.mk7 (S46.out.later bz)
        have RI48 := Hid.mk7 (RI46.out.later bz)
        have A48 := Hid.mk7 (A46.out.later bz)
        have B48 := Hid.mk7 (B46.out.later bz)
        have C48 := Hid.mk7 (C46.out.later bz)
        have IN48 := Hid.mk7 (IN46.out.later bz)
        have CC48 := Hid.mk7 (CC46.out.later bz)
        have GO48 := Hid.mk7 (GO46.out.later bz)
        have Q48 := Hid.mk7 (Q46.out.later bz)
        have RQ48 := Hid.mk7 (RQ46.out.later bz)
        clear E46 RD46 T46 G46 I46 S46 RI46 A46 B46 C46 IN46 CC46 GO46 Q46 RQ46 bz
        go_wp2
        go_ret
        exact ⟨rfl, G48.out⟩
  · go_enter Tryd.func3, Tryd.ntmps3
    have RDc0 := RD0.out.c0
    have RDc1 := RD0.out.c1
    go_wp2_with fail
    refine (HK.out).mono ?_
    rintro e w11 ⟨rfl, bz⟩
    clear RDc0 RDc1
    have E12 := Hid.mk7 (E0.out.later bz)
    have RD12 := Hid.mk7 (RD0.out.later bz)
    have T12 := Hid.mk7 (T0.out.later bz)
    have G12 := Hid.mk7 (G0.out.trans (bz.mono G0.out.size))
    clear E0 RD0 T0 G0 bz
    have RDc0 := RD12.out.c0
    have RDc1 := RD12.out.c1
    go_wp2_with fail
    refine (HFW.out _ E12.out).mono ?_
    rintro e w13 ⟨rfl, bz⟩
    clear RDc0 RDc1
    have E14 := Hid.mk7 (E12.out.later bz)
    have RD14 := Hid.mk7 (RD12.out.later bz)
    have T14 := Hid.mk7 (T12.out.later bz)
    have G14 := Hid.mk7 (G12.out.trans (bz.mono G12.out.size))
    clear E12 RD12 T12 G12 bz
    have HSB : Hid (bldE N (insX 0 es) = 70) := by
      show _ = _
      unfold bldE
      rw [insX_flt HIS.out, if_neg (show ¬ 20000 < (N : Int) + inS es by have := HFIT.out; omega), if_neg (by omega)]
      unfold insE at hm
      rw [if_pos (by omega)]
    have RDc0 := RD14.out.c0
    have RDc1 := RD14.out.c1
    go_wp2_with fail
    refine (split_bad (er := 70) HIS.out HSB.out (by omega) E14.out T14.out).mono ?_
    rintro e w15 ⟨rfl, bz⟩
    clear RDc0 RDc1
    have E16 := Hid.mk7 (E14.out.later bz)
    have RD16 := Hid.mk7 (RD14.out.later bz)
    have T16 := Hid.mk7 (T14.out.later bz)
    have G16 := Hid.mk7 (G14.out.trans (bz.mono G14.out.size))
    clear E14 RD14 T14 G14 bz
    have bz : RowKit.Below w15.heap.size w15 (w15.alloc (.cells #[.int .i64 0, .slice none 0 0] 24)) := below_newE (RowKit.Below.refl _ _) _
    have nw17 := Hid.mk7 (@Rd.new w15 (.int .i64 0) (.slice none 0 0))
    have E18 := Hid.mk7 (E16.out.later bz)
    have RD18 := Hid.mk7 (RD16.out.later bz)
    have T18 := Hid.mk7 (T16.out.later bz)
    have G18 := Hid.mk7 (G16.out.trans (bz.mono G16.out.size))
    clear E16 RD16 T16 G16 bz
    have RDc0 := RD18.out.c0
    have RDc1 := RD18.out.c1
    have RIc0 := nw17.out.c0
    have RIc1 := nw17.out.c1
    go_wp2_with fail
    refine (inserted_v HIS.out HIC.out E18.out T18.out).mono ?_
    rintro e w19 ⟨p4, rfl, s4, bz⟩
    clear RDc0 RDc1 RIc0 RIc1
    have E20 := Hid.mk7 (E18.out.later bz)
    have RD20 := Hid.mk7 (RD18.out.later bz)
    have T20 := Hid.mk7 (T18.out.later bz)
    have G20 := Hid.mk7 (G18.out.trans (bz.mono G18.out.size))
    have RI20 := Hid.mk7 (nw17.out.later bz)
    clear E18 RD18 T18 G18 nw17 bz
    have A21 := Hid.mk7 (s4)
    clear s4
    have RDc0 := RD20.out.c0
    have RDc1 := RD20.out.c1
    have RIc0 := RI20.out.c0
    have RIc1 := RI20.out.c1
    go_wp2_with fail
    refine (deleted_v HIS.out rfl E20.out T20.out).mono ?_
    rintro e w22 ⟨p5, rfl, s5, bz⟩
    clear RDc0 RDc1 RIc0 RIc1
    have E23 := Hid.mk7 (E20.out.later bz)
    have RD23 := Hid.mk7 (RD20.out.later bz)
    have T23 := Hid.mk7 (T20.out.later bz)
    have G23 := Hid.mk7 (G20.out.trans (bz.mono G20.out.size))
    have RI23 := Hid.mk7 (RI20.out.later bz)
    have A23 := Hid.mk7 (A21.out.later bz)
    clear E20 RD20 T20 G20 RI20 A21 bz
    have B24 := Hid.mk7 (s5)
    clear s5
    have RDc0 := RD23.out.c0
    have RDc1 := RD23.out.c1
    have RIc0 := RI23.out.c0
    have RIc1 := RI23.out.c1
    go_wp2_with fail
    refine (ris_yesF HIS.out E23.out).mono ?_
    rintro e w25 ⟨rfl, bz⟩
    clear RDc0 RDc1 RIc0 RIc1
    have E26 := Hid.mk7 (E23.out.later bz)
    have RD26 := Hid.mk7 (RD23.out.later bz)
    have T26 := Hid.mk7 (T23.out.later bz)
    have G26 := Hid.mk7 (G23.out.trans (bz.mono G23.out.size))
    have RI26 := Hid.mk7 (RI23.out.later bz)
    have A26 := Hid.mk7 (A23.out.later bz)
    have B26 := Hid.mk7 (B24.out.later bz)
    clear E23 RD23 T23 G23 RI23 A23 B24 bz
    have RDc0 := RD26.out.c0
    have RDc1 := RD26.out.c1
    have RIc0 := RI26.out.c0
    have RIc1 := RI26.out.c1
    go_wp2_with fail
    refine (rcells_any (N : Int) E26.out HDL.out).mono ?_
    rintro e w27 ⟨v6, rfl, h6, bz⟩
    clear RDc0 RDc1 RIc0 RIc1
    obtain ⟨ca, cc, rfl, hcc, hck⟩ := h6.row
    have E28 := Hid.mk7 (E26.out.later bz)
    have RD28 := Hid.mk7 (RD26.out.later bz)
    have T28 := Hid.mk7 (T26.out.later bz)
    have G28 := Hid.mk7 (G26.out.trans (bz.mono G26.out.size))
    have RI28 := Hid.mk7 (RI26.out.later bz)
    have A28 := Hid.mk7 (A26.out.later bz)
    have B28 := Hid.mk7 (B26.out.later bz)
    clear E26 RD26 T26 G26 RI26 A26 B26 bz
    have C29 := Hid.mk7 (h6.row)
    have HCK := Hid.mk7 hck
    clear hck
    obtain ⟨i0, hi0, hz0, hz1, hz2⟩ := info_parts Tryd.info_int7
    have HI := Hid.mk7 hi0
    clear hi0
    go_wp2
    go_loopw [11, 12] (fun rv iv wr => ∃ k : Nat, k ≤ (cel es).length ∧ iv = .int .i64 (k : Nat) ∧ Hid (OwnI wr w27.heap.size rv (ownF ((cel es).take k))) ∧ RowKit.Below w27.heap.size w27 wr) (fun _ iv _ => (cel es).length - (intOf iv).toNat)
    case atStart => exact ⟨0, Nat.zero_le _, rfl, OwnI.nil _ _, RowKit.Below.refl _ _⟩
    case round =>
      obtain ⟨k, hk, rfl, HO, hb⟩ := hrel
      have hsz := hb.size
      by_cases hlt : k < (cel es).length
      · obtain ⟨⟨ca1, cb1⟩, hr⟩ : ∃ r, (cel es)[k]? = some r := ⟨(cel es)[k], List.getElem?_eq_getElem hlt⟩
        obtain ⟨g, off, rfl, q0, q1⟩ := HCK.out k _ hr
        have c0 := cell_later7 hb (Nat.le_refl _) q0
        have gl : g < wr.heap.size := World.block_lt_of_cell? wr ⟨g, _, none⟩ c0
        have HTK := Hid.mk7 (ownF_take hr)
        have htl : (ownF ((cel es).take k)).length ≤ 20000 := by simp [ownF]; omega
        obtain ⟨X, HX⟩ : ∃ X, Hid (ownF ((cel es).take k) = X) := ⟨_, Hid.mk7 rfl⟩
        rw [HX.out] at HO htl HTK
        simp only at c0 HTK
        clear q0 q1 hr
        by_cases hneg : ca1 < 0
        · have d1 : decide (ca1 < 0) = true := decide_eq_true hneg
          rw [if_pos hneg] at HTK
          go_wp2_with (at_builtin; refine wpList_append_own _ rfl _ _ 35 rfl w27.heap.size 3 i0 (.int .i64 0) 1 8 Tryd.underlying35 HI.out hz0 hz1 hz2 rfl (by decide) _ _ _ rfl (World.ownsRow.alloc HO.out _) ⟨_, 0, none⟩ 1 1 [.int .i64 1] rfl rfl (cell_oneF _ _ _) (fun u hu => by simp at hu; subst hu; rfl) (by unfold maxLen; omega) (by omega) (by simp; omega) ?_)
          intro v' w3 hown hgrow _
          have HO3 := Hid.mk7 (ownI_pushF (c := 1) rfl hown)
          rw [← HTK.out] at HO3
          have hb3 := (hb.alloc hsz (.cells #[.int .i64 1] 3)).grown hgrow (by simp; omega) (fun j hj => (World.ownsRow.lt HO.out j hj).1)
          clear hown hgrow HO hb c0
          go_wp2
          go_roundw
          case rel => exact ⟨k + 1, by omega, by go_num, HO3, hb3⟩
          case measure => simp [intOf]; omega
        · have d1 : decide (ca1 < 0) = false := decide_eq_false hneg
          rw [if_neg hneg] at HTK
          go_wp2_with (at_builtin; refine wpList_append_own _ rfl _ _ 35 rfl w27.heap.size 3 i0 (.int .i64 0) 1 8 Tryd.underlying35 HI.out hz0 hz1 hz2 rfl (by decide) _ _ _ rfl (World.ownsRow.alloc HO.out _) ⟨_, 0, none⟩ 1 1 [.int .i64 0] rfl rfl (cell_oneF _ _ _) (fun u hu => by simp at hu; subst hu; rfl) (by unfold maxLen; omega) (by omega) (by simp; omega) ?_)
          intro v' w3 hown hgrow _
          have HO3 := Hid.mk7 (ownI_pushF (c := 0) rfl hown)
          rw [← HTK.out] at HO3
          have hb3 := (hb.alloc hsz (.cells #[.int .i64 0] 3)).grown hgrow (by simp; omega) (fun j hj => (World.ownsRow.lt HO.out j hj).1)
          clear hown hgrow HO hb c0
          go_wp2
          go_roundw
          case rel => exact ⟨k + 1, by omega, by go_num, HO3, hb3⟩
          case measure => simp [intOf]; omega
      · obtain rfl : k = (cel es).length := by omega
        have HIN := Hid.mk7 HO.out.num
        rw [List.take_length] at HIN
        clear HO
        have bz := hb
        clear hb
        have E30 := Hid.mk7 (E28.out.later bz)
        have RD30 := Hid.mk7 (RD28.out.later bz)
        have T30 := Hid.mk7 (T28.out.later bz)
        have G30 := Hid.mk7 (G28.out.trans (bz.mono G28.out.size))
        have RI30 := Hid.mk7 (RI28.out.later bz)
        have A30 := Hid.mk7 (A28.out.later bz)
        have B30 := Hid.mk7 (B28.out.later bz)
        have C30 := Hid.mk7 (C29.out.later bz)
        clear E28 RD28 T28 G28 RI28 A28 B28 C29 bz
        have RDc0 := RD30.out.c0
        have RDc1 := RD30.out.c1
        have RIc0 := RI30.out.c0
        have RIc1 := RI30.out.c1
        go_wp2_with fail
        refine (rsplit_any N E30.out HIS.out).mono ?_
        rintro e w31 ⟨v7, u7, rfl, h7, n7, bz⟩
        clear RDc0 RDc1 RIc0 RIc1
        have E32 := Hid.mk7 (E30.out.later bz)
        have RD32 := Hid.mk7 (RD30.out.later bz)
        have T32 := Hid.mk7 (T30.out.later bz)
        have G32 := Hid.mk7 (G30.out.trans (bz.mono G30.out.size))
        have RI32 := Hid.mk7 (RI30.out.later bz)
        have A32 := Hid.mk7 (A30.out.later bz)
        have B32 := Hid.mk7 (B30.out.later bz)
        have C32 := Hid.mk7 (C30.out.later bz)
        have IN32 := Hid.mk7 (HIN.out.later bz)
        clear E30 RD30 T30 G30 RI30 A30 B30 C30 HIN bz
        have CC33 := Hid.mk7 (h7)
        have GO34 := Hid.mk7 (n7)
        clear h7 n7
        have RDc0 := RD32.out.c0
        have RDc1 := RD32.out.c1
        have RIc0 := RI32.out.c0
        have RIc1 := RI32.out.c1
        go_wp2_with fail
        refine (told12 HIS.out HFIT.out CC33.out).mono ?_
        rintro e w8 ⟨ht, bz⟩
        obtain rfl := toldR_many ht (by omega)
        clear RDc0 RDc1 RIc0 RIc1
        have E35 := Hid.mk7 (E32.out.later bz)
        have RD35 := Hid.mk7 (RD32.out.later bz)
        have T35 := Hid.mk7 (T32.out.later bz)
        have G35 := Hid.mk7 (G32.out.trans (bz.mono G32.out.size))
        have RI35 := Hid.mk7 (RI32.out.later bz)
        have A35 := Hid.mk7 (A32.out.later bz)
        have B35 := Hid.mk7 (B32.out.later bz)
        have C35 := Hid.mk7 (C32.out.later bz)
        have IN35 := Hid.mk7 (IN32.out.later bz)
        have CC35 := Hid.mk7 (CC33.out.later bz)
        have GO35 := Hid.mk7 (GO34.out.later bz)
        clear E32 RD32 T32 G32 RI32 A32 B32 C32 IN32 CC33 GO34 bz
        clear ht
        have bz : RowKit.Below w8.heap.size w8 (w8.alloc (.cells #[.int .i64 0, .slice none 0 0] 24)) := below_newE (RowKit.Below.refl _ _) _
        have nw36 := Hid.mk7 (@Rd.new w8 (.int .i64 0) (.slice none 0 0))
        have E37 := Hid.mk7 (E35.out.later bz)
        have RD37 := Hid.mk7 (RD35.out.later bz)
        have T37 := Hid.mk7 (T35.out.later bz)
        have G37 := Hid.mk7 (G35.out.trans (bz.mono G35.out.size))
        have RI37 := Hid.mk7 (RI35.out.later bz)
        have A37 := Hid.mk7 (A35.out.later bz)
        have B37 := Hid.mk7 (B35.out.later bz)
        have C37 := Hid.mk7 (C35.out.later bz)
        have IN37 := Hid.mk7 (IN35.out.later bz)
        have CC37 := Hid.mk7 (CC35.out.later bz)
        have GO37 := Hid.mk7 (GO35.out.later bz)
        clear E35 RD35 T35 G35 RI35 A35 B35 C35 IN35 CC35 GO35 bz
        have RDc0 := RD37.out.c0
        have RDc1 := RD37.out.c1
        have RIc0 := RI37.out.c0
        have RIc1 := RI37.out.c1
        have RQc0 := nw36.out.c0
        have RQc1 := nw36.out.c1
        go_wp2_with fail
        refine (is12_true A37.out IN37.out (by rw [← HIC.out]; exact HOI)).mono ?_
        rintro e w38 ⟨rfl, bz⟩
        clear RDc0 RDc1 RIc0 RIc1 RQc0 RQc1
        have E39 := Hid.mk7 (E37.out.later bz)
        have RD39 := Hid.mk7 (RD37.out.later bz)
        have T39 := Hid.mk7 (T37.out.later bz)
        have G39 := Hid.mk7 (G37.out.trans (bz.mono G37.out.size))
        have RI39 := Hid.mk7 (RI37.out.later bz)
        have A39 := Hid.mk7 (A37.out.later bz)
        have B39 := Hid.mk7 (B37.out.later bz)
        have C39 := Hid.mk7 (C37.out.later bz)
        have IN39 := Hid.mk7 (IN37.out.later bz)
        have CC39 := Hid.mk7 (CC37.out.later bz)
        have GO39 := Hid.mk7 (GO37.out.later bz)
        have RQ39 := Hid.mk7 (nw36.out.later bz)
        clear E37 RD37 T37 G37 RI37 A37 B37 C37 IN37 CC37 GO37 nw36 bz
        have RDc0 := RD39.out.c0
        have RDc1 := RD39.out.c1
        have RIc0 := RI39.out.c0
        have RIc1 := RI39.out.c1
        have RQc0 := RQ39.out.c0
        have RQc1 := RQ39.out.c1
        go_wp2_with fail
        refine (is12_true B39.out GO39.out HOG).mono ?_
        rintro e w40 ⟨rfl, bz⟩
        clear RDc0 RDc1 RIc0 RIc1 RQc0 RQc1
        have E41 := Hid.mk7 (E39.out.later bz)
        have RD41 := Hid.mk7 (RD39.out.later bz)
        have T41 := Hid.mk7 (T39.out.later bz)
        have G41 := Hid.mk7 (G39.out.trans (bz.mono G39.out.size))
        have RI41 := Hid.mk7 (RI39.out.later bz)
        have A41 := Hid.mk7 (A39.out.later bz)
        have B41 := Hid.mk7 (B39.out.later bz)
        have C41 := Hid.mk7 (C39.out.later bz)
        have IN41 := Hid.mk7 (IN39.out.later bz)
        have CC41 := Hid.mk7 (CC39.out.later bz)
        have GO41 := Hid.mk7 (GO39.out.later bz)
        have RQ41 := Hid.mk7 (RQ39.out.later bz)
        clear E39 RD39 T39 G39 RI39 A39 B39 C39 IN39 CC39 GO39 RQ39 bz
        go_wp2
        go_ret
        exact ⟨rfl, G41.out⟩
end Go.Proofs.YtalolaajcmndeaaDoor
