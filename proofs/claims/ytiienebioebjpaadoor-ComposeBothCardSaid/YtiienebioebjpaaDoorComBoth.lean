/- ComposeBoth walked. -/
import Derived.Test.YtiienebioebjpaaDoorComBothM
namespace Go.Proofs.YtiienebioebjpaaDoor
open Go.RowKit Go.Sort Go.Lib
set_option linter.unusedSimpArgs false
set_option linter.unusedVariables false

/-- What the loop hands on: the text, the deltas, both together. -/
structure Bw (s tB : ByteArray) (ds : List Dt) (E : List El) (k : Nat) : Prop where
  ok : AllOk (s.size : Nat) (KE (s.size : Nat)) ds
  al : allE (KE (s.size : Nat)) ds = E
  o1 : ∀ e ∈ E, Ok1 s.data.toList e
  ap : apl (cel E) s.data.toList = tB.data.toList
  ln : E.length ≤ 1 + 2 * k
  sz : tB.size ≤ 150 + 60 * k
  dl : ds.length = k
theorem Bw.cl {s tB : ByteArray} {ds : List Dt} {E : List El} {k : Nat} (h : Bw s tB ds E k) : (cel E).length = tB.size := by
  have e := congrArg List.length h.ap
  rw [apl_len] at e
  rw [e]; rfl
theorem allOk_end {base : Int} : ∀ {ds : List Dt} {K : List El}, AllOk base K ds → isB base (allE K ds) = true
  | [], K, h => h
  | c :: ds, K, h => allOk_end (ds := ds) h.2.2.2
theorem Bw.iB {s tB : ByteArray} {ds : List Dt} {E : List El} {k : Nat} (h : Bw s tB ds E k) : isB (s.size : Nat) E = true := by
  have := allOk_end h.ok
  rw [h.al] at this
  exact this
theorem bw_start {s : ByteArray} (hv : vld s.data.toList = true) (hs : s.size ≤ 150) : Bw s s [] (KE (s.size : Nat)) 0 := by
  obtain ⟨h1, h2, h3⟩ := keep_ok1 hv
  exact ⟨isB_KE (by omega) (by omega), rfl, h1, h3, h2, by omega, rfl⟩
theorem bw_step {s tB : ByteArray} {ds : List Dt} {E : List El} {k : Nat} {f q : Int} {T : List UInt8} (h : Bw s tB ds E k) (hk : k < 10) (hT : T.length ≤ 60) (hf : flt (tB.size : Nat) [(f, q, T)] = 0) (h1 : edg tB f = true) (h2 : edg tB q = true) :
    ∃ D E' tC, elG (tB.size : Nat) [] 0 [(f, q, T)] = D ∧ isB (tB.size : Nat) D = true ∧ cacc (apl (cel D) tB.data.toList) = tC ∧ Bw s tC (ds ++ [(((tB.size : Nat) : Int), D)]) E' (k + 1) := by
  have hcl := h.cl
  have hln := h.ln
  have hsz := h.sz
  obtain ⟨D, E', e1, e2, e3, e4, e5, e6, e7, e8, e9, e10⟩ := both_step (s := s.data.toList) h.iB h.o1 h.ap hf h1 h2 (by omega) (by omega)
  refine ⟨D, E', _, e1, e2, rfl, ?_⟩
  obtain ⟨a1, a2⟩ := allOk_snoc (d := (((tB.size : Nat) : Int), D)) h.ok h.al e2 e3 (by rw [e4]; exact e5)
  refine ⟨a1, by rw [a2]; exact e4, e6, by rw [e8]; rfl, by omega, ?_, by simp [h.dl]⟩
  have e11 : (cacc (apl (cel D) tB.data.toList)).size = (apl (cel D) tB.data.toList).length := cacc_size _
  omega
set_option maxHeartbeats 8000000 in
set_option maxRecDepth 100000 in
theorem both13_any (s : ByteArray) {v : Value} {l : List El} (hs : s.size ≤ maxLen) (hl : l.length ≤ maxLen) (hsm : Sm l maxLen) (w : World) (tb : Nat × Nat) (hT : Tab w tb) (h : ElAt w v l) :
    Calls Tryd.prog 5 #[.string s, v] w fun e w' => e = .returned (.bool true) ∧ RowKit.Below w.heap.size w w' := by
  obtain ⟨i0, hi0, hz0, hz1, hz2⟩ := info_parts Tryd.info_dl
  have HI := Hid.mk7 hi0
  clear hi0
  obtain ⟨va, vcap, rfl, hvc, _, _⟩ := id h
  have L0 := Hid.mk7 h
  have T0 := Hid.mk7 hT
  have G0 := Hid.mk7 (RowKit.Below.refl w.heap.size w)
  clear hT h
  by_cases hlong : 150 < s.size
  · have t1 : decide ((150 : Int) < (s.size : Int)) = true := decide_eq_true (by omega)
    go_enter Tryd.func5, Tryd.ntmps5
    go_wp2_with fail
    refine (known13_any _ tb T0.out).mono ?_
    rintro e w11 ⟨rfl, bz⟩
    have L12 := Hid.mk7 (L0.out.later bz)
    have T12 := Hid.mk7 (T0.out.later bz)
    have G12 := Hid.mk7 (G0.out.trans (bz.mono G0.out.size))
    clear L0 T0 G0 bz
    go_wp2
    go_ret
    exact ⟨rfl, G12.out⟩
  have t1 : decide ((150 : Int) < (s.size : Int)) = false := decide_eq_false (by omega)
  by_cases hlong2 : 10 < l.length
  · have t2 : decide ((10 : Int) < (l.length : Int)) = true := decide_eq_true (by omega)
    go_enter Tryd.func5, Tryd.ntmps5
    go_wp2_with fail
    refine (known13_any _ tb T0.out).mono ?_
    rintro e w11 ⟨rfl, bz⟩
    have L12 := Hid.mk7 (L0.out.later bz)
    have T12 := Hid.mk7 (T0.out.later bz)
    have G12 := Hid.mk7 (G0.out.trans (bz.mono G0.out.size))
    clear L0 T0 G0 bz
    go_wp2
    go_ret
    exact ⟨rfl, G12.out⟩
  have t2 : decide ((10 : Int) < (l.length : Int)) = false := decide_eq_false (by omega)
  have hs1 : s.size ≤ 150 := by omega
  have hl8 : l.length ≤ 10 := by omega
  clear hlong hlong2
  by_cases hv : vld s.data.toList = true
  case neg =>
    have hv' : vld s.data.toList = false := by simpa using hv
    clear hv
    go_enter Tryd.func5, Tryd.ntmps5
    go_wp2_with fail
    refine (known13_any _ tb T0.out).mono ?_
    rintro e w11 ⟨rfl, bz⟩
    have L12 := Hid.mk7 (L0.out.later bz)
    have T12 := Hid.mk7 (T0.out.later bz)
    have G12 := Hid.mk7 (G0.out.trans (bz.mono G0.out.size))
    clear L0 T0 G0 bz
    go_wp2_with fail
    refine (refvalid13 hs hv' _).mono ?_
    rintro e wv ⟨rfl, hw⟩
    obtain rfl : w11 = wv := hw.symm
    go_wp2
    go_ret
    exact ⟨rfl, G12.out⟩
  have HV := Hid.mk7 hv
  clear hv
  go_enter Tryd.func5, Tryd.ntmps5
  go_wp2_with fail
  refine (known13_any _ tb T0.out).mono ?_
  rintro e w11 ⟨rfl, bz⟩
  have L12 := Hid.mk7 (L0.out.later bz)
  have T12 := Hid.mk7 (T0.out.later bz)
  have G12 := Hid.mk7 (G0.out.trans (bz.mono G0.out.size))
  clear L0 T0 G0 bz
  go_wp2_with fail
  refine (refvalid13 hs HV.out _).mono ?_
  rintro e wv ⟨rfl, hw⟩
  obtain rfl : w11 = wv := hw.symm
  obtain ⟨_, _, e4, _, _, hcells⟩ := id L12.out
  cases e4
  have HC := Hid.mk7 hcells
  have HL := L12
  have HT := T12
  have HG := G12
  have HST := Hid.mk7 (bw_start HV.out hs1)
  clear hcells L12 T12 G12
  go_wp2
  go_loopw [5, 6, 7] (fun tv av iv wr => ∃ (k : Nat) (tB : ByteArray) (ds : List Dt) (E : List El), k ≤ l.length ∧ iv = .int .i64 (k : Nat) ∧ tv = .string tB ∧ Hid (Bw s tB ds E k) ∧ Hid (OwnD wr w11.heap.size av ds) ∧ Hid (RowKit.Below w11.heap.size w11 wr)) (fun _ _ iv _ => l.length - (intOf iv).toNat)
  case atStart => exact ⟨0, s, [], _, Nat.zero_le _, rfl, rfl, HST, OwnD.nil _ _, RowKit.Below.refl _ _⟩
  case round =>
    clear HST
    obtain ⟨k, tB, ds, E, hk, rfl, rfl, HP, HO, HB⟩ := hrel
    have hbs := HB.out.size
    have htz := HP.out.sz
    have HDL := Hid.mk7 HP.out.dl
    have hdl2 : ds.length ≤ 10 := by rw [HDL.out]; omega
    have htm : tB.size ≤ maxLen := by unfold maxLen; omega
    have hgz := HG.out.size
    have GG := Hid.mk7 (HG.out.trans (HB.out.mono HG.out.size))
    by_cases hlt : k < l.length
    · obtain ⟨⟨f, t, T⟩, hr⟩ : ∃ r, l[k]? = some r := ⟨l[k], List.getElem?_eq_getElem hlt⟩
      obtain ⟨g, off, rfl, q0, q1, q2⟩ := HC.out k _ hr
      simp only at q0 q1 q2
      have p0 := cell_later7 HB.out (Nat.le_refl _) q0
      have p1 := cell_later7 HB.out (Nat.le_refl _) q1
      have p2 := cell_later7 HB.out (Nat.le_refl _) q2
      have hcs : (cacc T).size = T.length := cacc_size T
      have HTT := Hid.mk7 (rfl : cacc T = cacc T)
      have HSUB : Hid (∀ c, 1 ≤ c → ElAt wr (.slice (some ⟨g, off + k * 3, none⟩) 1 c) [(f, t, T)]) := by
        intro c hc
        refine ⟨_, c, rfl, hc, (fun e => by cases e), fun i r hr => ?_⟩
        have hi0 : i = 0 := by
          have := (List.getElem?_eq_some_iff.1 hr).1
          simp at this
          omega
        subst hi0
        simp at hr
        subst hr
        exact ⟨g, off + k * 3, rfl, by simpa using p0, by simpa using p1, by simpa using p2⟩
      have hgw : g < wr.heap.size := World.block_lt_of_cell? wr ⟨g, _, none⟩ p0
      clear hr q0 q1 q2 HTT
      generalize cacc T = z at *
      by_cases hT60 : 60 < T.length
      · have d1 : decide ((60 : Int) < (T.length : Int)) = true := decide_eq_true (by omega)
        go_wp2
        go_ret
        exact ⟨rfl, GG.out⟩
      have d1 : decide ((60 : Int) < (T.length : Int)) = false := decide_eq_false (by omega)
      by_cases e1 : edg tB f = true
      case neg =>
        have e1' : edg tB f = false := by simpa using e1
        clear e1
        go_wp2_with fail
        refine (refedge13 htm e1' _).mono ?_
        rintro e wv ⟨rfl, hw⟩
        obtain rfl : wr = wv := hw.symm
        go_wp2
        go_ret
        exact ⟨rfl, GG.out⟩
      have E1 := Hid.mk7 e1
      clear e1
      by_cases e2 : edg tB t = true
      case neg =>
        have e2' : edg tB t = false := by simpa using e2
        clear e2
        go_wp2_with fail
        refine (refedge13 htm E1.out _).mono ?_
        rintro e wv ⟨rfl, hw⟩
        obtain rfl : wr = wv := hw.symm
        go_wp2_with fail
        refine (refedge13 htm e2' _).mono ?_
        rintro e wv ⟨rfl, hw⟩
        obtain rfl : wr = wv := hw.symm
        go_wp2
        go_ret
        exact ⟨rfl, GG.out⟩
      have E2 := Hid.mk7 e2
      clear e2
      have hsm1 : Sm [((f : Int), (t : Int), T)] 100000 := by
        intro e he
        simp only [List.mem_singleton] at he
        subst he
        simp only; omega
      have hin1 : inS [((f : Int), (t : Int), T)] ≤ 100000 := by simp [inS]; omega
      have HS1 := Hid.mk7 hsm1
      have hc1 : 1 ≤ vcap - k := by omega
      have T1 := Hid.mk7 (HT.out.later HB.out)
      clear hsm1
      go_wp2_with fail
      refine (refedge13 htm E1.out _).mono ?_
      rintro e wv ⟨rfl, hw⟩
      obtain rfl : wr = wv := hw.symm
      go_wp2_with fail
      refine (refedge13 htm E2.out _).mono ?_
      rintro e wv ⟨rfl, hw⟩
      obtain rfl : wr = wv := hw.symm
      by_cases hf : flt (tB.size : Nat) [(f, t, T)] = 0
      case neg =>
        obtain ⟨r, hfr⟩ : ∃ r, flt (tB.size : Nat) [(f, t, T)] = r := ⟨_, rfl⟩
        rw [hfr] at hf
        have HFR := Hid.mk7 hfr
        have d3 : (r != 0) = true := by simpa using hf
        have d4 : decide (r = 0) = false := decide_eq_false hf
        clear hfr
        go_wp2_with fail
        refine (build_bv HFR.out hf (HS1.out.mono (by omega)) (by simp) (HSUB.out _ hc1) T1.out).mono ?_
        rintro e wb ⟨rfl, bb⟩
        have GZ := Hid.mk7 ((GG.out.trans (bb.mono GG.out.size)).alloc (Nat.le_trans GG.out.size bb.size) (.cells #[.int .i64 0, .slice none 0 0] 24))
        clear p0 p1 p2 bb
        go_wp2
        go_ret
        exact ⟨rfl, GZ.out⟩
      have HBO := Hid.mk7 (build_own (tB.size : Nat) (HSUB.out _ hc1) (HS1.out.mono (by omega)) (by simp) hin1 tb T1.out hf elG_one)
      obtain ⟨D, E', tC, hD, hDi, htC, hbw⟩ := bw_step HP.out (by omega) (by omega) hf E1.out E2.out
      rw [hD] at HBO
      have HP2 := Hid.mk7 hbw
      have hdle := (dl_of hDi).len
      have HAP := Hid.mk7 (fun (W : World) (u : Value) (hx : ElAt W u D) (t' : Tab W tb) => apply_v (s := tB) (r := tC) hDi rfl htC hx t')
      clear hf hD hDi htC hbw HP
      go_wp2_with fail
      refine HBO.out.mono ?_
      rintro e wb ⟨dv, rfl, od, bb⟩
      obtain ⟨da, dc, rfl, _, _⟩ := own_shapeE od
      have OD1 := Hid.mk7 (od.alloc (.cells #[.int .i64 (tB.size : Nat), .slice da D.length dc] 24))
      have RD1 := Hid.mk7 (Rd.new wb (.int .i64 (tB.size : Nat)) (.slice da D.length dc))
      have ba : RowKit.Below wr.heap.size wr (wb.alloc (.cells #[.int .i64 (tB.size : Nat), .slice da D.length dc] 24)) := bb.alloc bb.size _
      have HO1 := Hid.mk7 (HO.out.later ba)
      have HB1 := Hid.mk7 (HB.out.trans (ba.mono hbs))
      have T2 := Hid.mk7 (T1.out.later ba)
      clear p0 p1 p2 od bb ba HO HB HBO T1 GG HSUB
      have r0 := RD1.out.c0
      have r1 := RD1.out.c1
      go_wp2_with fail
      refine (HAP.out _ _ OD1.out.row T2.out).mono ?_
      rintro e wc ⟨rfl, bc⟩
      have OD2 := Hid.mk7 (OD1.out.later bc)
      have RD2 := Hid.mk7 (RD1.out.later bc)
      have HO2 := Hid.mk7 (HO1.out.later bc)
      have HB2 := Hid.mk7 (HB1.out.trans (bc.mono HB1.out.size))
      clear r0 r1 OD1 RD1 HO1 HB1 T2 bc HAP
      have hb2 := HB2.out.size
      obtain ⟨us, hul, hro, hel⟩ := HO2.out
      have HRO := Hid.mk7 hro
      have HEL := Hid.mk7 hel
      clear hro hel HO2
      have r0 := RD2.out.c0
      have r1 := RD2.out.c1
      go_wp2_with (at_builtin; refine wpList_append_own _ rfl _ _ 41 rfl w11.heap.size 24 i0 (.agg #[.int .i64 0, .slice none 0 0]) 2 32 Tryd.underlying41 HI.out hz0 hz1 hz2 rfl (by decide) _ _ _ rfl (World.ownsRow.alloc HRO.out _) ⟨_, 0, none⟩ 1 1 [.int .i64 (tB.size : Nat), .slice da D.length dc] rfl rfl (two_newK _ _ _ _) (fun u hu => by simp at hu; rcases hu with rfl | rfl <;> rfl) (by unfold maxLen; omega) (by omega) (by simp; omega) ?_)
      intro v' w3 hown hgrow _
      have HO3 := Hid.mk7 (ownD_push (d := (((tB.size : Nat) : Int), D)) hul (fun i d u a b => (HEL.out i d u a b).alloc _) (World.ownsRow.alloc HRO.out _) (OD2.out.alloc _) (by first | exact hown | (rw [HDL.out]; exact hown)) hgrow)
      have HB3 := Hid.mk7 ((HB2.out.alloc HB2.out.size (.cells #[.int .i64 (tB.size : Nat), .slice da D.length dc] 24)).grown hgrow (by simp; omega) (fun j hj => (World.ownsRow.lt HRO.out j hj).1))
      clear hown hgrow HRO HEL OD2 RD2 HB2 r0 r1
      go_wp2
      go_roundw
      case rel => exact ⟨k + 1, tC, _, E', by omega, by go_num, rfl, HP2, HO3, HB3⟩
      case measure => simp [intOf]; omega
    · obtain rfl : k = l.length := by omega
      have T1 := Hid.mk7 (HT.out.later HB.out)
      have DA := Hid.mk7 HO.out.row
      clear HO HB
      by_cases hd0 : ds = []
      · subst hd0
        obtain ⟨da, dc, hde, _, _⟩ := id DA.out
        subst hde
        have HKP := Hid.mk7 (fun W : World => keep_v (m := 0) (es := []) 0 (by decide) (by decide) W)
        go_wp2_with fail
        refine all_nil.mono ?_
        rintro e wb ⟨av, rfl, ha, bb⟩
        obtain ⟨aa, ac, rfl, _, _, _⟩ := id ha
        have AA := Hid.mk7 (ha.alloc (.cells #[.int .i64 0, .slice aa 0 ac] 24))
        have RA := Hid.mk7 (Rd.new wb (.int .i64 0) (.slice aa 0 ac))
        have GA := Hid.mk7 ((GG.out.trans (bb.mono GG.out.size)).alloc (Nat.le_trans GG.out.size bb.size) (.cells #[.int .i64 0, .slice aa 0 ac] 24))
        clear ha bb GG
        go_upto_region 21 with fail
        generalize hzb : wb.heap.size = zb at *
        generalize wb.alloc (.cells #[.int .i64 0, .slice aa 0 ac] 24) = wd at *
        have r0 := cell_regrown RA.out.c0
        have r1 := cell_regrown RA.out.c1
        refine wp_region_mixP [([0, 1, 2, 3], [4]), ([], [5]), ([6, 7], [])] (by kernel_rfl) (by kernel_rfl) ?_
        rintro x0 ⟨d0, rfl⟩
        have m0 := below_redrawnE wd d0
        refine wpPlan_cons ?_
        simp only [pickAll, pickAt, List.nil_append, List.cons_append, List.append_nil]
        repeat (go_big_quiet_step (fail))
        refine wpQuiet_nil ?_
        go_wp2_with fail
        refine (HKP.out _).mono ?_
        rintro e x1 ⟨kv, rfl, hk1, b1⟩
        have m1 := m0.trans (b1.mono m0.size)
        go_wp2
        refine mixNext_belowE m1 ?_
        refine wpPlan_cons ?_
        simp only [pickAll, pickAt, List.nil_append, List.cons_append, List.append_nil]
        repeat (go_big_quiet_step (fail))
        refine wpQuiet_nil ?_
        go_wp2_with fail
        refine (same_v (t := true) (by simp) (by simp) (AA.out.later m1) hk1).mono ?_
        rintro e x2 ⟨rfl, b2⟩
        have m2 := m1.trans (b2.mono m1.size)
        go_wp2
        refine mixNext_belowE m2 ?_
        refine wpPlan_cons ?_
        simp only [pickAll, pickAt, List.nil_append, List.cons_append, List.append_nil]
        repeat (go_big_quiet_step (fail))
        refine wpQuiet_nil ?_
        refine mixNext_belowE m2 (wpPlan_nil ?_)
        have GF := Hid.mk7 (GA.out.trans (m2.mono GA.out.size))
        clear hzb HKP hk1 AA RA r0 r1 m0 m1 m2 b1 b2 GA
        go_wp2
        go_ret
        exact ⟨rfl, GF.out⟩
      · have hpos : 0 < ds.length := List.length_pos_iff.2 hd0
        have hp0 : ((ds.length : Int) == 0) = false := beq_eq_false_iff_ne.2 (by omega)
        have hp1 : decide ((ds.length : Int) = 0) = false := decide_eq_false (by omega)
        have hp2 : (ds.length == 0) = false := beq_eq_false_iff_ne.2 (by omega)
        have hEi := HP.out.iB
        have hle := (dl_of hEi).len
        have hb : ∀ d, ds[0]? = some d → d.1 = ((s.size : Nat) : Int) := by
          intro d hd
          obtain ⟨r, hr⟩ : ∃ r, ds = d :: r := by
            cases ds with
            | nil => simp at hd
            | cons c r => simp at hd; exact ⟨r, by rw [hd]⟩
          have ok := HP.out.ok
          rw [hr] at ok
          have := ok.2.2.1
          rw [this]
          exact keep_len (by omega)
        have HAL := Hid.mk7 (all_ok (base := (s.size : Nat)) (K := KE (s.size : Nat)) (Z := E) DA.out (by omega) hpos hb rfl HP.out.ok HP.out.al T1.out)
        have HAP := Hid.mk7 (fun (W : World) (u : Value) (hx : ElAt W u E) (t' : Tab W tb) => apply_v (s := s) (r := tB) hEi rfl (by rw [HP.out.ap]; exact cacc_bytes tB) hx t')
        obtain ⟨da, dc, hde, _, _⟩ := id DA.out
        subst hde
        clear hd0 hb hEi HP DA
        go_wp2_with fail
        refine HAL.out.mono ?_
        rintro e wb ⟨av, rfl, ha, bb⟩
        obtain ⟨aa, ac, rfl, _, _, _⟩ := id ha
        have AA := Hid.mk7 (ha.alloc (.cells #[.int .i64 (s.size : Nat), .slice aa E.length ac] 24))
        have RA := Hid.mk7 (Rd.new wb (.int .i64 (s.size : Nat)) (.slice aa E.length ac))
        have ba : RowKit.Below wr.heap.size wr (wb.alloc (.cells #[.int .i64 (s.size : Nat), .slice aa E.length ac] 24)) := bb.alloc bb.size _
        have TA := Hid.mk7 (T1.out.later ba)
        have GA := Hid.mk7 (GG.out.trans (ba.mono GG.out.size))
        clear ha bb ba GG T1 HAL
        have r0 := RA.out.c0
        have r1 := RA.out.c1
        go_wp2_with fail
        refine (HAP.out _ _ AA.out TA.out).mono ?_
        rintro e wc ⟨rfl, bc⟩
        have GC := Hid.mk7 (GA.out.trans (bc.mono GA.out.size))
        clear r0 r1 AA RA TA GA bc HAP
        go_wp2
        go_ret
        exact ⟨rfl, GC.out⟩
end Go.Proofs.YtiienebioebjpaaDoor
