/- FactorBack walked. -/
import Derived.Test.YtalolaajcmndeaaDoorFacCounts
import Derived.Test.YtalolaajcmndeaaDoorFacBackM
namespace Go.Proofs.YtalolaajcmndeaaDoor
open Go.RowKit Go.Sort Go.Lib
set_option linter.unusedSimpArgs false
set_option linter.unusedVariables false

theorem delete_vF {w : World} {p : Value} {L : List Int} {s r : ByteArray} (hL : Ok8 L) (hs : L.length = s.size) (hr : cacc (del L s.data.toList) = r) (hp : Sub w p L) :
    Calls Tryd.prog 27 #[p, .string s] w fun e w' => e = .returned (.tuple #[.string r, .int .i64 0]) ∧ Below w.heap.size w w' := by
  subst hr; exact delete_any s hp hL hs
/-- All that the law asks of what was built. -/
structure Bk (s : ByteArray) (E I : List El) (D M X : List Int) (t u v : ByteArray) (dr ad : Int) : Prop where
  half : insE (s.size : Nat) E = I
  iis : isB (s.size : Nat) I = true
  icp : cpS I = (s.size : Nat)
  dg : gon (s.size : Nat) 0 E = D
  ml : insL I = M
  dok : Ok8 D
  mok : Ok8 M
  drl : (rle D).length ≤ 600
  dl : (D.length : Int) = (s.size : Nat)
  back : tld (fil D (cel I)) = E
  at' : cacc (apl (cel I) s.data.toList) = t
  au : cacc (apl (cel E) s.data.toList) = u
  dz : D.length = zrc M
  xx : expd D M = X
  xok : Ok8 X
  xl : X.length = t.size
  xd : cacc (del X t.data.toList) = u
  mt : M.length = t.size
  md : cacc (del M t.data.toList) = s
  ds : D.length = s.size
  dd : cacc (del D s.data.toList) = v
  vs : (v.size : Int) = (s.size : Int) - dr
  drE : (s.size : Nat) - cpS E = dr
  drI : (s.size : Nat) - cpS I = 0
  adE : (inS E : Int) = ad
  adI : (inS I : Int) = ad
  dr0 : 0 ≤ dr
  dr1 : dr ≤ 20000
theorem bk_of {s : ByteArray} {E : List El} (hi : isB (s.size : Nat) E = true) (hf : ¬ 20000 < ((s.size : Nat) : Int) + inS E) (hm : (insE (s.size : Nat) E).length ≤ 60) : ∃ I D M X t u v dr ad, Bk s E I D M X t u v dr ad ∧ I.length ≤ 60 := by
  have hii := insE_isB hi hf hm
  have hcp := insE_cp hi
  have hd := dl_of hi
  have hdi := dl_of hii
  have hc0 := hd.cp0
  have hc1 := hd.cp1
  have hb1 := hd.b1
  have NM := (isB_spec.1 hi).2.1
  have NMI := (isB_spec.1 hii).2.1
  have S1 : s.data.toList.length = s.size := bytes_length s
  have gl := gon_len E 0 0 hd.b0 NM
  have gz := gon_szc E 0 0 hd.b0 NM
  have il := insL_len _ 0 0 NMI
  have iz := insL_szc (insE (s.size : Nat) E)
  have cs := cel_size _ 0 0 NMI
  have dok := gon_ok8 hi
  have mok := ins_ok8 hii
  have z1 := zrc_szc mok.2
  have z2 := zrc_szc dok.2
  have hrl := gon_rle (base := ((s.size : Nat) : Int)) E 0
  have hk := kc_ky _ 0 0 (Int.le_refl _) (ky_isB hii hcp)
  have hio := insL_cel _ 0 0 (Int.le_refl _) NMI
  have hel := hd.len
  have hin := insE_in (base := ((s.size : Nat) : Int)) (es := E)
  have hjb := join_back hi
  rw [Int.sub_zero] at gl gz
  have tl : (cacc (apl (cel (insE (s.size : Nat) E)) s.data.toList)).size = (cel (insE (s.size : Nat) E)).length := by rw [cacc_size]; simp [apl]
  have hds : (gon (s.size : Nat) 0 E).length = s.size := by omega
  have hzz : szE (insE (s.size : Nat) E) = cpS (insE (s.size : Nat) E) + (inS (insE (s.size : Nat) E) : Int) := szE_two _
  have hdl := del_len (gon (s.size : Nat) 0 E) s.data.toList (by rw [S1]; exact hds)
  refine ⟨_, _, _, _, _, _, _, _, _, ⟨rfl, hii, hcp, rfl, rfl, dok, mok, by omega, gl, hjb.2, rfl, rfl, by omega, rfl, ok8_expd dok mok, ?_, ?_, ?_, ?_, hds, rfl, ?_, rfl, by omega, rfl, by rw [hin], by omega, by omega⟩, hm⟩
  · rw [expd_len, tl]; omega
  · have := del_fil (D := gon (s.size : Nat) 0 E) (s := s.data.toList) gl _ 0 (Int.le_refl _) hk
    rw [show (0 : Int).toNat = 0 from rfl, List.drop_zero] at this
    rw [cacc_toList, hio, this, hjb.1]
  · rw [tl]; omega
  · rw [cacc_toList, hio]
    have := del_ownm (s := s.data.toList) (cel (insE (s.size : Nat) E)) 0 (Int.le_refl _) (by rw [S1]; exact hk)
    rw [this]
    simp [cacc_bytes]
  · rw [cacc_size, hdl]
    omega
set_option maxHeartbeats 4000000 in
set_option maxRecDepth 100000 in
theorem back12_any (s : ByteArray) {v : Value} {l : List El} (hs : s.size ≤ maxLen) (hl : l.length ≤ maxLen) (w : World) (tb : Nat × Nat) (hT : Tab w tb) (h : ElAt w v l) :
    Calls Tryd.prog 5 #[.string s, v] w fun e w' => e = .returned (.bool true) ∧ RowKit.Below w.heap.size w w' := by
  have HK := Hid.mk7 (known12_any w tb hT)
  have HT := Hid.mk7 hT
  have HV := Hid.mk7 h
  obtain ⟨a, cap, rfl, hcap, _, _⟩ := id h
  clear hT h
  by_cases hlong : 200 < s.size
  · have t1 : decide ((200 : Int) < (s.size : Int)) = true := decide_eq_true (by omega)
    go_enter Tryd.func5, Tryd.ntmps5
    go_wp2_with fail
    refine HK.out.mono ?_
    rintro e w1 ⟨rfl, b1⟩
    go_wp2
    go_ret
    exact ⟨rfl, b1⟩
  have hn : s.size ≤ 200 := by omega
  have t1 : decide ((200 : Int) < (s.size : Int)) = false := decide_eq_false (by omega)
  by_cases hlong2 : 12 < l.length
  · have t2 : decide ((12 : Int) < (l.length : Int)) = true := decide_eq_true (by omega)
    go_enter Tryd.func5, Tryd.ntmps5
    go_wp2_with fail
    refine HK.out.mono ?_
    rintro e w1 ⟨rfl, b1⟩
    go_wp2
    go_ret
    exact ⟨rfl, b1⟩
  have t2 : decide ((12 : Int) < (l.length : Int)) = false := decide_eq_false (by omega)
  have hl12 : l.length ≤ 12 := by omega
  clear hlong hlong2
  go_enter Tryd.func5, Tryd.ntmps5
  go_wp2_with fail
  refine HK.out.mono ?_
  rintro e w1 ⟨rfl, b1⟩
  have HV1 := Hid.mk7 (HV.out.later b1)
  have HT1 := Hid.mk7 (HT.out.later b1)
  have G1 := Hid.mk7 b1
  obtain ⟨_, _, e4, _, _, hcells⟩ := id HV1.out
  cases e4
  have HC := Hid.mk7 hcells
  clear hcells HV HT HK b1
  go_wp2
  go_loopw [5] (fun iv wr => ∃ k : Nat, k ≤ l.length ∧ iv = .int .i64 (k : Nat) ∧ Hid (Sm (l.take k) 60) ∧ wr = w1) (fun iv _ => l.length - (intOf iv).toNat)
  case atStart => exact ⟨0, Nat.zero_le _, rfl, (fun e he => by simp at he), rfl⟩
  case round =>
    obtain ⟨k, hk, rfl, HS, rfl⟩ := hrel
    by_cases hlt : k < l.length
    · obtain ⟨⟨f, t, T⟩, hr⟩ : ∃ r, l[k]? = some r := ⟨l[k], List.getElem?_eq_getElem hlt⟩
      obtain ⟨g, off, rfl, q0, q1, q2⟩ := HC.out k _ hr
      simp only at q2
      have hcs : (cacc T).size = T.length := cacc_size T
      have HR := Hid.mk7 hr
      clear q0 q1 hr
      generalize cacc T = z at *
      by_cases hT60 : 60 < T.length
      · have d1 : decide ((60 : Int) < (T.length : Int)) = true := decide_eq_true (by omega)
        go_wp2
        go_ret
        exact ⟨rfl, G1.out⟩
      · have d1 : decide ((60 : Int) < (T.length : Int)) = false := decide_eq_false (by omega)
        have HS2 : Hid (Sm (l.take (k + 1)) 60) := by
          intro e he
          rw [take_snoc7 HR.out] at he
          rcases List.mem_append.1 he with he | he
          · exact HS.out e he
          · simp only [List.mem_singleton] at he
            subst he
            show T.length ≤ 60
            omega
        clear HS HR
        go_wp2
        go_roundw
        case rel => exact ⟨k + 1, by omega, by go_num, HS2, trivial⟩
        case measure => simp [intOf]; omega
    · obtain rfl : k = l.length := by omega
      have hsm : Sm l 60 := by have := HS.out; rw [List.take_length] at this; exact this
      have hin := sm_in hsm hl12
      clear HS HC
      by_cases hb : bldE (s.size : Nat) l = 0
      case neg =>
        obtain ⟨r, hr⟩ : ∃ r, bldE (s.size : Nat) l = r := ⟨_, rfl⟩
        rw [hr] at hb
        have HB := Hid.mk7 (build_f (tb := tb) hr hb hsm hl12 HV1.out HT1.out)
        have d0 : (r != 0) = true := by simpa using hb
        have d1 : decide (r = 0) = false := by simpa using hb
        clear hr hb
        go_wp2_with fail
        refine HB.out.mono ?_
        rintro e w3 ⟨rfl, b3⟩
        have g3 := below_newE (G1.out.trans (b3.mono G1.out.size)) (.cells #[.int .i64 0, .slice none 0 0] 24)
        go_wp2
        go_ret
        exact ⟨rfl, g3⟩
      obtain ⟨hf, hm⟩ := bld_good hb
      have IS := Hid.mk7 (isB_elG hf hm)
      have HB := Hid.mk7 (build_v (tb := tb) hf rfl hm (hsm.mono (by omega)) (by omega) (by omega) HV1.out HT1.out)
      have hie : inS (elG (s.size : Nat) [] 0 l) = inS l := by rw [inS_elGF]; simp
      clear hf hb
      obtain ⟨E, hE⟩ : ∃ E, elG (s.size : Nat) [] 0 l = E := ⟨_, rfl⟩
      rw [hE] at IS HB hm hie
      clear hE
      have HFIT : Hid (((s.size : Nat) : Int) + inS E ≤ 20000) := by show _ ≤ _; omega
      have HEM := Hid.mk7 hm
      clear hin hsm hie
      go_wp2_with fail
      refine HB.out.mono ?_
      rintro e w2 ⟨v2, rfl, h2, b2⟩
      obtain ⟨a2, c2, rfl, _, _, _⟩ := id h2
      have b3 := below_newE b2 (.cells #[.int .i64 (s.size : Nat), .slice a2 E.length c2] 24)
      have EE := Hid.mk7 (h2.alloc (.cells #[.int .i64 (s.size : Nat), .slice a2 E.length c2] 24))
      have RD := Hid.mk7 (Rd.new w2 (.int .i64 (s.size : Nat)) (.slice a2 E.length c2))
      have TT := Hid.mk7 (HT1.out.later b3)
      have GG := Hid.mk7 (G1.out.trans (b3.mono G1.out.size))
      clear b2 b3 h2 HB HV1 HT1 G1
      by_cases hmi : (insE (s.size : Nat) E).length ≤ 60
      case neg =>
        have HSB := Hid.mk7 (split_bad (tb := tb) (er := 70) IS.out (by
          unfold bldE
          rw [insX_flt IS.out, if_neg (show ¬ 20000 < ((s.size : Nat) : Int) + inS E by have := HFIT.out; omega), if_neg (by omega)]
          unfold insE at hmi
          rw [if_pos (by omega)]) (by omega) EE.out TT.out)
        have d0 := RD.out.c0
        have d1 := RD.out.c1
        go_wp2_with fail
        refine HSB.out.mono ?_
        rintro e w4 ⟨rfl, bz⟩
        clear d0 d1
        have g4 := below_newE (GG.out.trans (bz.mono GG.out.size)) (.cells #[.int .i64 0, .slice none 0 0] 24)
        go_wp2
        go_ret
        exact ⟨rfl, g4⟩
      obtain ⟨I, D, M, X, tt, uu, vv, dr, ad, hbk, hil⟩ := bk_of IS.out (by have := HFIT.out; omega) hmi
      have BK := Hid.mk7 hbk
      have hEl := HEM.out
      have hdr0 := hbk.dr0
      have hdr1 := hbk.dr1
      have dW : ((vv.size : Int) == (s.size : Int) - dr) = true := by have := hbk.vs; simpa using this
      have dW2 : decide ((vv.size : Int) = (s.size : Int) - dr) = true := decide_eq_true hbk.vs
      have HFQ := HFIT
      clear hbk hmi
      have RDc0 := RD.out.c0
      have RDc1 := RD.out.c1
      go_wp2_with fail
      refine (split_v IS.out HFQ.out BK.out.half hil BK.out.dg EE.out TT.out).mono ?_
      rintro e w11 ⟨v3, p3, rfl, h3, s3, bz⟩
      clear RDc0 RDc1
      obtain ⟨a3, c3, rfl, _, _, _⟩ := id h3
      have E12 := Hid.mk7 (EE.out.later bz)
      have RD12 := Hid.mk7 (RD.out.later bz)
      have T12 := Hid.mk7 (TT.out.later bz)
      have G12 := Hid.mk7 (GG.out.trans (bz.mono GG.out.size))
      clear EE RD TT GG bz
      have I13 := Hid.mk7 (h3)
      have S14 := Hid.mk7 (s3)
      clear h3 s3
      have bz : RowKit.Below w11.heap.size w11 (w11.alloc (.cells #[.int .i64 (s.size : Nat), .slice a3 I.length c3] 24)) := below_newE (RowKit.Below.refl _ _) _
      have nw15 := Hid.mk7 (@Rd.new w11 (.int .i64 (s.size : Nat)) (.slice a3 I.length c3))
      have E16 := Hid.mk7 (E12.out.later bz)
      have RD16 := Hid.mk7 (RD12.out.later bz)
      have T16 := Hid.mk7 (T12.out.later bz)
      have G16 := Hid.mk7 (G12.out.trans (bz.mono G12.out.size))
      have I16 := Hid.mk7 (I13.out.later bz)
      have S16 := Hid.mk7 (S14.out.later bz)
      clear E12 RD12 T12 G12 I13 S14 bz
      have RDc0 := RD16.out.c0
      have RDc1 := RD16.out.c1
      have RIc0 := nw15.out.c0
      have RIc1 := nw15.out.c1
      go_wp2_with fail
      refine (join_ok BK.out.iis BK.out.icp S16.out BK.out.dok BK.out.drl BK.out.dl BK.out.back HEM.out I16.out T16.out).mono ?_
      rintro e w17 ⟨v4, rfl, h4, bz⟩
      clear RDc0 RDc1 RIc0 RIc1
      obtain ⟨a4, c4, rfl, _, _, _⟩ := id h4
      have E18 := Hid.mk7 (E16.out.later bz)
      have RD18 := Hid.mk7 (RD16.out.later bz)
      have T18 := Hid.mk7 (T16.out.later bz)
      have G18 := Hid.mk7 (G16.out.trans (bz.mono G16.out.size))
      have I18 := Hid.mk7 (I16.out.later bz)
      have S18 := Hid.mk7 (S16.out.later bz)
      have RI18 := Hid.mk7 (nw15.out.later bz)
      clear E16 RD16 T16 G16 I16 S16 nw15 bz
      have J19 := Hid.mk7 (h4)
      clear h4
      have bz : RowKit.Below w17.heap.size w17 (w17.alloc (.cells #[.int .i64 (s.size : Nat), .slice a4 E.length c4] 24)) := below_newE (RowKit.Below.refl _ _) _
      have nw20 := Hid.mk7 (@Rd.new w17 (.int .i64 (s.size : Nat)) (.slice a4 E.length c4))
      have E21 := Hid.mk7 (E18.out.later bz)
      have RD21 := Hid.mk7 (RD18.out.later bz)
      have T21 := Hid.mk7 (T18.out.later bz)
      have G21 := Hid.mk7 (G18.out.trans (bz.mono G18.out.size))
      have I21 := Hid.mk7 (I18.out.later bz)
      have S21 := Hid.mk7 (S18.out.later bz)
      have RI21 := Hid.mk7 (RI18.out.later bz)
      have J21 := Hid.mk7 (J19.out.later bz)
      clear E18 RD18 T18 G18 I18 S18 RI18 J19 bz
      have RDc0 := RD21.out.c0
      have RDc1 := RD21.out.c1
      have RIc0 := RI21.out.c0
      have RIc1 := RI21.out.c1
      have RJc0 := nw20.out.c0
      have RJc1 := nw20.out.c1
      go_wp2_with fail
      refine (inserted_v BK.out.iis BK.out.ml I21.out T21.out).mono ?_
      rintro e w22 ⟨p5, rfl, s5, bz⟩
      clear RDc0 RDc1 RIc0 RIc1 RJc0 RJc1
      have E23 := Hid.mk7 (E21.out.later bz)
      have RD23 := Hid.mk7 (RD21.out.later bz)
      have T23 := Hid.mk7 (T21.out.later bz)
      have G23 := Hid.mk7 (G21.out.trans (bz.mono G21.out.size))
      have I23 := Hid.mk7 (I21.out.later bz)
      have S23 := Hid.mk7 (S21.out.later bz)
      have RI23 := Hid.mk7 (RI21.out.later bz)
      have J23 := Hid.mk7 (J21.out.later bz)
      have RJ23 := Hid.mk7 (nw20.out.later bz)
      clear E21 RD21 T21 G21 I21 S21 RI21 J21 nw20 bz
      have N24 := Hid.mk7 (s5)
      clear s5
      have RDc0 := RD23.out.c0
      have RDc1 := RD23.out.c1
      have RIc0 := RI23.out.c0
      have RIc1 := RI23.out.c1
      have RJc0 := RJ23.out.c0
      have RJc1 := RJ23.out.c1
      go_wp2_with fail
      refine (apply_v BK.out.iis rfl BK.out.at' I23.out T23.out).mono ?_
      rintro e w25 ⟨rfl, bz⟩
      clear RDc0 RDc1 RIc0 RIc1 RJc0 RJc1
      have E26 := Hid.mk7 (E23.out.later bz)
      have RD26 := Hid.mk7 (RD23.out.later bz)
      have T26 := Hid.mk7 (T23.out.later bz)
      have G26 := Hid.mk7 (G23.out.trans (bz.mono G23.out.size))
      have I26 := Hid.mk7 (I23.out.later bz)
      have S26 := Hid.mk7 (S23.out.later bz)
      have RI26 := Hid.mk7 (RI23.out.later bz)
      have J26 := Hid.mk7 (J23.out.later bz)
      have RJ26 := Hid.mk7 (RJ23.out.later bz)
      have N26 := Hid.mk7 (N24.out.later bz)
      clear E23 RD23 T23 G23 I23 S23 RI23 J23 RJ23 N24 bz
      have RDc0 := RD26.out.c0
      have RDc1 := RD26.out.c1
      have RIc0 := RI26.out.c0
      have RIc1 := RI26.out.c1
      have RJc0 := RJ26.out.c0
      have RJc1 := RJ26.out.c1
      go_wp2_with fail
      refine (apply_v IS.out rfl BK.out.au E26.out T26.out).mono ?_
      rintro e w27 ⟨rfl, bz⟩
      clear RDc0 RDc1 RIc0 RIc1 RJc0 RJc1
      have E28 := Hid.mk7 (E26.out.later bz)
      have RD28 := Hid.mk7 (RD26.out.later bz)
      have T28 := Hid.mk7 (T26.out.later bz)
      have G28 := Hid.mk7 (G26.out.trans (bz.mono G26.out.size))
      have I28 := Hid.mk7 (I26.out.later bz)
      have S28 := Hid.mk7 (S26.out.later bz)
      have RI28 := Hid.mk7 (RI26.out.later bz)
      have J28 := Hid.mk7 (J26.out.later bz)
      have RJ28 := Hid.mk7 (RJ26.out.later bz)
      have N28 := Hid.mk7 (N26.out.later bz)
      clear E26 RD26 T26 G26 I26 S26 RI26 J26 RJ26 N26 bz
      have RDc0 := RD28.out.c0
      have RDc1 := RD28.out.c1
      have RIc0 := RI28.out.c0
      have RIc1 := RI28.out.c1
      have RJc0 := RJ28.out.c0
      have RJc1 := RJ28.out.c1
      go_wp2_with fail
      refine (expand_any S28.out N28.out BK.out.dok BK.out.mok BK.out.dz).mono ?_
      rintro e wx ⟨ho, bz⟩
      clear RDc0 RDc1 RIc0 RIc1 RJc0 RJc1
      rw [BK.out.xx] at ho
      rcases ho with ⟨hmx, rfl⟩ | ⟨hmx, px, rfl, sx⟩
      · have gx := G28.out.trans (bz.mono G28.out.size)
        go_wp2
        go_ret
        exact ⟨rfl, gx⟩
      have E29 := Hid.mk7 (E28.out.later bz)
      have RD29 := Hid.mk7 (RD28.out.later bz)
      have T29 := Hid.mk7 (T28.out.later bz)
      have G29 := Hid.mk7 (G28.out.trans (bz.mono G28.out.size))
      have I29 := Hid.mk7 (I28.out.later bz)
      have S29 := Hid.mk7 (S28.out.later bz)
      have RI29 := Hid.mk7 (RI28.out.later bz)
      have J29 := Hid.mk7 (J28.out.later bz)
      have RJ29 := Hid.mk7 (RJ28.out.later bz)
      have N29 := Hid.mk7 (N28.out.later bz)
      clear E28 RD28 T28 G28 I28 S28 RI28 J28 RJ28 N28 bz
      have X30 := Hid.mk7 (sx)
      clear sx hmx
      have RDc0 := RD29.out.c0
      have RDc1 := RD29.out.c1
      have RIc0 := RI29.out.c0
      have RIc1 := RI29.out.c1
      have RJc0 := RJ29.out.c0
      have RJc1 := RJ29.out.c1
      go_wp2_with fail
      refine (delete_vF BK.out.xok BK.out.xl BK.out.xd X30.out).mono ?_
      rintro e w31 ⟨rfl, bz⟩
      clear RDc0 RDc1 RIc0 RIc1 RJc0 RJc1
      have E32 := Hid.mk7 (E29.out.later bz)
      have RD32 := Hid.mk7 (RD29.out.later bz)
      have T32 := Hid.mk7 (T29.out.later bz)
      have G32 := Hid.mk7 (G29.out.trans (bz.mono G29.out.size))
      have I32 := Hid.mk7 (I29.out.later bz)
      have S32 := Hid.mk7 (S29.out.later bz)
      have RI32 := Hid.mk7 (RI29.out.later bz)
      have J32 := Hid.mk7 (J29.out.later bz)
      have RJ32 := Hid.mk7 (RJ29.out.later bz)
      have N32 := Hid.mk7 (N29.out.later bz)
      have X32 := Hid.mk7 (X30.out.later bz)
      clear E29 RD29 T29 G29 I29 S29 RI29 J29 RJ29 N29 X30 bz
      have RDc0 := RD32.out.c0
      have RDc1 := RD32.out.c1
      have RIc0 := RI32.out.c0
      have RIc1 := RI32.out.c1
      have RJc0 := RJ32.out.c0
      have RJc1 := RJ32.out.c1
      go_wp2_with fail
      refine (delete_vF BK.out.mok BK.out.mt BK.out.md N32.out).mono ?_
      rintro e w33 ⟨rfl, bz⟩
      clear RDc0 RDc1 RIc0 RIc1 RJc0 RJc1
      have E34 := Hid.mk7 (E32.out.later bz)
      have RD34 := Hid.mk7 (RD32.out.later bz)
      have T34 := Hid.mk7 (T32.out.later bz)
      have G34 := Hid.mk7 (G32.out.trans (bz.mono G32.out.size))
      have I34 := Hid.mk7 (I32.out.later bz)
      have S34 := Hid.mk7 (S32.out.later bz)
      have RI34 := Hid.mk7 (RI32.out.later bz)
      have J34 := Hid.mk7 (J32.out.later bz)
      have RJ34 := Hid.mk7 (RJ32.out.later bz)
      have N34 := Hid.mk7 (N32.out.later bz)
      have X34 := Hid.mk7 (X32.out.later bz)
      clear E32 RD32 T32 G32 I32 S32 RI32 J32 RJ32 N32 X32 bz
      have RDc0 := RD34.out.c0
      have RDc1 := RD34.out.c1
      have RIc0 := RI34.out.c0
      have RIc1 := RI34.out.c1
      have RJc0 := RJ34.out.c0
      have RJc1 := RJ34.out.c1
      go_wp2_with fail
      refine (delete_vF BK.out.dok BK.out.ds BK.out.dd S34.out).mono ?_
      rintro e w35 ⟨rfl, bz⟩
      clear RDc0 RDc1 RIc0 RIc1 RJc0 RJc1
      have E36 := Hid.mk7 (E34.out.later bz)
      have RD36 := Hid.mk7 (RD34.out.later bz)
      have T36 := Hid.mk7 (T34.out.later bz)
      have G36 := Hid.mk7 (G34.out.trans (bz.mono G34.out.size))
      have I36 := Hid.mk7 (I34.out.later bz)
      have S36 := Hid.mk7 (S34.out.later bz)
      have RI36 := Hid.mk7 (RI34.out.later bz)
      have J36 := Hid.mk7 (J34.out.later bz)
      have RJ36 := Hid.mk7 (RJ34.out.later bz)
      have N36 := Hid.mk7 (N34.out.later bz)
      have X36 := Hid.mk7 (X34.out.later bz)
      clear E34 RD34 T34 G34 I34 S34 RI34 J34 RJ34 N34 X34 bz
      have RDc0 := RD36.out.c0
      have RDc1 := RD36.out.c1
      have RIc0 := RI36.out.c0
      have RIc1 := RI36.out.c1
      have RJc0 := RJ36.out.c0
      have RJc1 := RJ36.out.c1
      go_wp2_with fail
      refine (deleted_v IS.out BK.out.dg E36.out T36.out).mono ?_
      rintro e w37 ⟨p9, rfl, s9, bz⟩
      clear RDc0 RDc1 RIc0 RIc1 RJc0 RJc1
      have E38 := Hid.mk7 (E36.out.later bz)
      have RD38 := Hid.mk7 (RD36.out.later bz)
      have T38 := Hid.mk7 (T36.out.later bz)
      have G38 := Hid.mk7 (G36.out.trans (bz.mono G36.out.size))
      have I38 := Hid.mk7 (I36.out.later bz)
      have S38 := Hid.mk7 (S36.out.later bz)
      have RI38 := Hid.mk7 (RI36.out.later bz)
      have J38 := Hid.mk7 (J36.out.later bz)
      have RJ38 := Hid.mk7 (RJ36.out.later bz)
      have N38 := Hid.mk7 (N36.out.later bz)
      have X38 := Hid.mk7 (X36.out.later bz)
      clear E36 RD36 T36 G36 I36 S36 RI36 J36 RJ36 N36 X36 bz
      have K39 := Hid.mk7 (s9)
      clear s9
      have RDz0 := cell_regrown RD38.out.c0
      have RDz1 := cell_regrown RD38.out.c1
      have RIz0 := cell_regrown RI38.out.c0
      have RIz1 := cell_regrown RI38.out.c1
      have RJz0 := cell_regrown RJ38.out.c0
      have RJz1 := cell_regrown RJ38.out.c1
      have CDR : Hid (∀ (q : Value) (z : Int) (d : Nat) (os : Array Obj), ((q = .agg #[.int .i64 (s.size : Nat), .slice a2 E.length c2] ∧ z = dr) ∨ (q = .agg #[.int .i64 (s.size : Nat), .slice a3 I.length c3] ∧ z = 0)) → Calls Tryd.prog 28 #[q] (grow (redrawn w37 d) os) fun e w'' => e = .returned (.int .i64 z) ∧ ∃ p : Regrown, w'' = grow (redrawn w37 p.d) p.os) := fun q z d os h => by
        rcases h with ⟨rfl, rfl⟩ | ⟨rfl, rfl⟩
        · exact Calls.regrown_of (drops_v IS.out BK.out.drE (E38.out.later (below_regrown w37 d os)) (T38.out.later (below_regrown w37 d os)))
        · exact Calls.regrown_of (drops_v BK.out.iis BK.out.drI (I38.out.later (below_regrown w37 d os)) (T38.out.later (below_regrown w37 d os)))
      have CAD : Hid (∀ (q : Value) (z : Int) (d : Nat) (os : Array Obj), ((q = .agg #[.int .i64 (s.size : Nat), .slice a2 E.length c2] ∧ z = ad) ∨ (q = .agg #[.int .i64 (s.size : Nat), .slice a3 I.length c3] ∧ z = ad)) → Calls Tryd.prog 31 #[q] (grow (redrawn w37 d) os) fun e w'' => e = .returned (.int .i64 z) ∧ ∃ p : Regrown, w'' = grow (redrawn w37 p.d) p.os) := fun q z d os h => by
        rcases h with ⟨rfl, rfl⟩ | ⟨rfl, rfl⟩
        · exact Calls.regrown_of (adds_v IS.out BK.out.adE (E38.out.later (below_regrown w37 d os)) (T38.out.later (below_regrown w37 d os)))
        · exact Calls.regrown_of (adds_v BK.out.iis BK.out.adI (I38.out.later (below_regrown w37 d os)) (T38.out.later (below_regrown w37 d os)))
      have CSS := Hid.mk7 (fun d os => Calls.regrown_of (same_vF (L := D) (M := D) (b := true) (by simp) BK.out.dok.1 BK.out.dok.1 (K39.out.later (below_regrown w37 d os)) (S38.out.later (below_regrown w37 d os))))
      have CSD := Hid.mk7 (fun d os => Calls.regrown_of (same_v (es := E) (qs := E) (base := (s.size : Nat)) (b := (s.size : Nat)) (t := true) (by simp) (by omega) (J38.out.later (below_regrown w37 d os)) (E38.out.later (below_regrown w37 d os))))
      go_wp2_with fail
      refine wp_region_quiet_below (by kernel_rfl) (by kernel_rfl) ?_
      try simp only [List.append]
      repeat (go_big_quiet_step (first
        | (go_at_call 28; exact CDR.out _ _ _ _ (by first | exact Or.inl ⟨rfl, rfl⟩ | exact Or.inr ⟨rfl, rfl⟩))
        | (go_at_call 31; exact CAD.out _ _ _ _ (by first | exact Or.inl ⟨rfl, rfl⟩ | exact Or.inr ⟨rfl, rfl⟩))
        | (go_at_call 29; exact CSS.out _ _)
        | (go_at_call 30; exact CSD.out _ _)))
      refine wpQuiet_nil ?_
      intro _ hw'
      obtain ⟨⟨dq, osq⟩, hw''⟩ := hw'
      subst hw''
      have GZ := Hid.mk7 (G38.out.trans ((below_regrown w37 dq osq).mono G38.out.size))
      clear CDR CAD CSS CSD RDz0 RDz1 RIz0 RIz1 RJz0 RJz1
      go_wp2
      go_ret
      exact ⟨rfl, GZ.out⟩
end Go.Proofs.YtalolaajcmndeaaDoor
