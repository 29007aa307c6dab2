/- ComposeUndoes walked. -/
import Derived.Test.YtiienebioebjpaaDoorComLaw
import Derived.Test.YtiienebioebjpaaDoorComUndo
import Derived.Test.YtiienebioebjpaaDoorComAll
namespace Go.Proofs.YtiienebioebjpaaDoor
open Go.RowKit Go.Sort Go.Lib
set_option linter.unusedSimpArgs false
set_option linter.unusedVariables false

theorem refedge13 {s : ByteArray} (hs : s.size ≤ maxLen) {a : Int} {x : Bool} (hx : edg s a = x) (w : World) :
    Calls Tryd.prog 20 #[.string s, .int .i64 a] w fun e w' => e = .returned (.bool x) ∧ w' = w := by
  subst hx; exact refedge_any s a w hs
/-- Changes at edges, not long. -/
def EdL (s : ByteArray) (l : List El) : Prop := ∀ e ∈ l, e.2.2.length ≤ 60 ∧ edg s e.1 = true ∧ edg s e.2.1 = true
theorem edL_snoc {s : ByteArray} {l : List El} {k : Nat} {e : El} (h : EdL s (l.take k)) (hr : l[k]? = some e) (h1 : e.2.2.length ≤ 60) (h2 : edg s e.1 = true) (h3 : edg s e.2.1 = true) : EdL s (l.take (k + 1)) := by
  intro x hx
  rw [take_snoc7 hr] at hx
  rcases List.mem_append.1 hx with hx | hx
  · exact h x hx
  · simp only [List.mem_singleton] at hx
    subst hx
    exact ⟨h1, h2, h3⟩
theorem edL_sm {s : ByteArray} {l : List El} (h : EdL s l) : Sm l 60 := fun e he => (h e he).1
theorem edL_ve {s : ByteArray} {l : List El} (h : EdL s l) (hw : wthB (s.size : Nat) l = true) : ∀ e ∈ l, VE s.data.toList e.1 ∧ VE s.data.toList e.2.1 := by
  intro e he
  have h1 := h e he
  have h2 := of_decide_eq_true (List.all_eq_true.1 hw e he)
  obtain ⟨f, hf⟩ : ∃ n : Nat, e.1 = (n : Int) := ⟨e.1.toNat, by omega⟩
  obtain ⟨t, ht⟩ : ∃ n : Nat, e.2.1 = (n : Int) := ⟨e.2.1.toNat, by omega⟩
  rw [hf, ht] at h1 ⊢
  exact ⟨ve_edg h1.2.1, ve_edg h1.2.2⟩
set_option maxHeartbeats 8000000 in
set_option maxRecDepth 100000 in
theorem undoes13_any (s : ByteArray) {v : Value} {l : List El} (hs : s.size ≤ maxLen) (hl : l.length ≤ maxLen) (hsm : Sm l maxLen) (w : World) (tb : Nat × Nat) (hT : Tab w tb) (h : ElAt w v l) :
    Calls Tryd.prog 6 #[.string s, v] w fun e w' => e = .returned (.bool true) ∧ RowKit.Below w.heap.size w w' := by
  obtain ⟨va, vcap, rfl, hvc, _, _⟩ := id h
  have L0 := Hid.mk7 h
  have T0 := Hid.mk7 hT
  have G0 := Hid.mk7 (RowKit.Below.refl w.heap.size w)
  clear hT h
  by_cases hlong : 150 < s.size
  · have t1 : decide ((150 : Int) < (s.size : Int)) = true := decide_eq_true (by omega)
    go_enter Tryd.func6, Tryd.ntmps6
    go_wp2_with fail
    refine (known13_any _ tb T0.out).mono ?_
    rintro e w11 ⟨rfl, bz⟩
    have L12 := Hid.mk7 (L0.out.later bz)
    have T12 := Hid.mk7 (T0.out.later bz)
    have G12 := Hid.mk7 (G0.out.trans (bz.mono G0.out.size))
    clear L0 T0 G0 bz
    go_wp2
    go_ret
    exact ⟨rfl, G12.out⟩
  have t1 : decide ((150 : Int) < (s.size : Int)) = false := decide_eq_false (by omega)
  by_cases hlong2 : 8 < l.length
  · have t2 : decide ((8 : Int) < (l.length : Int)) = true := decide_eq_true (by omega)
    go_enter Tryd.func6, Tryd.ntmps6
    go_wp2_with fail
    refine (known13_any _ tb T0.out).mono ?_
    rintro e w11 ⟨rfl, bz⟩
    have L12 := Hid.mk7 (L0.out.later bz)
    have T12 := Hid.mk7 (T0.out.later bz)
    have G12 := Hid.mk7 (G0.out.trans (bz.mono G0.out.size))
    clear L0 T0 G0 bz
    go_wp2
    go_ret
    exact ⟨rfl, G12.out⟩
  have t2 : decide ((8 : Int) < (l.length : Int)) = false := decide_eq_false (by omega)
  have hs1 : s.size ≤ 150 := by omega
  have hl8 : l.length ≤ 8 := by omega
  clear hlong hlong2
  by_cases hv : vld s.data.toList = true
  case neg =>
    have hv' : vld s.data.toList = false := by simpa using hv
    clear hv
    go_enter Tryd.func6, Tryd.ntmps6
    go_wp2_with fail
    refine (known13_any _ tb T0.out).mono ?_
    rintro e w11 ⟨rfl, bz⟩
    have L12 := Hid.mk7 (L0.out.later bz)
    have T12 := Hid.mk7 (T0.out.later bz)
    have G12 := Hid.mk7 (G0.out.trans (bz.mono G0.out.size))
    clear L0 T0 G0 bz
    go_wp2_with fail
    refine (refvalid13 hs hv' _).mono ?_
    rintro e wv ⟨rfl, hw⟩
    obtain rfl : w11 = wv := hw.symm
    go_wp2
    go_ret
    exact ⟨rfl, G12.out⟩
  have HV := Hid.mk7 hv
  clear hv
  go_enter Tryd.func6, Tryd.ntmps6
  go_wp2_with fail
  refine (known13_any _ tb T0.out).mono ?_
  rintro e w11 ⟨rfl, bz⟩
  have L12 := Hid.mk7 (L0.out.later bz)
  have T12 := Hid.mk7 (T0.out.later bz)
  have G12 := Hid.mk7 (G0.out.trans (bz.mono G0.out.size))
  clear L0 T0 G0 bz
  go_wp2_with fail
  refine (refvalid13 hs HV.out _).mono ?_
  rintro e wv ⟨rfl, hw⟩
  obtain rfl : w11 = wv := hw.symm
  obtain ⟨_, _, e4, _, _, hcells⟩ := id L12.out
  cases e4
  have HC := Hid.mk7 hcells
  clear hcells
  go_wp2
  go_loopw [5] (fun iv wr => ∃ k : Nat, k ≤ l.length ∧ iv = .int .i64 (k : Nat) ∧ Hid (EdL s (l.take k)) ∧ w11 = wr) (fun iv _ => l.length - (intOf iv).toNat)
  case atStart => exact ⟨0, Nat.zero_le _, rfl, (fun e he => by simp at he), rfl⟩
  case round =>
    obtain ⟨k, hk, rfl, HS, rfl⟩ := hrel
    by_cases hlt : k < l.length
    · obtain ⟨⟨f, t, T⟩, hr⟩ : ∃ r, l[k]? = some r := ⟨l[k], List.getElem?_eq_getElem hlt⟩
      obtain ⟨g, off, rfl, q0, q1, q2⟩ := HC.out k _ hr
      simp only at q0 q1 q2
      have hcs : (cacc T).size = T.length := cacc_size T
      have HR := Hid.mk7 hr
      clear hr
      generalize cacc T = z at *
      by_cases hT60 : 60 < T.length
      · have d1 : decide ((60 : Int) < (T.length : Int)) = true := decide_eq_true (by omega)
        go_wp2
        go_ret
        exact ⟨rfl, G12.out⟩
      have d1 : decide ((60 : Int) < (T.length : Int)) = false := decide_eq_false (by omega)
      by_cases e1 : edg s f = true
      case neg =>
        have e1' : edg s f = false := by simpa using e1
        clear e1
        go_wp2_with fail
        refine (refedge13 hs e1' _).mono ?_
        rintro e wv ⟨rfl, hw⟩
        obtain rfl : w11 = wv := hw.symm
        go_wp2
        go_ret
        exact ⟨rfl, G12.out⟩
      by_cases e2 : edg s t = true
      case neg =>
        have e2' : edg s t = false := by simpa using e2
        have E1 := Hid.mk7 e1
        clear e1 e2
        go_wp2_with fail
        refine (refedge13 hs E1.out _).mono ?_
        rintro e wv ⟨rfl, hw⟩
        obtain rfl : w11 = wv := hw.symm
        go_wp2_with fail
        refine (refedge13 hs e2' _).mono ?_
        rintro e wv ⟨rfl, hw⟩
        obtain rfl : w11 = wv := hw.symm
        go_wp2
        go_ret
        exact ⟨rfl, G12.out⟩
      have HS2 := Hid.mk7 (edL_snoc HS.out HR.out (by simp only; omega) e1 e2)
      have E1 := Hid.mk7 e1
      have E2 := Hid.mk7 e2
      clear e1 e2 HS
      go_wp2_with fail
      refine (refedge13 hs E1.out _).mono ?_
      rintro e wv ⟨rfl, hw⟩
      obtain rfl : w11 = wv := hw.symm
      go_wp2_with fail
      refine (refedge13 hs E2.out _).mono ?_
      rintro e wv ⟨rfl, hw⟩
      obtain rfl : w11 = wv := hw.symm
      clear q0 q1 q2
      go_wp2
      go_roundw
      case rel => exact ⟨k + 1, by omega, by go_num, HS2, trivial⟩
      case measure => simp [intOf]; omega
    · obtain rfl : k = l.length := by omega
      have hed : EdL s l := by have := HS.out; rw [List.take_length] at this; exact this
      have HSM := Hid.mk7 ((edL_sm hed).mono (n := 100000) (by omega))
      have hin : inS l ≤ 100000 := by
        have := inS_bd l 60 (edL_sm hed)
        omega
      by_cases hf : flt (s.size : Nat) l = 0
      case neg =>
        obtain ⟨r, hfr⟩ : ∃ r, flt (s.size : Nat) l = r := ⟨_, rfl⟩
        rw [hfr] at hf
        have HFR := Hid.mk7 hfr
        have d1 : (r != 0) = true := by simpa using hf
        have d2 : decide (r = 0) = false := decide_eq_false hf
        clear hfr
        go_wp2_with fail
        refine (build_bv HFR.out hf (HSM.out.mono (by omega)) (by omega) L12.out T12.out).mono ?_
        rintro e w13 ⟨rfl, bz⟩
        have L14 := Hid.mk7 (L12.out.later bz)
        have T14 := Hid.mk7 (T12.out.later bz)
        have G14 := Hid.mk7 (G12.out.trans (bz.mono G12.out.size))
        clear L12 T12 G12 bz
        have bz : RowKit.Below w13.heap.size w13 (w13.alloc (.cells #[.int .i64 0, .slice none 0 0] 24)) := below_newE (RowKit.Below.refl _ _) _
        have nw15 := Hid.mk7 (@Rd.new w13 (.int .i64 0) (.slice none 0 0))
        have L16 := Hid.mk7 (L14.out.later bz)
        have T16 := Hid.mk7 (T14.out.later bz)
        have G16 := Hid.mk7 (G14.out.trans (bz.mono G14.out.size))
        clear L14 T14 G14 bz
        go_wp2
        go_ret
        exact ⟨rfl, G16.out⟩
      by_cases hm : (elG (s.size : Nat) [] 0 l).length ≤ 60
      case neg =>
        have HFR := Hid.mk7 hf
        clear hf
        go_wp2_with fail
        refine (build_many (s.size : Nat) L12.out (HSM.out.mono (by omega)) (by omega) hin tb T12.out HFR.out (by omega)).mono ?_
        rintro e w13 ⟨rfl, bz⟩
        have L14 := Hid.mk7 (L12.out.later bz)
        have T14 := Hid.mk7 (T12.out.later bz)
        have G14 := Hid.mk7 (G12.out.trans (bz.mono G12.out.size))
        clear L12 T12 G12 bz
        have bz : RowKit.Below w13.heap.size w13 (w13.alloc (.cells #[.int .i64 0, .slice none 0 0] 24)) := below_newE (RowKit.Below.refl _ _) _
        have nw15 := Hid.mk7 (@Rd.new w13 (.int .i64 0) (.slice none 0 0))
        have L16 := Hid.mk7 (L14.out.later bz)
        have T16 := Hid.mk7 (T14.out.later bz)
        have G16 := Hid.mk7 (G14.out.trans (bz.mono G14.out.size))
        clear L14 T14 G14 bz
        go_wp2
        go_ret
        exact ⟨rfl, G16.out⟩
      obtain ⟨t, ie, je, hu⟩ := undo_built (s := s.data.toList) HV.out hf hm (by omega) (edL_ve hed (gd_of hf).wt)
      have hei := isB_elG hf hm
      have HBV := Hid.mk7 (fun (W : World) (hx : ElAt W (.slice va l.length vcap) l) (t : Tab W tb) => build_v hf rfl hm HSM.out (by omega) hin hx t)
      obtain ⟨es, hes⟩ : ∃ es, elG (s.size : Nat) [] 0 l = es := ⟨_, rfl⟩
      have hu : Undo s.data.toList es t ie je := by rw [← hes]; exact hu
      have hei : isB (s.size : Nat) es = true := by rw [← hes]; exact hei
      rw [hes] at HBV
      clear hes hf hm hed
      have hle := (dl_of hei).len
      obtain ⟨tB, htB⟩ : ∃ tB : ByteArray, cacc t = tB := ⟨_, rfl⟩
      have htl : tB.data.toList = t := by rw [← htB]; rfl
      have HTS : Hid ((tB.size : Int) = (t.length : Int)) := by show _ = _; rw [← htl]; rfl
      have hsS : (s.data.toList.length : Int) = (s.size : Int) := rfl
      have htlen := hu.tl
      have hli := hu.lI
      have hlj := hu.lJ
      have HAD := Hid.mk7 (fun (W : World) (v : Value) (hx : ElAt W v es) (t' : Tab W tb) => apply_v (s := s) (r := tB) hei rfl (by rw [hu.tt]; exact htB) hx t')
      obtain ⟨z, hz⟩ : ∃ z : Int, ((cel es).length : Nat) = z := ⟨_, rfl⟩
      have hzt : (tB.size : Int) = z := by have := HTS.out; omega
      have hii : isB z ie = true := by have := hu.isI; rw [show ((t.length : Nat) : Int) = z by omega] at this; exact this
      have hjj : isB (s.size : Nat) je = true := hu.isJ
      have hri : Rs z ie z ie 0 := rs_good (isB_vl hii).1 (isB_vl hii).2
      have hrj : Rs (s.size : Nat) je (s.size : Nat) je 0 := rs_good (isB_vl hjj).1 (isB_vl hjj).2
      have HI1 := Hid.mk7 (fun (W : World) (v : Value) (hx : ElAt W v es) (t' : Tab W tb) => inv_v (s := s) rfl hei HV.out hz hu.ie' hri hx t')
      have HA2 := Hid.mk7 (fun (W : World) (v : Value) (hx : ElAt W v ie) (t' : Tab W tb) => apply_v (s := tB) (r := s) hii hzt (by rw [htl, hu.apI]; exact cacc_bytes s) hx t')
      have hlz : (((cel ie).length : Nat) : Int) = (s.size : Nat) := by
        have e := congrArg List.length hu.apI
        rw [apl_len] at e
        rw [e]; rfl
      have HI2 := Hid.mk7 (fun (W : World) (v : Value) (hx : ElAt W v ie) (t' : Tab W tb) => inv_v (s := tB) (base := z) hzt hii (by rw [htl]; exact hu.vt) hlz (by rw [htl]; exact hu.je') hrj hx t')
      have HA3 := Hid.mk7 (fun (W : World) (v : Value) (hx : ElAt W v je) (t' : Tab W tb) => apply_v (s := s) (r := tB) hjj rfl (by rw [hu.apJ]; exact htB) hx t')
      obtain ⟨x, hx⟩ : ∃ x : Int, (inS ie : Int) = x := ⟨_, rfl⟩
      obtain ⟨y, hy⟩ : ∃ y : Int, (inS es : Int) = y := ⟨_, rfl⟩
      have hxd : (s.size : Int) - cpS es = x := by rw [← hx]; have := hu.adI; omega
      have hyd : z - cpS ie = y := by rw [← hy]; have := hu.drI; omega
      have HX1 := Hid.mk7 hx
      have HX2 := Hid.mk7 hxd
      have HY1 := Hid.mk7 hy
      have HY2 := Hid.mk7 hyd
      have HEI := Hid.mk7 hei
      have HII := Hid.mk7 hii
      obtain ⟨n, hn⟩ : ∃ n : Int, (s.size : Int) = n := ⟨_, rfl⟩
      clear hu hei hii hjj hri hrj hx hy hxd hyd hlz hz hzt htl htB htlen hsS HTS hn
      go_wp2_with fail
      refine (HBV.out _ L12.out T12.out).mono ?_
      rintro e w13 ⟨ev, rfl, he, bz⟩
      obtain ⟨ea, ec, rfl, _, _, _⟩ := id he
      have L14 := Hid.mk7 (L12.out.later bz)
      have T14 := Hid.mk7 (T12.out.later bz)
      have G14 := Hid.mk7 (G12.out.trans (bz.mono G12.out.size))
      clear L12 T12 G12 bz
      have E15 := Hid.mk7 (he)
      clear he
      clear HBV
      have bz : RowKit.Below w13.heap.size w13 (w13.alloc (.cells #[.int .i64 (s.size : Nat), .slice ea es.length ec] 24)) := below_newE (RowKit.Below.refl _ _) _
      have nw16 := Hid.mk7 (@Rd.new w13 (.int .i64 (s.size : Nat)) (.slice ea es.length ec))
      have L17 := Hid.mk7 (L14.out.later bz)
      have T17 := Hid.mk7 (T14.out.later bz)
      have G17 := Hid.mk7 (G14.out.trans (bz.mono G14.out.size))
      have E17 := Hid.mk7 (E15.out.later bz)
      clear L14 T14 G14 E15 bz
      have REc0 := nw16.out.c0
      have REc1 := nw16.out.c1
      go_wp2_with fail
      refine (HAD.out _ _ E17.out T17.out).mono ?_
      rintro e w18 ⟨rfl, bz⟩
      clear REc0 REc1
      have L19 := Hid.mk7 (L17.out.later bz)
      have T19 := Hid.mk7 (T17.out.later bz)
      have G19 := Hid.mk7 (G17.out.trans (bz.mono G17.out.size))
      have E19 := Hid.mk7 (E17.out.later bz)
      have RE19 := Hid.mk7 (nw16.out.later bz)
      clear L17 T17 G17 E17 nw16 bz
      have REc0 := RE19.out.c0
      have REc1 := RE19.out.c1
      go_wp2_with fail
      refine (HI1.out _ _ E19.out T19.out).mono ?_
      rintro e w20 ⟨iv, rfl, hi, bz⟩
      clear REc0 REc1
      obtain ⟨ia, ic, rfl, _, _, _⟩ := id hi
      have L21 := Hid.mk7 (L19.out.later bz)
      have T21 := Hid.mk7 (T19.out.later bz)
      have G21 := Hid.mk7 (G19.out.trans (bz.mono G19.out.size))
      have E21 := Hid.mk7 (E19.out.later bz)
      have RE21 := Hid.mk7 (RE19.out.later bz)
      clear L19 T19 G19 E19 RE19 bz
      have I22 := Hid.mk7 (hi)
      clear hi
      have bz : RowKit.Below w20.heap.size w20 (w20.alloc (.cells #[.int .i64 z, .slice ia ie.length ic] 24)) := below_newE (RowKit.Below.refl _ _) _
      have nw23 := Hid.mk7 (@Rd.new w20 (.int .i64 z) (.slice ia ie.length ic))
      have L24 := Hid.mk7 (L21.out.later bz)
      have T24 := Hid.mk7 (T21.out.later bz)
      have G24 := Hid.mk7 (G21.out.trans (bz.mono G21.out.size))
      have E24 := Hid.mk7 (E21.out.later bz)
      have RE24 := Hid.mk7 (RE21.out.later bz)
      have I24 := Hid.mk7 (I22.out.later bz)
      clear L21 T21 G21 E21 RE21 I22 bz
      have REc0 := RE24.out.c0
      have REc1 := RE24.out.c1
      have RIc0 := nw23.out.c0
      have RIc1 := nw23.out.c1
      go_wp2_with fail
      refine (HA2.out _ _ I24.out T24.out).mono ?_
      rintro e w25 ⟨rfl, bz⟩
      clear REc0 REc1 RIc0 RIc1
      have L26 := Hid.mk7 (L24.out.later bz)
      have T26 := Hid.mk7 (T24.out.later bz)
      have G26 := Hid.mk7 (G24.out.trans (bz.mono G24.out.size))
      have E26 := Hid.mk7 (E24.out.later bz)
      have RE26 := Hid.mk7 (RE24.out.later bz)
      have I26 := Hid.mk7 (I24.out.later bz)
      have RI26 := Hid.mk7 (nw23.out.later bz)
      clear L24 T24 G24 E24 RE24 I24 nw23 bz
      have REc0 := RE26.out.c0
      have REc1 := RE26.out.c1
      have RIc0 := RI26.out.c0
      have RIc1 := RI26.out.c1
      go_wp2_with fail
      refine (HI2.out _ _ I26.out T26.out).mono ?_
      rintro e w27 ⟨jv, rfl, hj, bz⟩
      clear REc0 REc1 RIc0 RIc1
      obtain ⟨ja, jc, rfl, _, _, _⟩ := id hj
      have L28 := Hid.mk7 (L26.out.later bz)
      have T28 := Hid.mk7 (T26.out.later bz)
      have G28 := Hid.mk7 (G26.out.trans (bz.mono G26.out.size))
      have E28 := Hid.mk7 (E26.out.later bz)
      have RE28 := Hid.mk7 (RE26.out.later bz)
      have I28 := Hid.mk7 (I26.out.later bz)
      have RI28 := Hid.mk7 (RI26.out.later bz)
      clear L26 T26 G26 E26 RE26 I26 RI26 bz
      have J29 := Hid.mk7 (hj)
      clear hj
      have bz : RowKit.Below w27.heap.size w27 (w27.alloc (.cells #[.int .i64 (s.size : Nat), .slice ja je.length jc] 24)) := below_newE (RowKit.Below.refl _ _) _
      have nw30 := Hid.mk7 (@Rd.new w27 (.int .i64 (s.size : Nat)) (.slice ja je.length jc))
      have L31 := Hid.mk7 (L28.out.later bz)
      have T31 := Hid.mk7 (T28.out.later bz)
      have G31 := Hid.mk7 (G28.out.trans (bz.mono G28.out.size))
      have E31 := Hid.mk7 (E28.out.later bz)
      have RE31 := Hid.mk7 (RE28.out.later bz)
      have I31 := Hid.mk7 (I28.out.later bz)
      have RI31 := Hid.mk7 (RI28.out.later bz)
      have J31 := Hid.mk7 (J29.out.later bz)
      clear L28 T28 G28 E28 RE28 I28 RI28 J29 bz
      have REc0 := RE31.out.c0
      have REc1 := RE31.out.c1
      have RIc0 := RI31.out.c0
      have RIc1 := RI31.out.c1
      have RJc0 := nw30.out.c0
      have RJc1 := nw30.out.c1
      go_wp2_with fail
      refine (HA3.out _ _ J31.out T31.out).mono ?_
      rintro e w32 ⟨rfl, bz⟩
      clear REc0 REc1 RIc0 RIc1 RJc0 RJc1
      have L33 := Hid.mk7 (L31.out.later bz)
      have T33 := Hid.mk7 (T31.out.later bz)
      have G33 := Hid.mk7 (G31.out.trans (bz.mono G31.out.size))
      have E33 := Hid.mk7 (E31.out.later bz)
      have RE33 := Hid.mk7 (RE31.out.later bz)
      have I33 := Hid.mk7 (I31.out.later bz)
      have RI33 := Hid.mk7 (RI31.out.later bz)
      have J33 := Hid.mk7 (J31.out.later bz)
      have RJ33 := Hid.mk7 (nw30.out.later bz)
      clear L31 T31 G31 E31 RE31 I31 RI31 J31 nw30 bz
      clear RJ33 J33
      have REc0 := RE33.out.c0
      have REc1 := RE33.out.c1
      have RIc0 := RI33.out.c0
      have RIc1 := RI33.out.c1
      go_upto_region 18 with fail
      have A1 := Hid.mk7 (fun d os => Calls.regrown_of (adds_v HII.out HX1.out (I33.out.later (below_regrown w32 d os)) (T33.out.later (below_regrown w32 d os))))
      have A2 := Hid.mk7 (fun d os => Calls.regrown_of (drops_v HEI.out HX2.out (E33.out.later (below_regrown w32 d os)) (T33.out.later (below_regrown w32 d os))))
      have A3 := Hid.mk7 (fun d os => Calls.regrown_of (drops_v HII.out HY2.out (I33.out.later (below_regrown w32 d os)) (T33.out.later (below_regrown w32 d os))))
      have A4 := Hid.mk7 (fun d os => Calls.regrown_of (adds_v HEI.out HY1.out (E33.out.later (below_regrown w32 d os)) (T33.out.later (below_regrown w32 d os))))
      have z0 := cell_regrown REc0
      have z1 := cell_regrown REc1
      have z2 := cell_regrown RIc0
      have z3 := cell_regrown RIc1
      clear REc0 REc1 RIc0 RIc1
      clear HAD HI1 HA2 HI2 HA3 HX1 HX2 HY1 HY2 HEI HII
      refine wp_region_quiet_below (by kernel_rfl) (by kernel_rfl) ?_
      repeat (go_big_quiet_step (first | (go_at_call_of 26 (Value.agg #[Value.int .i64 z, Value.slice ia ie.length ic]); exact A1.out _ _) | (go_at_call_of 27 (Value.agg #[Value.int .i64 z, Value.slice ia ie.length ic]); exact A3.out _ _) | (go_at_call 27; exact A2.out _ _) | (go_at_call 26; exact A4.out _ _)))
      refine wpQuiet_nil ?_
      intro _ hw'
      obtain ⟨⟨dq, osq⟩, hw''⟩ := hw'
      subst hw''
      have bz := below_regrown w32 dq osq
      have GZ := Hid.mk7 (G33.out.trans (bz.mono G33.out.size))
      clear A1 A2 A3 A4 z0 z1 z2 z3
      go_wp2
      go_ret
      exact ⟨rfl, GZ.out⟩
end Go.Proofs.YtiienebioebjpaaDoor
