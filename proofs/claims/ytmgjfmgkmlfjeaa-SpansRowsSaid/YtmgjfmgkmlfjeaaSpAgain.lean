/- SpansAgain walked. -/
import Derived.Test.YtmgjfmgkmlfjeaaSpKnown
import Derived.Test.YtmgjfmgkmlfjeaaSpSame
import Derived.Test.YtmgjfmgkmlfjeaaSpLaw
namespace Go.Proofs.Ytmgjfmgkmlfjeaa
open Go.RowKit Go.Sort
set_option linter.unusedSimpArgs false
set_option linter.unusedVariables false

theorem put_ok15 {m : Int} {l M : List Sp} {x : Sp} (h : OkS m 0 0 l) (hm : m ≤ 20000) (hl : l.length ≤ 60) (ht : toP x = true) (hr : putS l x = M) (hM : M.length ≤ 60) : putE l x = 0 ∧ putL l x = M := by
  subst hr
  exact putE_ok ⟨isS_spec.2 ⟨hl, h.mono (by omega)⟩, ht⟩ hM
theorem same_v15 {w : World} {u v : Value} {A : List Sp} (h1 : SpAt w u A) (h2 : SpAt w v A) (hl : A.length ≤ 1000) :
    Calls Try.prog 12 #[u, v] w fun e w' => e = .returned (.bool true) ∧ Below w.heap.size w w' := by
  have := same15_any h1 h2 hl hl
  rwa [decide_eq_true rfl] at this
theorem againE {a b c st : Int} (ha : 0 ≤ a) (hab : a ≤ b) (hb : b ≤ 300) (hc : 1 ≤ c ∧ c ≤ 100) (hs : 1 ≤ st ∧ st ≤ 100) : ∃ X Y : List Sp,
    (putE [] (0, 300, c) = 0 ∧ putL [] (0, 300, c) = [(0, 300, c)]) ∧ (putE [(0, 300, c)] (a, b, st) = 0 ∧ putL [(0, 300, c)] (a, b, st) = X) ∧ (putE X (a, b, st) = 0 ∧ putL X (a, b, st) = X) ∧ (putE X (a, b, c) = 0 ∧ putL X (a, b, c) = [(0, 300, c)]) ∧
    (putE [] (a, b, 0) = 0 ∧ putL [] (a, b, 0) = []) ∧ (putE [(0, 300, c)] (a, b, 0) = 0 ∧ putL [(0, 300, c)] (a, b, 0) = Y) ∧ isS 300 Y = true ∧ (a < b → atS Y a = 0) ∧ X.length ≤ 60 ∧ Y.length ≤ 60 := by
  obtain ⟨p1, p2, p3, p4, p5, p6, p7, p8, p9, p10⟩ := again15 ha hab hb hc hs
  have t1 : toP (0, 300, c) = true := toP_spec.2 (by omega)
  have t2 : toP (a, b, st) = true := toP_spec.2 (by omega)
  have t3 : toP (a, b, c) = true := toP_spec.2 (by omega)
  have t4 : toP (a, b, 0) = true := toP_spec.2 (by omega)
  refine ⟨_, _, put_ok15 (m := 300) trivial (by omega) (by simp) t1 p2 (by simp), put_ok15 p1 (by omega) (by simp) t2 rfl (by omega), put_ok15 p3 (by omega) (by omega) t2 p4 (by omega), put_ok15 p3 (by omega) (by omega) t3 p5 (by simp),
    put_ok15 (m := 300) trivial (by omega) (by simp) t4 p6 (by simp), put_ok15 p1 (by omega) (by simp) t4 rfl (by omega), isS_spec.2 ⟨by omega, p7.mono (by omega)⟩, p8, by omega, by omega⟩
set_option maxHeartbeats 4000000 in
set_option maxRecDepth 100000 in
theorem again_any15 (fr to st ot : Int) (w : World) (h0 : 0 ≤ fr ∧ fr ≤ 255) (h1 : 0 ≤ to ∧ to ≤ 255) (h2 : 0 ≤ st ∧ st ≤ 255) (h3 : 0 ≤ ot ∧ ot ≤ 255) :
    Calls Try.prog 4 #[.int .u8 fr, .int .u8 to, .int .u8 st, .int .u8 ot] w fun e w' => e = .returned (.bool true) ∧ Below w.heap.size w w' := by
  have HK := Hid.mk7 (known15_any w)
  rcases Int.lt_trichotomy fr to with hft | rfl | hft
  · have d1 : decide (fr ≤ to) = true := decide_eq_true (by omega)
    have d2 : decide (to ≤ fr) = false := decide_eq_false (by omega)
    have d3 : decide (fr < to) = true := decide_eq_true (by omega)
    have d4 : decide (to < fr) = false := decide_eq_false (by omega)
    have d5 : (fr == to) = false := by simp; omega
    obtain ⟨X, Y, ⟨e1, l1⟩, ⟨e2, l2⟩, ⟨e3, l3⟩, ⟨e4, l4⟩, ⟨e5, l5⟩, ⟨e6, l6⟩, iY, aY, nX, nY⟩ := againE (a := fr) (b := to) (c := (ot % 100 + 1)) (st := (st % 100 + 1)) (by omega) (by omega) (by omega) (by omega) (by omega)
    have HE1 := Hid.mk7 e1
    have HL1 := Hid.mk7 l1
    have HE2 := Hid.mk7 e2
    have HL2 := Hid.mk7 l2
    have HE3 := Hid.mk7 e3
    have HL3 := Hid.mk7 l3
    have HE4 := Hid.mk7 e4
    have HL4 := Hid.mk7 l4
    have HE5 := Hid.mk7 e5
    have HL5 := Hid.mk7 l5
    have HE6 := Hid.mk7 e6
    have HL6 := Hid.mk7 l6
    have HIY := Hid.mk7 iY
    have HAY := Hid.mk7 (aY (by omega))
    clear e1 l1 e2 l2 e3 l3 e4 l4 e5 l5 e6 l6 iY aY
    go_enter Try.func4, Try.ntmps4
    go_wp2_with fail
    refine HK.out.mono ?_
    rintro e w0 ⟨rfl, b0⟩
    have G0 := Hid.mk7 (below15 b0 (.cells #[.int .i64 fr, .int .i64 to, .int .i64 (st % 100 + 1)] 26))
    have P0 := Hid.mk7 (Rt.new 26 w0 (.int .i64 fr) (.int .i64 to) (.int .i64 (st % 100 + 1)))
    have HZ : Hid (w.heap.size ≤ w0.heap.size) := b0.size
    obtain ⟨g, hg⟩ : ∃ g, w0.heap.size = g := ⟨_, rfl⟩
    rw [hg] at P0 HZ
    have HG : Hid (g < (w0.alloc (.cells #[.int .i64 fr, .int .i64 to, .int .i64 (st % 100 + 1)] 26)).heap.size) := P0.out.lt
    clear b0
    have p0 := P0.out.c0
    have p1 := P0.out.c1
    have p2 := P0.out.c2
    go_wp2_with fail
    try rw [hg]
    refine (put_v (SpAt.nil _) HE1.out HL1.out).mono ?_
    rintro e w1 ⟨vb, rfl, hb, hib, bz⟩
    clear p0 p1 p2
    have P1 := Hid.mk7 (P0.out.later bz)
    have G1 := Hid.mk7 (G0.out.trans (bz.mono G0.out.size))
    have b1 := Hid.mk7 hb
    have HIb : Hid (HiB (g + 1) vb) := hib.mono P0.out.lt
    clear hb hib
    clear bz P0 G0 
    have p0 := P1.out.c0
    have p1 := P1.out.c1
    have p2 := P1.out.c2
    go_wp2_with fail
    refine (put_v b1.out HE2.out HL2.out).mono ?_
    rintro e w2 ⟨vl, rfl, hl, hil, bz⟩
    clear p0 p1 p2
    have P2 := Hid.mk7 (P1.out.later bz)
    have G2 := Hid.mk7 (G1.out.trans (bz.mono G1.out.size))
    have b2 := Hid.mk7 (b1.out.later bz)
    have l2 := Hid.mk7 hl
    have HIl : Hid (HiB (g + 1) vl) := hil.mono P1.out.lt
    clear hl hil
    clear bz P1 G1 b1
    have p0 := P2.out.c0
    have p1 := P2.out.c1
    have p2 := P2.out.c2
    go_wp2_with fail
    refine (put_v l2.out HE3.out HL3.out).mono ?_
    rintro e w3 ⟨vm, rfl, hm, him, bz⟩
    clear p0 p1 p2
    have P3 := Hid.mk7 (P2.out.later bz)
    have G3 := Hid.mk7 (G2.out.trans (bz.mono G2.out.size))
    have b3 := Hid.mk7 (b2.out.later bz)
    have l3 := Hid.mk7 (l2.out.later bz)
    have m3 := Hid.mk7 hm
    have HIm : Hid (HiB (g + 1) vm) := him.mono P2.out.lt
    clear hm him
    clear bz P2 G2 b2 l2
    have p0 := P3.out.c0
    have p1 := P3.out.c1
    have p2 := P3.out.c2
    have fz := P3.out.fz
    have P4 := Hid.mk7 (P3.out.set2 (.int .i64 (ot % 100 + 1)))
    have G4 := Hid.mk7 (G3.out.setCell (p := ⟨g, 2, none⟩) HZ.out (.int .i64 (ot % 100 + 1)))
    have b4 := Hid.mk7 (b3.out.set HIb.out 2 (.int .i64 (ot % 100 + 1)))
    have l4 := Hid.mk7 (l3.out.set HIl.out 2 (.int .i64 (ot % 100 + 1)))
    have m4 := Hid.mk7 (m3.out.set HIm.out 2 (.int .i64 (ot % 100 + 1)))
    go_wp2_with fail
    refine (put_v m4.out HE4.out HL4.out).mono ?_
    rintro e w5 ⟨vn, rfl, hn, hin, bz⟩
    clear p0 p1 p2 fz
    have P5 := Hid.mk7 (P4.out.later bz)
    have G5 := Hid.mk7 (G4.out.trans (bz.mono G4.out.size))
    have b5 := Hid.mk7 (b4.out.later bz)
    have l5 := Hid.mk7 (l4.out.later bz)
    have m5 := Hid.mk7 (m4.out.later bz)
    have n5 := Hid.mk7 hn
    have HIn : Hid (HiB (g + 1) vn) := hin.mono P4.out.lt
    clear hn hin
    clear bz P4 G4 P3 G3 b4 b3 l4 l3 m4 m3
    have p0 := P5.out.c0
    have p1 := P5.out.c1
    have p2 := P5.out.c2
    have fz := P5.out.fz
    have P6 := Hid.mk7 (P5.out.set2 (.int .i64 0))
    have G6 := Hid.mk7 (G5.out.setCell (p := ⟨g, 2, none⟩) HZ.out (.int .i64 0))
    have b6 := Hid.mk7 (b5.out.set HIb.out 2 (.int .i64 0))
    have l6 := Hid.mk7 (l5.out.set HIl.out 2 (.int .i64 0))
    have m6 := Hid.mk7 (m5.out.set HIm.out 2 (.int .i64 0))
    have n6 := Hid.mk7 (n5.out.set HIn.out 2 (.int .i64 0))
    go_wp2_with fail
    refine (put_v (SpAt.nil _) HE5.out HL5.out).mono ?_
    rintro e w7 ⟨vo, rfl, ho, hio, bz⟩
    clear p0 p1 p2 fz
    have P7 := Hid.mk7 (P6.out.later bz)
    have G7 := Hid.mk7 (G6.out.trans (bz.mono G6.out.size))
    have b7 := Hid.mk7 (b6.out.later bz)
    have l7 := Hid.mk7 (l6.out.later bz)
    have m7 := Hid.mk7 (m6.out.later bz)
    have n7 := Hid.mk7 (n6.out.later bz)
    have o7 := Hid.mk7 ho
    have HIo : Hid (HiB (g + 1) vo) := hio.mono P6.out.lt
    clear ho hio
    clear bz P6 G6 P5 G5 b6 b5 l6 l5 m6 m5 n6 n5
    have p0 := P7.out.c0
    have p1 := P7.out.c1
    have p2 := P7.out.c2
    go_wp2_with fail
    refine (put_v n7.out HE6.out HL6.out).mono ?_
    rintro e w8 ⟨vp, rfl, hp, hip, bz⟩
    clear p0 p1 p2
    have P8 := Hid.mk7 (P7.out.later bz)
    have G8 := Hid.mk7 (G7.out.trans (bz.mono G7.out.size))
    have b8 := Hid.mk7 (b7.out.later bz)
    have l8 := Hid.mk7 (l7.out.later bz)
    have m8 := Hid.mk7 (m7.out.later bz)
    have n8 := Hid.mk7 (n7.out.later bz)
    have o8 := Hid.mk7 (o7.out.later bz)
    have p8 := Hid.mk7 hp
    have HIp : Hid (HiB (g + 1) vp) := hip.mono P7.out.lt
    clear hp hip
    clear bz P7 G7 b7 l7 m7 n7 o7
    obtain ⟨oa, oc, rfl⟩ := o8.out.shape
    simp only [List.length_nil] at *
    have p0 := P8.out.c0
    have p1 := P8.out.c1
    have p2 := P8.out.c2
    go_wp2_with fail
    refine (at_v p8.out (by omega) HAY.out).mono ?_
    rintro e w9 ⟨rfl, bz⟩
    clear p0 p1 p2
    have P9 := Hid.mk7 (P8.out.later bz)
    have G9 := Hid.mk7 (G8.out.trans (bz.mono G8.out.size))
    have b9 := Hid.mk7 (b8.out.later bz)
    have l9 := Hid.mk7 (l8.out.later bz)
    have m9 := Hid.mk7 (m8.out.later bz)
    have n9 := Hid.mk7 (n8.out.later bz)
    have o9 := Hid.mk7 (o8.out.later bz)
    have p9 := Hid.mk7 (p8.out.later bz)
    clear bz P8 G8 b8 l8 m8 n8 o8 p8
    go_wp2_with fail
    refine (same_v15 l9.out m9.out (by omega)).mono ?_
    rintro e w10 ⟨rfl, bz⟩
    have P10 := Hid.mk7 (P9.out.later bz)
    have G10 := Hid.mk7 (G9.out.trans (bz.mono G9.out.size))
    have b10 := Hid.mk7 (b9.out.later bz)
    have l10 := Hid.mk7 (l9.out.later bz)
    have m10 := Hid.mk7 (m9.out.later bz)
    have n10 := Hid.mk7 (n9.out.later bz)
    have o10 := Hid.mk7 (o9.out.later bz)
    have p10 := Hid.mk7 (p9.out.later bz)
    clear bz P9 G9 b9 l9 m9 n9 o9 p9
    go_wp2_with fail
    refine (same_v15 n10.out b10.out (by simp)).mono ?_
    rintro e w11 ⟨rfl, bz⟩
    have P11 := Hid.mk7 (P10.out.later bz)
    have G11 := Hid.mk7 (G10.out.trans (bz.mono G10.out.size))
    have b11 := Hid.mk7 (b10.out.later bz)
    have l11 := Hid.mk7 (l10.out.later bz)
    have m11 := Hid.mk7 (m10.out.later bz)
    have n11 := Hid.mk7 (n10.out.later bz)
    have o11 := Hid.mk7 (o10.out.later bz)
    have p11 := Hid.mk7 (p10.out.later bz)
    clear bz P10 G10 b10 l10 m10 n10 o10 p10
    go_wp2_with fail
    refine (is_v p11.out HIY.out).mono ?_
    rintro e w12 ⟨rfl, bz⟩
    have P12 := Hid.mk7 (P11.out.later bz)
    have G12 := Hid.mk7 (G11.out.trans (bz.mono G11.out.size))
    have b12 := Hid.mk7 (b11.out.later bz)
    have l12 := Hid.mk7 (l11.out.later bz)
    have m12 := Hid.mk7 (m11.out.later bz)
    have n12 := Hid.mk7 (n11.out.later bz)
    have o12 := Hid.mk7 (o11.out.later bz)
    have p12 := Hid.mk7 (p11.out.later bz)
    clear bz P11 G11 b11 l11 m11 n11 o11 p11
    go_wp2
    go_ret
    exact ⟨rfl, G12.out⟩
  · have d1 : (fr == fr) = true := by simp
    obtain ⟨X, Y, ⟨e1, l1⟩, ⟨e2, l2⟩, ⟨e3, l3⟩, ⟨e4, l4⟩, ⟨e5, l5⟩, ⟨e6, l6⟩, iY, aY, nX, nY⟩ := againE (a := fr) (b := fr) (c := (ot % 100 + 1)) (st := (st % 100 + 1)) (by omega) (by omega) (by omega) (by omega) (by omega)
    have HE1 := Hid.mk7 e1
    have HL1 := Hid.mk7 l1
    have HE2 := Hid.mk7 e2
    have HL2 := Hid.mk7 l2
    have HE3 := Hid.mk7 e3
    have HL3 := Hid.mk7 l3
    have HE4 := Hid.mk7 e4
    have HL4 := Hid.mk7 l4
    have HE5 := Hid.mk7 e5
    have HL5 := Hid.mk7 l5
    have HE6 := Hid.mk7 e6
    have HL6 := Hid.mk7 l6
    have HIY := Hid.mk7 iY
    clear e1 l1 e2 l2 e3 l3 e4 l4 e5 l5 e6 l6 iY aY
    go_enter Try.func4, Try.ntmps4
    go_wp2_with fail
    refine HK.out.mono ?_
    rintro e w0 ⟨rfl, b0⟩
    have G0 := Hid.mk7 (below15 b0 (.cells #[.int .i64 fr, .int .i64 fr, .int .i64 (st % 100 + 1)] 26))
    have P0 := Hid.mk7 (Rt.new 26 w0 (.int .i64 fr) (.int .i64 fr) (.int .i64 (st % 100 + 1)))
    have HZ : Hid (w.heap.size ≤ w0.heap.size) := b0.size
    obtain ⟨g, hg⟩ : ∃ g, w0.heap.size = g := ⟨_, rfl⟩
    rw [hg] at P0 HZ
    have HG : Hid (g < (w0.alloc (.cells #[.int .i64 fr, .int .i64 fr, .int .i64 (st % 100 + 1)] 26)).heap.size) := P0.out.lt
    clear b0
    have p0 := P0.out.c0
    have p1 := P0.out.c1
    have p2 := P0.out.c2
    go_wp2_with fail
    try rw [hg]
    refine (put_v (SpAt.nil _) HE1.out HL1.out).mono ?_
    rintro e w1 ⟨vb, rfl, hb, hib, bz⟩
    clear p0 p1 p2
    have P1 := Hid.mk7 (P0.out.later bz)
    have G1 := Hid.mk7 (G0.out.trans (bz.mono G0.out.size))
    have b1 := Hid.mk7 hb
    have HIb : Hid (HiB (g + 1) vb) := hib.mono P0.out.lt
    clear hb hib
    clear bz P0 G0 
    have p0 := P1.out.c0
    have p1 := P1.out.c1
    have p2 := P1.out.c2
    go_wp2_with fail
    refine (put_v b1.out HE2.out HL2.out).mono ?_
    rintro e w2 ⟨vl, rfl, hl, hil, bz⟩
    clear p0 p1 p2
    have P2 := Hid.mk7 (P1.out.later bz)
    have G2 := Hid.mk7 (G1.out.trans (bz.mono G1.out.size))
    have b2 := Hid.mk7 (b1.out.later bz)
    have l2 := Hid.mk7 hl
    have HIl : Hid (HiB (g + 1) vl) := hil.mono P1.out.lt
    clear hl hil
    clear bz P1 G1 b1
    have p0 := P2.out.c0
    have p1 := P2.out.c1
    have p2 := P2.out.c2
    go_wp2_with fail
    refine (put_v l2.out HE3.out HL3.out).mono ?_
    rintro e w3 ⟨vm, rfl, hm, him, bz⟩
    clear p0 p1 p2
    have P3 := Hid.mk7 (P2.out.later bz)
    have G3 := Hid.mk7 (G2.out.trans (bz.mono G2.out.size))
    have b3 := Hid.mk7 (b2.out.later bz)
    have l3 := Hid.mk7 (l2.out.later bz)
    have m3 := Hid.mk7 hm
    have HIm : Hid (HiB (g + 1) vm) := him.mono P2.out.lt
    clear hm him
    clear bz P2 G2 b2 l2
    have p0 := P3.out.c0
    have p1 := P3.out.c1
    have p2 := P3.out.c2
    have fz := P3.out.fz
    have P4 := Hid.mk7 (P3.out.set2 (.int .i64 (ot % 100 + 1)))
    have G4 := Hid.mk7 (G3.out.setCell (p := ⟨g, 2, none⟩) HZ.out (.int .i64 (ot % 100 + 1)))
    have b4 := Hid.mk7 (b3.out.set HIb.out 2 (.int .i64 (ot % 100 + 1)))
    have l4 := Hid.mk7 (l3.out.set HIl.out 2 (.int .i64 (ot % 100 + 1)))
    have m4 := Hid.mk7 (m3.out.set HIm.out 2 (.int .i64 (ot % 100 + 1)))
    go_wp2_with fail
    refine (put_v m4.out HE4.out HL4.out).mono ?_
    rintro e w5 ⟨vn, rfl, hn, hin, bz⟩
    clear p0 p1 p2 fz
    have P5 := Hid.mk7 (P4.out.later bz)
    have G5 := Hid.mk7 (G4.out.trans (bz.mono G4.out.size))
    have b5 := Hid.mk7 (b4.out.later bz)
    have l5 := Hid.mk7 (l4.out.later bz)
    have m5 := Hid.mk7 (m4.out.later bz)
    have n5 := Hid.mk7 hn
    have HIn : Hid (HiB (g + 1) vn) := hin.mono P4.out.lt
    clear hn hin
    clear bz P4 G4 P3 G3 b4 b3 l4 l3 m4 m3
    have p0 := P5.out.c0
    have p1 := P5.out.c1
    have p2 := P5.out.c2
    have fz := P5.out.fz
    have P6 := Hid.mk7 (P5.out.set2 (.int .i64 0))
    have G6 := Hid.mk7 (G5.out.setCell (p := ⟨g, 2, none⟩) HZ.out (.int .i64 0))
    have b6 := Hid.mk7 (b5.out.set HIb.out 2 (.int .i64 0))
    have l6 := Hid.mk7 (l5.out.set HIl.out 2 (.int .i64 0))
    have m6 := Hid.mk7 (m5.out.set HIm.out 2 (.int .i64 0))
    have n6 := Hid.mk7 (n5.out.set HIn.out 2 (.int .i64 0))
    go_wp2_with fail
    refine (put_v (SpAt.nil _) HE5.out HL5.out).mono ?_
    rintro e w7 ⟨vo, rfl, ho, hio, bz⟩
    clear p0 p1 p2 fz
    have P7 := Hid.mk7 (P6.out.later bz)
    have G7 := Hid.mk7 (G6.out.trans (bz.mono G6.out.size))
    have b7 := Hid.mk7 (b6.out.later bz)
    have l7 := Hid.mk7 (l6.out.later bz)
    have m7 := Hid.mk7 (m6.out.later bz)
    have n7 := Hid.mk7 (n6.out.later bz)
    have o7 := Hid.mk7 ho
    have HIo : Hid (HiB (g + 1) vo) := hio.mono P6.out.lt
    clear ho hio
    clear bz P6 G6 P5 G5 b6 b5 l6 l5 m6 m5 n6 n5
    have p0 := P7.out.c0
    have p1 := P7.out.c1
    have p2 := P7.out.c2
    go_wp2_with fail
    refine (put_v n7.out HE6.out HL6.out).mono ?_
    rintro e w8 ⟨vp, rfl, hp, hip, bz⟩
    clear p0 p1 p2
    have P8 := Hid.mk7 (P7.out.later bz)
    have G8 := Hid.mk7 (G7.out.trans (bz.mono G7.out.size))
    have b8 := Hid.mk7 (b7.out.later bz)
    have l8 := Hid.mk7 (l7.out.later bz)
    have m8 := Hid.mk7 (m7.out.later bz)
    have n8 := Hid.mk7 (n7.out.later bz)
    have o8 := Hid.mk7 (o7.out.later bz)
    have p8 := Hid.mk7 hp
    have HIp : Hid (HiB (g + 1) vp) := hip.mono P7.out.lt
    clear hp hip
    clear bz P7 G7 b7 l7 m7 n7 o7
    obtain ⟨oa, oc, rfl⟩ := o8.out.shape
    simp only [List.length_nil] at *
    go_wp2_with fail
    refine (same_v15 l8.out m8.out (by omega)).mono ?_
    rintro e w9 ⟨rfl, bz⟩
    have P9 := Hid.mk7 (P8.out.later bz)
    have G9 := Hid.mk7 (G8.out.trans (bz.mono G8.out.size))
    have b9 := Hid.mk7 (b8.out.later bz)
    have l9 := Hid.mk7 (l8.out.later bz)
    have m9 := Hid.mk7 (m8.out.later bz)
    have n9 := Hid.mk7 (n8.out.later bz)
    have o9 := Hid.mk7 (o8.out.later bz)
    have p9 := Hid.mk7 (p8.out.later bz)
    clear bz P8 G8 b8 l8 m8 n8 o8 p8
    go_wp2_with fail
    refine (same_v15 n9.out b9.out (by simp)).mono ?_
    rintro e w10 ⟨rfl, bz⟩
    have P10 := Hid.mk7 (P9.out.later bz)
    have G10 := Hid.mk7 (G9.out.trans (bz.mono G9.out.size))
    have b10 := Hid.mk7 (b9.out.later bz)
    have l10 := Hid.mk7 (l9.out.later bz)
    have m10 := Hid.mk7 (m9.out.later bz)
    have n10 := Hid.mk7 (n9.out.later bz)
    have o10 := Hid.mk7 (o9.out.later bz)
    have p10 := Hid.mk7 (p9.out.later bz)
    clear bz P9 G9 b9 l9 m9 n9 o9 p9
    go_wp2_with fail
    refine (is_v p10.out HIY.out).mono ?_
    rintro e w11 ⟨rfl, bz⟩
    have P11 := Hid.mk7 (P10.out.later bz)
    have G11 := Hid.mk7 (G10.out.trans (bz.mono G10.out.size))
    have b11 := Hid.mk7 (b10.out.later bz)
    have l11 := Hid.mk7 (l10.out.later bz)
    have m11 := Hid.mk7 (m10.out.later bz)
    have n11 := Hid.mk7 (n10.out.later bz)
    have o11 := Hid.mk7 (o10.out.later bz)
    have p11 := Hid.mk7 (p10.out.later bz)
    clear bz P10 G10 b10 l10 m10 n10 o10 p10
    go_wp2
    go_ret
    exact ⟨rfl, G11.out⟩
  · have d1 : decide (to ≤ fr) = true := decide_eq_true (by omega)
    have d2 : decide (fr ≤ to) = false := decide_eq_false (by omega)
    have d3 : decide (to < fr) = true := decide_eq_true (by omega)
    have d4 : decide (fr < to) = false := decide_eq_false (by omega)
    have d5 : (to == fr) = false := by simp; omega
    obtain ⟨X, Y, ⟨e1, l1⟩, ⟨e2, l2⟩, ⟨e3, l3⟩, ⟨e4, l4⟩, ⟨e5, l5⟩, ⟨e6, l6⟩, iY, aY, nX, nY⟩ := againE (a := to) (b := fr) (c := (ot % 100 + 1)) (st := (st % 100 + 1)) (by omega) (by omega) (by omega) (by omega) (by omega)
    have HE1 := Hid.mk7 e1
    have HL1 := Hid.mk7 l1
    have HE2 := Hid.mk7 e2
    have HL2 := Hid.mk7 l2
    have HE3 := Hid.mk7 e3
    have HL3 := Hid.mk7 l3
    have HE4 := Hid.mk7 e4
    have HL4 := Hid.mk7 l4
    have HE5 := Hid.mk7 e5
    have HL5 := Hid.mk7 l5
    have HE6 := Hid.mk7 e6
    have HL6 := Hid.mk7 l6
    have HIY := Hid.mk7 iY
    have HAY := Hid.mk7 (aY (by omega))
    clear e1 l1 e2 l2 e3 l3 e4 l4 e5 l5 e6 l6 iY aY
    go_enter Try.func4, Try.ntmps4
    go_wp2_with fail
    refine HK.out.mono ?_
    rintro e w0 ⟨rfl, b0⟩
    have G0 := Hid.mk7 (below15 b0 (.cells #[.int .i64 to, .int .i64 fr, .int .i64 (st % 100 + 1)] 26))
    have P0 := Hid.mk7 (Rt.new 26 w0 (.int .i64 to) (.int .i64 fr) (.int .i64 (st % 100 + 1)))
    have HZ : Hid (w.heap.size ≤ w0.heap.size) := b0.size
    obtain ⟨g, hg⟩ : ∃ g, w0.heap.size = g := ⟨_, rfl⟩
    rw [hg] at P0 HZ
    have HG : Hid (g < (w0.alloc (.cells #[.int .i64 to, .int .i64 fr, .int .i64 (st % 100 + 1)] 26)).heap.size) := P0.out.lt
    clear b0
    have p0 := P0.out.c0
    have p1 := P0.out.c1
    have p2 := P0.out.c2
    go_wp2_with fail
    try rw [hg]
    refine (put_v (SpAt.nil _) HE1.out HL1.out).mono ?_
    rintro e w1 ⟨vb, rfl, hb, hib, bz⟩
    clear p0 p1 p2
    have P1 := Hid.mk7 (P0.out.later bz)
    have G1 := Hid.mk7 (G0.out.trans (bz.mono G0.out.size))
    have b1 := Hid.mk7 hb
    have HIb : Hid (HiB (g + 1) vb) := hib.mono P0.out.lt
    clear hb hib
    clear bz P0 G0 
    have p0 := P1.out.c0
    have p1 := P1.out.c1
    have p2 := P1.out.c2
    go_wp2_with fail
    refine (put_v b1.out HE2.out HL2.out).mono ?_
    rintro e w2 ⟨vl, rfl, hl, hil, bz⟩
    clear p0 p1 p2
    have P2 := Hid.mk7 (P1.out.later bz)
    have G2 := Hid.mk7 (G1.out.trans (bz.mono G1.out.size))
    have b2 := Hid.mk7 (b1.out.later bz)
    have l2 := Hid.mk7 hl
    have HIl : Hid (HiB (g + 1) vl) := hil.mono P1.out.lt
    clear hl hil
    clear bz P1 G1 b1
    have p0 := P2.out.c0
    have p1 := P2.out.c1
    have p2 := P2.out.c2
    go_wp2_with fail
    refine (put_v l2.out HE3.out HL3.out).mono ?_
    rintro e w3 ⟨vm, rfl, hm, him, bz⟩
    clear p0 p1 p2
    have P3 := Hid.mk7 (P2.out.later bz)
    have G3 := Hid.mk7 (G2.out.trans (bz.mono G2.out.size))
    have b3 := Hid.mk7 (b2.out.later bz)
    have l3 := Hid.mk7 (l2.out.later bz)
    have m3 := Hid.mk7 hm
    have HIm : Hid (HiB (g + 1) vm) := him.mono P2.out.lt
    clear hm him
    clear bz P2 G2 b2 l2
    have p0 := P3.out.c0
    have p1 := P3.out.c1
    have p2 := P3.out.c2
    have fz := P3.out.fz
    have P4 := Hid.mk7 (P3.out.set2 (.int .i64 (ot % 100 + 1)))
    have G4 := Hid.mk7 (G3.out.setCell (p := ⟨g, 2, none⟩) HZ.out (.int .i64 (ot % 100 + 1)))
    have b4 := Hid.mk7 (b3.out.set HIb.out 2 (.int .i64 (ot % 100 + 1)))
    have l4 := Hid.mk7 (l3.out.set HIl.out 2 (.int .i64 (ot % 100 + 1)))
    have m4 := Hid.mk7 (m3.out.set HIm.out 2 (.int .i64 (ot % 100 + 1)))
    go_wp2_with fail
    refine (put_v m4.out HE4.out HL4.out).mono ?_
    rintro e w5 ⟨vn, rfl, hn, hin, bz⟩
    clear p0 p1 p2 fz
    have P5 := Hid.mk7 (P4.out.later bz)
    have G5 := Hid.mk7 (G4.out.trans (bz.mono G4.out.size))
    have b5 := Hid.mk7 (b4.out.later bz)
    have l5 := Hid.mk7 (l4.out.later bz)
    have m5 := Hid.mk7 (m4.out.later bz)
    have n5 := Hid.mk7 hn
    have HIn : Hid (HiB (g + 1) vn) := hin.mono P4.out.lt
    clear hn hin
    clear bz P4 G4 P3 G3 b4 b3 l4 l3 m4 m3
    have p0 := P5.out.c0
    have p1 := P5.out.c1
    have p2 := P5.out.c2
    have fz := P5.out.fz
    have P6 := Hid.mk7 (P5.out.set2 (.int .i64 0))
    have G6 := Hid.mk7 (G5.out.setCell (p := ⟨g, 2, none⟩) HZ.out (.int .i64 0))
    have b6 := Hid.mk7 (b5.out.set HIb.out 2 (.int .i64 0))
    have l6 := Hid.mk7 (l5.out.set HIl.out 2 (.int .i64 0))
    have m6 := Hid.mk7 (m5.out.set HIm.out 2 (.int .i64 0))
    have n6 := Hid.mk7 (n5.out.set HIn.out 2 (.int .i64 0))
    go_wp2_with fail
    refine (put_v (SpAt.nil _) HE5.out HL5.out).mono ?_
    rintro e w7 ⟨vo, rfl, ho, hio, bz⟩
    clear p0 p1 p2 fz
    have P7 := Hid.mk7 (P6.out.later bz)
    have G7 := Hid.mk7 (G6.out.trans (bz.mono G6.out.size))
    have b7 := Hid.mk7 (b6.out.later bz)
    have l7 := Hid.mk7 (l6.out.later bz)
    have m7 := Hid.mk7 (m6.out.later bz)
    have n7 := Hid.mk7 (n6.out.later bz)
    have o7 := Hid.mk7 ho
    have HIo : Hid (HiB (g + 1) vo) := hio.mono P6.out.lt
    clear ho hio
    clear bz P6 G6 P5 G5 b6 b5 l6 l5 m6 m5 n6 n5
    have p0 := P7.out.c0
    have p1 := P7.out.c1
    have p2 := P7.out.c2
    go_wp2_with fail
    refine (put_v n7.out HE6.out HL6.out).mono ?_
    rintro e w8 ⟨vp, rfl, hp, hip, bz⟩
    clear p0 p1 p2
    have P8 := Hid.mk7 (P7.out.later bz)
    have G8 := Hid.mk7 (G7.out.trans (bz.mono G7.out.size))
    have b8 := Hid.mk7 (b7.out.later bz)
    have l8 := Hid.mk7 (l7.out.later bz)
    have m8 := Hid.mk7 (m7.out.later bz)
    have n8 := Hid.mk7 (n7.out.later bz)
    have o8 := Hid.mk7 (o7.out.later bz)
    have p8 := Hid.mk7 hp
    have HIp : Hid (HiB (g + 1) vp) := hip.mono P7.out.lt
    clear hp hip
    clear bz P7 G7 b7 l7 m7 n7 o7
    obtain ⟨oa, oc, rfl⟩ := o8.out.shape
    simp only [List.length_nil] at *
    have p0 := P8.out.c0
    have p1 := P8.out.c1
    have p2 := P8.out.c2
    go_wp2_with fail
    refine (at_v p8.out (by omega) HAY.out).mono ?_
    rintro e w9 ⟨rfl, bz⟩
    clear p0 p1 p2
    have P9 := Hid.mk7 (P8.out.later bz)
    have G9 := Hid.mk7 (G8.out.trans (bz.mono G8.out.size))
    have b9 := Hid.mk7 (b8.out.later bz)
    have l9 := Hid.mk7 (l8.out.later bz)
    have m9 := Hid.mk7 (m8.out.later bz)
    have n9 := Hid.mk7 (n8.out.later bz)
    have o9 := Hid.mk7 (o8.out.later bz)
    have p9 := Hid.mk7 (p8.out.later bz)
    clear bz P8 G8 b8 l8 m8 n8 o8 p8
    go_wp2_with fail
    refine (same_v15 l9.out m9.out (by omega)).mono ?_
    rintro e w10 ⟨rfl, bz⟩
    have P10 := Hid.mk7 (P9.out.later bz)
    have G10 := Hid.mk7 (G9.out.trans (bz.mono G9.out.size))
    have b10 := Hid.mk7 (b9.out.later bz)
    have l10 := Hid.mk7 (l9.out.later bz)
    have m10 := Hid.mk7 (m9.out.later bz)
    have n10 := Hid.mk7 (n9.out.later bz)
    have o10 := Hid.mk7 (o9.out.later bz)
    have p10 := Hid.mk7 (p9.out.later bz)
    clear bz P9 G9 b9 l9 m9 n9 o9 p9
    go_wp2_with fail
    refine (same_v15 n10.out b10.out (by simp)).mono ?_
    rintro e w11 ⟨rfl, bz⟩
    have P11 := Hid.mk7 (P10.out.later bz)
    have G11 := Hid.mk7 (G10.out.trans (bz.mono G10.out.size))
    have b11 := Hid.mk7 (b10.out.later bz)
    have l11 := Hid.mk7 (l10.out.later bz)
    have m11 := Hid.mk7 (m10.out.later bz)
    have n11 := Hid.mk7 (n10.out.later bz)
    have o11 := Hid.mk7 (o10.out.later bz)
    have p11 := Hid.mk7 (p10.out.later bz)
    clear bz P10 G10 b10 l10 m10 n10 o10 p10
    go_wp2_with fail
    refine (is_v p11.out HIY.out).mono ?_
    rintro e w12 ⟨rfl, bz⟩
    have P12 := Hid.mk7 (P11.out.later bz)
    have G12 := Hid.mk7 (G11.out.trans (bz.mono G11.out.size))
    have b12 := Hid.mk7 (b11.out.later bz)
    have l12 := Hid.mk7 (l11.out.later bz)
    have m12 := Hid.mk7 (m11.out.later bz)
    have n12 := Hid.mk7 (n11.out.later bz)
    have o12 := Hid.mk7 (o11.out.later bz)
    have p12 := Hid.mk7 (p11.out.later bz)
    clear bz P11 G11 b11 l11 m11 n11 o11 p11
    go_wp2
    go_ret
    exact ⟨rfl, G12.out⟩
end Go.Proofs.Ytmgjfmgkmlfjeaa
