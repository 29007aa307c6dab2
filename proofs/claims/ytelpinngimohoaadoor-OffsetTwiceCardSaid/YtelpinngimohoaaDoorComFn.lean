/- compose's size, isText, part, behind. -/
import Derived.Test.YtelpinngimohoaaDoorComMem
import Derived.Test.YtelpinngimohoaaDoorCopyStr
namespace Go.Proofs.YtelpinngimohoaaDoor
open Go.RowKit Go.Sort
set_option linter.unusedSimpArgs false
set_option linter.unusedVariables false

set_option maxHeartbeats 400000 in
set_option maxRecDepth 100000 in
theorem csize_any (f t : Int) (T : List UInt8) (h : Bx (f, t, T)) (w : World) : Calls Tryd.prog 45 #[.agg #[.int .i64 f, .int .i64 t, .string (cacc T)]] w fun e w' => e = .returned (.int .i64 (elz (f, t, T))) ∧ Below w.heap.size w w' := by
  obtain ⟨h1, h2, h3, h4⟩ := h
  simp only at h1 h2 h3 h4
  have b1 := below_newE (Below.refl w.heap.size w) (.cells #[.int .i64 f, .int .i64 t, .string (cacc T)] 51)
  have hs : (cacc T).size = T.length := cacc_size T
  unfold elz
  simp only
  rw [← hs] at h4 ⊢
  clear hs
  generalize cacc T = s at *
  go_enter Tryd.func45, Tryd.ntmps45
  go_wp2
  go_ret
  exact ⟨rfl, b1⟩
set_option maxHeartbeats 400000 in
set_option maxRecDepth 100000 in
theorem cisText_any (f t : Int) (s : ByteArray) (w : World) : Calls Tryd.prog 44 #[.agg #[.int .i64 f, .int .i64 t, .string s]] w fun e w' => e = .returned (.bool (decide (s.size ≠ 0))) ∧ Below w.heap.size w w' := by
  have b1 := below_newE (Below.refl w.heap.size w) (.cells #[.int .i64 f, .int .i64 t, .string s] 51)
  by_cases h2 : s.size = 0
  · have hd : decide (s.size ≠ 0) = false := by simpa using h2
    rw [hd]
    obtain rfl := eq_of_size h2
    clear h2 hd
    go_enter Tryd.func44, Tryd.ntmps44
    go_wp2
    go_ret
    exact ⟨rfl, b1⟩
  · have hd : decide (s.size ≠ 0) = true := by simpa using h2
    rw [hd]
    obtain ⟨h3, h4⟩ := size_of_ne h2
    clear h2 hd
    go_enter Tryd.func44, Tryd.ntmps44
    go_wp2
    go_ret
    exact ⟨rfl, b1⟩
theorem cisText_v (f t : Int) {T : List UInt8} {x : Bool} (hx : decide (T ≠ []) = x) (w : World) : Calls Tryd.prog 44 #[.agg #[.int .i64 f, .int .i64 t, .string (cacc T)]] w fun e w' => e = .returned (.bool x) ∧ Below w.heap.size w w' := by
  subst hx
  have := cisText_any f t (cacc T) w
  rw [cacc_size] at this
  rw [show decide (T ≠ []) = decide (T.length ≠ 0) from by simp]
  exact this
theorem ext_cacc (T : List UInt8) (a b : Nat) : (cacc T).extract a b = cacc ((T.drop a).take (b - a)) := by
  have := bytes_ext (cacc T) a b
  rw [cacc_toList] at this
  rw [← this, cacc_bytes]
set_option maxHeartbeats 1000000 in
set_option maxRecDepth 100000 in
theorem cpart_any {f t a b : Int} {T : List UInt8} (hg : Gd1 (f, t, T)) (hb : Bx (f, t, T)) (h0 : 0 ≤ a) (h1 : a < b) (h2 : b ≤ elz (f, t, T)) (w : World) :
    Calls Tryd.prog 47 #[.agg #[.int .i64 f, .int .i64 t, .string (cacc T)], .int .i64 a, .int .i64 b] w fun e w' => e = .returned (elv (prt (f, t, T) a b)) ∧ Below w.heap.size w w' := by
  obtain ⟨b1, b2, b3, b4⟩ := hb
  simp only at b1 b2 b3 b4
  have HB := Hid.mk7 (below_newE (below_newE (Below.refl w.heap.size w) (.cells #[.int .i64 f, .int .i64 t, .string (cacc T)] 51)) (.cells #[.int .i64 0, .int .i64 0, .string ⟨#[]⟩] 51))
  have HR := Hid.mk7 ((Re.new w (.int .i64 f) (.int .i64 t) (.string (cacc T))).alloc (.cells #[.int .i64 0, .int .i64 0, .string ⟨#[]⟩] 51))
  have HRR : Hid (Re ((w.alloc (.cells #[.int .i64 f, .int .i64 t, .string (cacc T)] 51)).alloc (.cells #[.int .i64 0, .int .i64 0, .string ⟨#[]⟩] 51)) (w.heap.size + 1) (.int .i64 0) (.int .i64 0) (.string ⟨#[]⟩)) := Re.new' (by simp) _ _ _
  have hs : (cacc T).size = T.length := cacc_size T
  by_cases hT : T = []
  · subst hT
    have HIT := Hid.mk7 (fun W => cisText_v f t (T := []) (x := false) (by simp) W)
    have he : prt (f, t, []) a b = (f + a, f + b, []) := by simp [prt]
    have hz : elz (f, t, []) = t - f := by simp [elz]
    rw [hz] at h2
    rw [he]
    have HN : Hid (cacc [] = ⟨#[]⟩) := rfl
    have HC0 := Hid.mk7 (rfl : cacc ([] : List UInt8) = cacc [])
    clear he hz hs hg b4
    generalize hs0 : cacc ([] : List UInt8) = s at *
    have r0 := HR.out.c0
    have r1 := HR.out.c1
    have r2 := HR.out.c2
    go_enter Tryd.func47, Tryd.ntmps47
    go_upto_region 1 with fail
    generalize hz1 : w.heap.size = z1 at *
    generalize (w.alloc (.cells #[.int .i64 f, .int .i64 t, .string s] 51)).alloc (.cells #[.int .i64 0, .int .i64 0, .string ⟨#[]⟩] 51) = W at *
    go_wp2_with fail
    refine (HIT.out W).mono ?_
    rintro e w1 ⟨rfl, bz⟩
    have R1 := Hid.mk7 (HR.out.later bz)
    have RR1 := Hid.mk7 (HRR.out.later bz)
    have B1 := Hid.mk7 (HB.out.trans (bz.mono (by rw [← hz1]; exact HB.out.size)))
    clear HR HRR HB bz r0 r1 r2 HIT
    have r0 := R1.out.c0
    have r1 := R1.out.c1
    have r2 := R1.out.c2
    have q0 := RR1.out.c0
    have q1 := RR1.out.c1
    have q2 := RR1.out.c2
    have fz := RR1.out.fz
    have hlt := RR1.out.lt
    go_wp2
    refine bodyPost_ret (results_el rfl _ _ (z1 + 1) _ _ _ rfl (RR1.out.set3 _ _ _)) rfl ⟨?_, by rw [hz1]; exact below_set3 B1.out (Nat.le_succ _) _ _ _⟩
    rfl
  · have HIT := Hid.mk7 (fun W => cisText_v f t (T := T) (x := true) (by simpa using hT) W)
    have HE : Hid (prt (f, t, T) a b = (0, 0, (T.drop a.toNat).take (b.toNat - a.toNat))) := by show _ = _; simp [prt, hT]
    have hft : f = 0 ∧ t = 0 := by
      rcases hg with ⟨g1, _⟩ | ⟨_, g2, g3⟩
      · exact absurd g1 hT
      · exact ⟨g2, g3⟩
    obtain ⟨rfl, rfl⟩ := hft
    have hz : elz (0, 0, T) = (T.length : Nat) := by simp [elz]
    rw [hz, ← hs] at h2
    rw [← hs] at b4
    have HX := Hid.mk7 (fun a b => ext_cacc T a b)
    clear hz hs hg hT
    generalize hs0 : cacc T = s at *
    clear hs0
    have r0 := HR.out.c0
    have r1 := HR.out.c1
    have r2 := HR.out.c2
    obtain ⟨an, rfl⟩ : ∃ n : Nat, a = (n : Int) := ⟨a.toNat, by omega⟩
    obtain ⟨bn, rfl⟩ : ∃ n : Nat, b = (n : Int) := ⟨b.toNat, by omega⟩
    have h1' : an ≤ bn := by omega
    have h2' : bn ≤ s.size := by omega
    go_enter Tryd.func47, Tryd.ntmps47
    go_upto_region 1 with fail
    generalize hz1 : w.heap.size = z1 at *
    generalize (w.alloc (.cells #[.int .i64 0, .int .i64 0, .string s] 51)).alloc (.cells #[.int .i64 0, .int .i64 0, .string ⟨#[]⟩] 51) = W at *
    go_wp2_with fail
    refine (HIT.out W).mono ?_
    rintro e w1 ⟨rfl, bz⟩
    have R1 := Hid.mk7 (HR.out.later bz)
    have RR1 := Hid.mk7 (HRR.out.later bz)
    have B1 := Hid.mk7 (HB.out.trans (bz.mono (by rw [← hz1]; exact HB.out.size)))
    clear HR HRR HB bz r0 r1 r2 HIT
    have r0 := R1.out.c0
    have r1 := R1.out.c1
    have r2 := R1.out.c2
    have q0 := RR1.out.c0
    have q1 := RR1.out.c1
    have q2 := RR1.out.c2
    have fz := RR1.out.fz
    have hlt := RR1.out.lt
    go_wp2
    refine bodyPost_ret (results_el rfl _ _ (z1 + 1) _ _ _ rfl (RR1.out.set3 _ _ _)) rfl ⟨?_, by rw [hz1]; exact below_set3 B1.out (Nat.le_succ _) _ _ _⟩
    rw [HE.out]
    simp only [HX.out, Int.toNat_natCast]
set_option maxHeartbeats 1600000 in
set_option maxRecDepth 100000 in
theorem cbehind_any {w : World} {B g : Nat} {v : Value} {es : List El} {f t n : Int} {T : List UInt8} (h : Xk w B g v ((f, t, T) :: es)) (hg : Gd1 (f, t, T)) (hb : Bx (f, t, T)) (hn : 1 ≤ n) (hn2 : n ≤ elz (f, t, T)) (hl : es.length ≤ 1073741824) :
    Calls Tryd.prog 46 #[v, .int .i64 n] w fun e w' => ∃ v', e = .returned v' ∧ Xk w' B g v' (beh (f, t, T) n es) ∧ w.grownBy w' (some g) := by
  have hbs := bx_elz hb
  obtain ⟨R, k, cap, a, h1, h2, h3, h4, rfl, h6⟩ := h
  obtain rfl := h6 (by simp)
  have hk : R[k]? = some (f, t, T) := by
    have := congrArg (fun l => l[0]?) h4
    simpa using this
  have hkl : k < R.length := (List.getElem?_eq_some_iff.1 hk).1
  have hlen : R.length = k + es.length + 1 := by
    have := congrArg List.length h4
    simp at this
    omega
  have c0 : w.cell? ⟨g, k * 3, none⟩ = some (.int .i64 f) := by
    rw [World.ownsRow.cellAt h1 _ (by omega)]; exact (c3_get hk).1
  have c1 : w.cell? ⟨g, k * 3 + 1, none⟩ = some (.int .i64 t) := by
    rw [World.ownsRow.cellAt h1 _ (by omega)]; exact (c3_get hk).2.1
  have c2 : w.cell? ⟨g, k * 3 + 2, none⟩ = some (.string (cacc T)) := by
    rw [World.ownsRow.cellAt h1 _ (by omega)]; exact (c3_get hk).2.2
  have hcl : es.length + 1 ≤ cap - k := by omega
  have hck : cap - k - 1 = cap - (k + 1) := by omega
  have HO : Hid (OwnE w B (.slice (some ⟨g, 0, none⟩) R.length cap) R) := h1
  have HK := Hid.mk7 hk
  have H4 := Hid.mk7 h4
  have HSZ := Hid.mk7 (fun W => csize_any f t T hb W)
  have HG := Hid.mk7 hg
  have HBX := Hid.mk7 hb
  have HN2 := Hid.mk7 hn2
  have HLN := Hid.mk7 hlen
  clear h1 hk h4 h6 hg hb hlen hkl
  obtain ⟨z, hz⟩ : ∃ z, elz (f, t, T) = z := ⟨_, rfl⟩
  have HZ := Hid.mk7 hz
  rw [hz] at HSZ hn2 hbs
  clear hz
  rw [List.length_cons]
  obtain ⟨N, hN⟩ : ∃ N, N = es.length + 1 := ⟨_, rfl⟩
  have HN := Hid.mk7 hN
  rw [← hN] at hcl ⊢
  have hp : 0 < N := by omega
  have hp2 : N ≤ 1073741825 := by omega
  clear hN
  by_cases he : n = z
  · subst he
    unfold beh
    rw [if_pos HZ.out.symm]
    have H5 := Hid.mk7 (drop_succ7 _ k _ es H4.out)
    go_enter Tryd.func46, Tryd.ntmps46
    go_wp2_with fail
    refine (HSZ.out w).mono ?_
    rintro e w1 ⟨rfl, bz⟩
    have HO1 := Hid.mk7 (HO.out.later bz)
    have GR1 := Hid.mk7 (grown_below bz (some g))
    clear bz c0 c1 c2
    go_wp2
    · go_ret
      have hN := HN.out
      have hL := HLN.out
      refine ⟨_, rfl, xk_mk (k := k + 1) HO1.out (by omega) (by omega) H5.out (by omega) ?_, GR1.out⟩
      intro hne
      cases es with
      | nil => exact absurd rfl hne
      | cons r es => simp only [List.length_cons] at hN; omega
    · go_ret
      have hN := HN.out
      have hL := HLN.out
      refine ⟨_, rfl, xk_mk (k := k + 1) HO1.out (by omega) (by omega) H5.out (by omega) ?_, GR1.out⟩
      intro _
      rw [show (k + 1) * 3 = k * 3 + 3 from by omega]
  · have HNE := Hid.mk7 he
    have d2 : (n == z) = false := by simpa using he
    have d3 : decide (n = z) = false := decide_eq_false he
    have hnz : n < z := by omega
    have HPT := Hid.mk7 (fun W => cpart_any HG.out HBX.out (a := n) (b := z) (by omega) (by omega) (by rw [HZ.out]; exact Int.le_refl _) W)
    clear he
    go_enter Tryd.func46, Tryd.ntmps46
    go_wp2_with fail
    refine (HSZ.out w).mono ?_
    rintro e w1 ⟨rfl, bz⟩
    have HO1 := Hid.mk7 (HO.out.later bz)
    have GR1 := Hid.mk7 (grown_below bz (some g))
    have c0' := cell_later7 bz (Nat.le_refl _) c0
    have c1' := cell_later7 bz (Nat.le_refl _) c1
    have c2' := cell_later7 bz (Nat.le_refl _) c2
    clear bz c0 c1 c2 HO HSZ
    go_wp2_with fail
    refine (HPT.out w1).mono ?_
    rintro e w2 ⟨rfl, bz⟩
    have HO2 := Hid.mk7 (HO1.out.later bz)
    have GR2 := Hid.mk7 (grown_trans GR1.out (grown_below bz (some g)))
    have c0 := cell_later7 bz (Nat.le_refl _) c0'
    have c1 := cell_later7 bz (Nat.le_refl _) c1'
    have c2 := cell_later7 bz (Nat.le_refl _) c2'
    have fz := fun j => World.ownsRow.frozenAt HO2.out j
    clear bz c0' c1' c2' HO1 HPT GR1
    obtain ⟨⟨pf, pt, pT⟩, hP⟩ : ∃ p, prt (f, t, T) n z = p := ⟨_, rfl⟩
    have HP := Hid.mk7 hP
    rw [hP]
    have HS := Hid.mk7 (HO2.out.set3 (e := (pf, pt, pT)) HK.out)
    clear hP
    go_wp2
    go_ret
    have hN := HN.out
    have hL := HLN.out
    have hb : beh (f, t, T) n es = (pf, pt, pT) :: es := by
      unfold beh
      rw [HZ.out, if_neg HNE.out, HP.out]
    rw [hb]
    refine ⟨_, rfl, xk_mk (k := k) HS.out.1 (by rw [List.length_set]; omega) (by rw [List.length_set]; omega) (drop_set7 R k _ _ es H4.out) (by simp; omega) (fun _ => rfl), grown_trans GR2.out HS.out.2⟩
end Go.Proofs.YtelpinngimohoaaDoor
