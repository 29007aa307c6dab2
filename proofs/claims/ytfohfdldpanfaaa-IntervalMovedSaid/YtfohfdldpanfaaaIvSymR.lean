/- slices.symMergeCmpFunc. -/
import Derived.Test.YtfohfdldpanfaaaIvRot
namespace Go.Proofs.Ytfohfdldpanfaaa
open Go.Shelf Go.RowKit Go.Lib Go.Sort
set_option linter.unusedSimpArgs false
set_option linter.unusedVariables false

set_option maxHeartbeats 4000000 in
set_option maxRecDepth 1000000 in
theorem sym_right (g : Nat) (cb : Array Value) (cf : Int × Int → Int × Int → Int) (blk off cap : Nat) (d0 : Array (Int × Int)) (w0 : World)
    (eg : ∀ args w, (callFunc g args).run Try.prog w = .ok (.enter g args) w) (hcmp : CmpLays Try.prog g cb encI 2 cf blk off d0.size w0) (R : RowK encI 2 w0 blk off d0) (hO : SWO (ltOf cf))
    (a m b : Nat) (d : Array (Int × Int)) (w : World) (hs : d0.size = d.size) (S : SWK encI 2 w0 blk off d w) (ham : a + 1 < m) (hm : b = m + 1) (hb : b ≤ d.size) (hsz : d.size < 4611686018427387904) (hr : SortedIn (ltOf cf) a m d) :
    Calls Try.prog 27 #[.slice (some ⟨blk, off, none⟩) d.size cap, .int .i64 a, .int .i64 m, .int .i64 b, .func (.func g) #[] cb] w fun e w' => e = .returned (.tuple #[]) ∧ ∃ d', PermIn a b d d' ∧ SortedIn (ltOf cf) a b d' ∧ SWK encI 2 w0 blk off d' w' := by
  have S0 : Aside (SWK encI 2 w0 blk off d w) := S
  have HC : Aside _ := hcmp
  have HR : Hid (SortedIn (ltOf cf) a m d) := hr
  have hm0 : (((m : Int) - (a : Int)) == 1) = false := by rw [beq_eq_false_iff_ne]; omega
  have hm1 : (((b : Int) - (m : Int)) == 1) = true := by rw [beq_iff_eq]; omega
  have hma : m + 1 ≤ b := by omega
  have hmb2 : b ≤ m + 1 := by omega
  have HM : Hid (b = m + 1) := hm
  clear S hcmp hr hm
  go_enter Try.func27, Try.ntmps27
  go_wp2
  go_loopg [14, 15] (m - a) (fun kx s10 s11 wr => ∃ (i j : Nat), s10 = .int .i64 i ∧ s11 = .int .i64 j ∧ a ≤ i ∧ i ≤ j ∧ j ≤ m ∧ j - i ≤ kx ∧ Hid (i = a ∨ ltOf cf d[m]! d[i - 1]! = false) ∧ Hid (j = m ∨ ltOf cf d[m]! d[j]! = true) ∧ Aside (SWK encI 2 w0 blk off d wr))
  case atStart => exact ⟨a, m, rfl, rfl, Nat.le_refl _, by omega, Nat.le_refl _, Nat.le_refl _, Or.inl rfl, Or.inl rfl, S0⟩
  case round =>
    clear S0
    obtain ⟨i, j, rfl, rfl, hmi, hij, hjb, hkx, H1, H2, S1⟩ := hrel
    by_cases hlt : i < j
    · have hltz : (i : Int) < (j : Int) := by omega
      obtain ⟨h, hh1, hh2⟩ : ∃ h : Nat, 2 * h ≤ i + j ∧ i + j < 2 * h + 2 := ⟨(i + j) / 2, by omega, by omega⟩
      cases hL0 : ltOf cf d[m]! d[h]! with
      | false =>
        go_wp2_with fail
        have ea1 : ((m : Int)).toNat = m := by omega
        have pa1 : (0 : Int) ≤ (m : Int) := by omega
        have ba1 : (m : Int) < (d.size : Int) := by omega
        have ra1 : IntKind.i64.wrap ((m : Int)) = (m : Int) := by rw [IntKind.wrap_i64]; omega
        have ec1 : (((i : Int) + (j : Int)) / 2).toNat = h := by omega
        have pc1 : (0 : Int) ≤ ((i : Int) + (j : Int)) / 2 := by omega
        have bc1 : ((i : Int) + (j : Int)) / 2 < (d.size : Int) := by omega
        have rc1 : IntKind.i64.wrap (((i : Int) + (j : Int)) / 2) = ((i : Int) + (j : Int)) / 2 := by rw [IntKind.wrap_i64]; omega
        obtain ⟨x, hx⟩ : ∃ x, x = (d)[m]! := ⟨_, rfl⟩
        obtain ⟨y, hy⟩ : ∃ x, x = (d)[h]! := ⟨_, rfl⟩
        have hL : ltOf cf x y = false := by rw [hx, hy]; exact hL0
        have hv : ¬ cf x y < 0 := of_decide_eq_false hL
        have hd : decide (cf x y < 0) = false := decide_eq_false hv
        have c1 := sw_l0 S1.out R (by omega) m (by omega)
        have c2 := sw_l1 S1.out R (by omega) m (by omega)
        have c3 := sw_l0 S1.out R (by omega) h (by omega)
        have c4 := sw_l1 S1.out R (by omega) h (by omega)
        rw [← hx] at c1 c2
        rw [← hy] at c3 c4
        have hc : ∀ n os, Calls Try.prog g (#[.agg #[.int .i64 x.1, .int .i64 x.2], .agg #[.int .i64 y.1, .int .i64 y.2]] ++ cb) (grow (wr.drewN n) os) fun e w' => e = .returned (.int .i64 (cf x y)) ∧ ∃ h os', w' = grow ((grow (wr.drewN n) os).drewN h) os' := fun n os => S1.out.cmp HC.out (by omega) x y n os
        have mixed : Try.prog.follows Departure.mixedOrders = true := by kernel_rfl
        clear hx hy hL
        go_wp2_with fail
        refine wp_region_quiet_grown mixed (by kernel_rfl) ?_
        repeat (go_big_quiet_step (first | (go_at_fn g; refine Calls.grown_of (hc _ _))))
        refine wpQuiet_nil ?_
        intro _ hw'
        obtain ⟨⟨nq, osq⟩, hw''⟩ := hw'
        subst hw''
        have S2 : Aside (SWK encI 2 w0 blk off (d) (grow (wr.drewN nq) osq)) := S1.out.grown nq osq
        clear c1 c2 c3 c4 hc S1 hv hd
        generalize grow (wr.drewN nq) osq = w2 at S2 ⊢
        clear nq osq ea1 pa1 ba1 ra1 ec1 pc1 bc1 rc1 mixed
        go_wp2
        go_roundg (j - (h + 1))
        case measure => omega
        case rel => exact ⟨h + 1, j, by (congr 1; omega), rfl, by omega, by omega, hjb, Nat.le_refl _, Or.inr (by simpa using hL0), H2, S2⟩
      | true =>
        go_wp2_with fail
        have ea1 : ((m : Int)).toNat = m := by omega
        have pa1 : (0 : Int) ≤ (m : Int) := by omega
        have ba1 : (m : Int) < (d.size : Int) := by omega
        have ra1 : IntKind.i64.wrap ((m : Int)) = (m : Int) := by rw [IntKind.wrap_i64]; omega
        have ec1 : (((i : Int) + (j : Int)) / 2).toNat = h := by omega
        have pc1 : (0 : Int) ≤ ((i : Int) + (j : Int)) / 2 := by omega
        have bc1 : ((i : Int) + (j : Int)) / 2 < (d.size : Int) := by omega
        have rc1 : IntKind.i64.wrap (((i : Int) + (j : Int)) / 2) = ((i : Int) + (j : Int)) / 2 := by rw [IntKind.wrap_i64]; omega
        obtain ⟨x, hx⟩ : ∃ x, x = (d)[m]! := ⟨_, rfl⟩
        obtain ⟨y, hy⟩ : ∃ x, x = (d)[h]! := ⟨_, rfl⟩
        have hL : ltOf cf x y = true := by rw [hx, hy]; exact hL0
        have hv : cf x y < 0 := of_decide_eq_true hL
        have hd : decide (cf x y < 0) = true := decide_eq_true hv
        have c1 := sw_l0 S1.out R (by omega) m (by omega)
        have c2 := sw_l1 S1.out R (by omega) m (by omega)
        have c3 := sw_l0 S1.out R (by omega) h (by omega)
        have c4 := sw_l1 S1.out R (by omega) h (by omega)
        rw [← hx] at c1 c2
        rw [← hy] at c3 c4
        have hc : ∀ n os, Calls Try.prog g (#[.agg #[.int .i64 x.1, .int .i64 x.2], .agg #[.int .i64 y.1, .int .i64 y.2]] ++ cb) (grow (wr.drewN n) os) fun e w' => e = .returned (.int .i64 (cf x y)) ∧ ∃ h os', w' = grow ((grow (wr.drewN n) os).drewN h) os' := fun n os => S1.out.cmp HC.out (by omega) x y n os
        have mixed : Try.prog.follows Departure.mixedOrders = true := by kernel_rfl
        clear hx hy hL
        go_wp2_with fail
        refine wp_region_quiet_grown mixed (by kernel_rfl) ?_
        repeat (go_big_quiet_step (first | (go_at_fn g; refine Calls.grown_of (hc _ _))))
        refine wpQuiet_nil ?_
        intro _ hw'
        obtain ⟨⟨nq, osq⟩, hw''⟩ := hw'
        subst hw''
        have S2 : Aside (SWK encI 2 w0 blk off (d) (grow (wr.drewN nq) osq)) := S1.out.grown nq osq
        clear c1 c2 c3 c4 hc S1 hv hd
        generalize grow (wr.drewN nq) osq = w2 at S2 ⊢
        clear nq osq ea1 pa1 ba1 ra1 ec1 pc1 bc1 rc1 mixed
        go_wp2
        go_roundg (h - i)
        case measure => omega
        case rel => exact ⟨i, h, rfl, by (congr 1; omega), hmi, by omega, by omega, Nat.le_refl _, H1, Or.inr hL0, S2⟩
    · have hltz : ¬ (i : Int) < (j : Int) := by omega
      obtain rfl : i = j := by omega
      obtain ⟨n, hn1, hn2⟩ : ∃ n, i + n ≤ m ∧ m ≤ i + n := ⟨m - i, by omega, by omega⟩
      have HE : Hid (SortedIn (ltOf cf) a b (shr d m n)) := by rw [HM.out]; exact ins_right hO (by omega) HR.out hmi hjb H1.out H2.out n (by omega)
      have HP : Hid (PermIn a b d (shr d m n)) := by rw [HM.out]; exact shr_perm (by omega) n (by omega)
      clear H1 H2
      go_wp2
      go_loopg [17] n (fun kx s17 wr => ∃ (u t : Nat), s17 = .int .i64 u ∧ i ≤ u ∧ Hid (u + t = m) ∧ u ≤ m ∧ t ≤ n ∧ u - i ≤ kx ∧ Aside (SWK encI 2 w0 blk off (shr d m t) wr))
      case atStart => exact ⟨m, 0, rfl, hjb, by show _ = _; omega, Nat.le_refl _, Nat.zero_le _, by omega, S1⟩
      case round =>
        clear S1
        obtain ⟨u, t, rfl, hiu, HU, hum, htn, hkt, S1⟩ := hrel
        have hds := size_shr d m t
        by_cases hlt2 : i < u
        · obtain ⟨v, rfl⟩ : ∃ v, u = v + 1 := ⟨u - 1, by omega⟩
          have hlz : decide ((v : Int) + 1 > (i : Int)) = true := decide_eq_true (by omega)
          have hlz2 : (i : Int) < (v : Int) + 1 := by omega
          go_wp2_with fail
          have ea2 : ((v : Int) + 1).toNat = v + 1 := by omega
          have pa2 : (0 : Int) ≤ (v : Int) + 1 := by omega
          have ba2 : (v : Int) + 1 < (d.size : Int) := by omega
          have ra2 : IntKind.i64.wrap ((v : Int) + 1) = (v : Int) + 1 := by rw [IntKind.wrap_i64]; omega
          have ec2 : ((v : Int)).toNat = v := by omega
          have pc2 : (0 : Int) ≤ (v : Int) := by omega
          have bc2 : (v : Int) < (d.size : Int) := by omega
          have rc2 : IntKind.i64.wrap ((v : Int)) = (v : Int) := by rw [IntKind.wrap_i64]; omega
          obtain ⟨p, hp⟩ : ∃ p, p = v + 1 := ⟨_, rfl⟩
          rw [← hp] at ea2
          obtain ⟨x, hx⟩ : ∃ x, x = (shr d m t)[p]! := ⟨_, rfl⟩
          obtain ⟨y, hy⟩ : ∃ x, x = (shr d m t)[v]! := ⟨_, rfl⟩
          have S2 := sw_exch S1.out R p v (by omega) (by omega)
          have hne : p ≠ v := by omega
          have c1 := sw_c0 S1.out R (by omega) p (by omega)
          have c2 := sw_c1 S1.out R (by omega) p (by omega)
          have c3 := sw_c0 S1.out R (by omega) v (by omega)
          have c4 := sw_c1 S1.out R (by omega) v (by omega)
          have f1 := sw_f0 S1.out R (by omega) p (by omega)
          have f2 := sw_f1 S1.out R (by omega) p (by omega)
          have f3 := sw_f0 S1.out R (by omega) v (by omega)
          have f4 := sw_f1 S1.out R (by omega) v (by omega)
          rw [← hx, ← hy] at S2
          rw [← hx] at c1 c2
          rw [← hy] at c3 c4
          have g2 := other_cell (.int .i64 y.1) (show off + p * 2 ≠ off + p * 2 + 1 by omega) c2
          have g3 := other_cell (.int .i64 y.2) (show off + p * 2 + 1 ≠ off + v * 2 by omega) (other_cell (.int .i64 y.1) (show off + p * 2 ≠ off + v * 2 by omega) c3)
          have g4 := other_cell (.int .i64 x.1) (show off + v * 2 ≠ off + v * 2 + 1 by omega) (other_cell (.int .i64 y.2) (show off + p * 2 + 1 ≠ off + v * 2 + 1 by omega) (other_cell (.int .i64 y.1) (show off + p * 2 ≠ off + v * 2 + 1 by omega) c4))
          have HS : Hid (swp (shr d m t) p v = shr d m (t + 1)) := by rw [hp]; show _ = swp (shr d m t) (m - t) (m - t - 1); rw [show m - t = v + 1 from by have := HU.out; omega]; rfl
          rw [HS.out] at S2
          have S3 : Aside _ := S2
          clear S1 S2 hx hy hp hne
          have mixed : Try.prog.follows Departure.mixedOrders = true := by kernel_rfl
          go_wp2_with fail
          go_big_region_o
          clear c1 c2 c3 c4 f1 f2 f3 f4 g2 g3 g4
          generalize ((((wr.setCell ⟨blk, off + p * 2, none⟩ (.int .i64 y.1)).setCell ⟨blk, off + p * 2 + 1, none⟩ (.int .i64 y.2)).setCell ⟨blk, off + v * 2, none⟩ (.int .i64 x.1)).setCell ⟨blk, off + v * 2 + 1, none⟩ (.int .i64 x.2)).drew = w2 at S3 ⊢
          go_wp2
          go_roundg (v - i)
          case measure => omega
          case rel => exact ⟨v, t + 1, by first | rfl | go_num | (congr 1; omega), by omega, by show _ = _; have := HU.out; omega, by omega, by have := HU.out; omega, Nat.le_refl _, S3⟩
        · have hlz : decide ((u : Int) > (i : Int)) = false := decide_eq_false (by omega)
          have hlz2 : ¬ (i : Int) < (u : Int) := by omega
          obtain rfl : u = i := by omega
          have HT : Hid (t = n) := by show _ = _; have := HU.out; omega
          go_wp2
          (try simp only [Exit.inBlock, Exit.then]); refine bodyPost_ret (results_none rfl _ _ _) rfl ?_
          refine ⟨rfl, _, HP.out, HE.out, ?_⟩
          have := S1.out
          rwa [HT.out] at this

end Go.Proofs.Ytfohfdldpanfaaa
