/- slices.symMergeCmpFunc. -/
import Derived.Test.YtfohfdldpanfaaaIvSym
import Derived.Test.YtfohfdldpanfaaaIvSymR
import Derived.Deep.CutRange
namespace Go.Proofs.Ytfohfdldpanfaaa
open Go.Shelf Go.RowKit Go.Lib Go.Sort
set_option linter.unusedSimpArgs false
set_option linter.unusedVariables false

set_option maxHeartbeats 1000000 in
set_option maxRecDepth 1000000 in
theorem sym_step (g : Nat) (cb : Array Value) (cf : Int × Int → Int × Int → Int) (blk off cap : Nat) (d0 : Array (Int × Int)) (w0 : World)
    (eg : ∀ args w, (callFunc g args).run Try.prog w = .ok (.enter g args) w) (hcmp : CmpLays Try.prog g cb encI 2 cf blk off d0.size w0) (R : RowK encI 2 w0 blk off d0) (hO : SWO (ltOf cf)) (N : Nat)
    (ih : ∀ (a m b : Nat) (d : Array (Int × Int)) (w : World), b - a ≤ N → d0.size = d.size → SWK encI 2 w0 blk off d w → a < m → m < b → b ≤ d.size → d.size < 4611686018427387904 → SortedIn (ltOf cf) a m d → SortedIn (ltOf cf) m b d →
      Calls Try.prog 27 #[.slice (some ⟨blk, off, none⟩) d.size cap, .int .i64 a, .int .i64 m, .int .i64 b, .func (.func g) #[] cb] w fun e w' => e = .returned (.tuple #[]) ∧ ∃ d', PermIn a b d d' ∧ SortedIn (ltOf cf) a b d' ∧ SWK encI 2 w0 blk off d' w')
    (a m b : Nat) (d : Array (Int × Int)) (w : World) (hN : b - a ≤ N + 1) (hs : d0.size = d.size) (S : SWK encI 2 w0 blk off d w) (ham : a < m) (hmb : m < b) (hb : b ≤ d.size) (hsz : d.size < 4611686018427387904) (hl : SortedIn (ltOf cf) a m d) (hr : SortedIn (ltOf cf) m b d) :
    Calls Try.prog 27 #[.slice (some ⟨blk, off, none⟩) d.size cap, .int .i64 a, .int .i64 m, .int .i64 b, .func (.func g) #[] cb] w fun e w' => e = .returned (.tuple #[]) ∧ ∃ d', PermIn a b d d' ∧ SortedIn (ltOf cf) a b d' ∧ SWK encI 2 w0 blk off d' w' := by
    by_cases hm1 : m = a + 1
    · exact sym_left g cb cf blk off cap d0 w0 eg hcmp R hO a m b d w hs S hm1 hmb hb hsz hr
    by_cases hb1 : b = m + 1
    · exact sym_right g cb cf blk off cap d0 w0 eg hcmp R hO a m b d w hs S (by omega) hb1 hb hsz hl
    have IH : Hid (∀ (a m b : Nat) (D : Array (Int × Int)) (W : World), b - a ≤ N → D.size = d.size → SWK encI 2 w0 blk off D W → a < m → m < b → b ≤ d.size → SortedIn (ltOf cf) a m D → SortedIn (ltOf cf) m b D →
        Calls Try.prog 27 #[.slice (some ⟨blk, off, none⟩) d.size cap, .int .i64 a, .int .i64 m, .int .i64 b, .func (.func g) #[] cb] W fun e w' => e = .returned (.tuple #[]) ∧ ∃ d', PermIn a b D d' ∧ SortedIn (ltOf cf) a b d' ∧ SWK encI 2 w0 blk off d' w') := fun a m b D W h1 hD h2 h3 h4 h5 h6 h7 => by
      have := ih a m b D W h1 (by omega) h2 h3 h4 (by omega) (by omega) h6 h7
      rwa [hD] at this
    clear ih
    have ROT : Hid (∀ (i t : Nat), i < m → m < t → t ≤ b → ∀ W, SWK encI 2 w0 blk off d W → Calls Try.prog 28 #[.slice (some ⟨blk, off, none⟩) d.size cap, .int .i64 i, .int .i64 m, .int .i64 t, .func (.func g) #[] cb] W fun e w' => e = .returned (.tuple #[]) ∧ ∃ d', Rot i m t d d' ∧ SWK encI 2 w0 blk off d' w') := fun i t h1 h2 h3 W h4 => rotate_any g cb blk off cap i m t d0 d w0 W R hs h4 h1 h2 (by omega) hsz
    have S0 : Aside (SWK encI 2 w0 blk off d w) := S
    have HC : Aside _ := hcmp
    have HL : Hid (SortedIn (ltOf cf) a m d) := hl
    have HR : Hid (SortedIn (ltOf cf) m b d) := hr
    have hm0 : (((m : Int) - (a : Int)) == 1) = false := by rw [beq_eq_false_iff_ne]; omega
    have hb0 : (((b : Int) - (m : Int)) == 1) = false := by rw [beq_eq_false_iff_ne]; omega
    have ham2 : a + 2 ≤ m := by omega
    have hmb2 : m + 2 ≤ b := by omega
    clear S hcmp hl hr hm1 hb1
    obtain ⟨mid, hd1, hd2⟩ : ∃ h : Nat, 2 * h ≤ a + b ∧ a + b < 2 * h + 2 := ⟨(a + b) / 2, by omega, by omega⟩
    go_enter Try.func27, Try.ntmps27
    go_upto_if 140 with fail
    go_cut [20, 21] from 138 to 146 (fun s20 s21 wx => (∃ lo hi : Nat, s20 = .int .i64 lo ∧ s21 = .int .i64 hi ∧ Hid ((mid < m ∧ lo + b = mid + m ∧ hi = mid) ∨ (m ≤ mid ∧ lo = a ∧ hi = m))) ∧ w = wx)
    case first =>
      by_cases hgt : mid < m
      · have hgz : decide ((m : Int) > ((a : Int) + (b : Int)) / 2) = true := decide_eq_true (by omega)
        have hgz2 : ((a : Int) + (b : Int)) / 2 < (m : Int) := by omega
        go_wp2
        go_meet
        case rel => exact ⟨⟨mid + m - b, mid, by congr 1; omega, by congr 1; omega, Or.inl ⟨hgt, by omega, rfl⟩⟩, rfl⟩
      · have hgz : decide ((m : Int) > ((a : Int) + (b : Int)) / 2) = false := decide_eq_false (by omega)
        have hgz2 : ¬ ((a : Int) + (b : Int)) / 2 < (m : Int) := by omega
        go_wp2
        go_meet
        case rel => exact ⟨⟨a, m, rfl, rfl, Or.inr ⟨by omega, rfl, rfl⟩⟩, rfl⟩
    case rest =>
      obtain ⟨⟨lo, hi, rfl, rfl, HLH⟩, rfl⟩ := hcut
      have hlo1 : a ≤ lo ∧ lo ≤ hi ∧ hi ≤ m ∧ hi ≤ mid ∧ mid + m ≤ lo + b := by have := HLH.out; omega
      obtain ⟨q1, q2, q3, q4, q5⟩ := hlo1
      go_wp2
      go_loopg [20, 21] (hi - lo) (fun kx s20 s21 wr => ∃ (i j : Nat), s20 = .int .i64 i ∧ s21 = .int .i64 j ∧ lo ≤ i ∧ i ≤ j ∧ j ≤ hi ∧ j - i ≤ kx ∧ Hid (i = lo ∨ ltOf cf d[mid + m - i]! d[i - 1]! = false) ∧ Hid (j = hi ∨ ltOf cf d[mid + m - 1 - j]! d[j]! = true) ∧ Aside (SWK encI 2 w0 blk off d wr))
      case atStart => exact ⟨lo, hi, rfl, rfl, Nat.le_refl _, by omega, Nat.le_refl _, Nat.le_refl _, Or.inl rfl, Or.inl rfl, S0⟩
      case round =>
        clear S0
        obtain ⟨i, j, rfl, rfl, hmi, hij, hjb, hkx, H1, H2, S1⟩ := hrel
        by_cases hlt : i < j
        · have hltz : (i : Int) < (j : Int) := by omega
          obtain ⟨h, hh1, hh2⟩ : ∃ h : Nat, 2 * h ≤ i + j ∧ i + j < 2 * h + 2 := ⟨(i + j) / 2, by omega, by omega⟩
          obtain ⟨u, hu1, hu2⟩ : ∃ u : Nat, u + h + 1 ≤ mid + m ∧ mid + m ≤ u + h + 1 := ⟨mid + m - 1 - h, by omega, by omega⟩
          go_upto_region 35 with fail
          have ea1 : (((a : Int) + (b : Int)) / 2 + (m : Int) - 1 - ((i : Int) + (j : Int)) / 2).toNat = u := by omega
          have pa1 : (0 : Int) ≤ ((a : Int) + (b : Int)) / 2 + (m : Int) - 1 - ((i : Int) + (j : Int)) / 2 := by omega
          have ba1 : ((a : Int) + (b : Int)) / 2 + (m : Int) - 1 - ((i : Int) + (j : Int)) / 2 < (d.size : Int) := by omega
          have ra1 : IntKind.i64.wrap (((a : Int) + (b : Int)) / 2 + (m : Int) - 1 - ((i : Int) + (j : Int)) / 2) = ((a : Int) + (b : Int)) / 2 + (m : Int) - 1 - ((i : Int) + (j : Int)) / 2 := by rw [IntKind.wrap_i64]; omega
          have ec1 : (((i : Int) + (j : Int)) / 2).toNat = h := by omega
          have pc1 : (0 : Int) ≤ ((i : Int) + (j : Int)) / 2 := by omega
          have bc1 : ((i : Int) + (j : Int)) / 2 < (d.size : Int) := by omega
          have rc1 : IntKind.i64.wrap (((i : Int) + (j : Int)) / 2) = ((i : Int) + (j : Int)) / 2 := by rw [IntKind.wrap_i64]; omega
          obtain ⟨x, hx⟩ : ∃ x, x = (d)[u]! := ⟨_, rfl⟩
          obtain ⟨y, hy⟩ : ∃ x, x = (d)[h]! := ⟨_, rfl⟩
          have c1 := sw_l0 S1.out R (by omega) u (by omega)
          have c2 := sw_l1 S1.out R (by omega) u (by omega)
          have c3 := sw_l0 S1.out R (by omega) h (by omega)
          have c4 := sw_l1 S1.out R (by omega) h (by omega)
          rw [← hx] at c1 c2
          rw [← hy] at c3 c4
          have hc : ∀ n os, Calls Try.prog g (#[.agg #[.int .i64 x.1, .int .i64 x.2], .agg #[.int .i64 y.1, .int .i64 y.2]] ++ cb) (grow (wr.drewN n) os) fun e w' => e = .returned (.int .i64 (cf x y)) ∧ ∃ h os', w' = grow ((grow (wr.drewN n) os).drewN h) os' := fun n os => S1.out.cmp HC.out (by omega) x y n os
          have mixed : Try.prog.follows Departure.mixedOrders = true := by kernel_rfl
          have HXY : Hid (ltOf cf d[u]! d[h]! = decide (cf x y < 0)) := by rw [hx, hy]; rfl
          clear hx hy
          go_cut [171] from 149 to 171 (fun v wx => v = .bool (!decide (cf x y < 0)) ∧ Aside (SWK encI 2 w0 blk off d wx))
          case first =>
            refine wp_region_quiet_grown mixed (by kernel_rfl) ?_
            repeat (go_big_quiet_step (first | (go_at_fn g; refine Calls.grown_of (hc _ _))))
            refine wpQuiet_nil ?_
            intro _ hw'
            obtain ⟨⟨nq, osq⟩, hw''⟩ := hw'
            subst hw''
            have S2 : Aside (SWK encI 2 w0 blk off (d) (grow (wr.drewN nq) osq)) := S1.out.grown nq osq
            clear c1 c2 c3 c4 hc S1
            generalize grow (wr.drewN nq) osq = w2 at S2 ⊢
            go_wp2
            go_meet
            case rel => exact ⟨rfl, S2⟩
          case rest =>
            obtain ⟨rfl, S2⟩ := hcut
            clear c1 c2 c3 c4 hc S1 mixed ea1 pa1 ba1 ra1 ec1 pc1 bc1 rc1
            cases hv : decide (cf x y < 0) with
            | false =>
              have hL0 : Hid (ltOf cf d[u]! d[h]! = false) := by show _ = _; rw [HXY.out]; exact hv
              go_wp2
              go_roundg (j - (h + 1))
              case measure => omega
              case rel => exact ⟨h + 1, j, by (congr 1; omega), rfl, by omega, by omega, hjb, Nat.le_refl _, Or.inr (by rw [show mid + m - (h + 1) = u from by omega]; exact hL0.out), H2, S2⟩
            | true =>
              have hL0 : Hid (ltOf cf d[u]! d[h]! = true) := by show _ = _; rw [HXY.out]; exact hv
              go_wp2
              go_roundg (h - i)
              case measure => omega
              case rel => exact ⟨i, h, rfl, by (congr 1; omega), hmi, by omega, by omega, Nat.le_refl _, H1, Or.inr (by rw [show mid + m - 1 - h = u from by omega]; exact hL0.out), S2⟩
        · have hltz : ¬ (i : Int) < (j : Int) := by omega
          obtain rfl : i = j := by omega
          obtain ⟨t, ht1, ht2⟩ : ∃ t : Nat, i + t ≤ mid + m ∧ mid + m ≤ i + t := ⟨mid + m - i, by omega, by omega⟩
          have H1' : Hid (i = a ∨ t = b ∨ ltOf cf d[t]! d[i - 1]! = false) := by
            rcases H1.out with e | e
            · rcases HLH.out with e2 | e2
              · exact Or.inr (Or.inl (by omega))
              · exact Or.inl (by omega)
            · exact Or.inr (Or.inr (by rwa [show mid + m - i = t from by omega] at e))
          have H2' : Hid (i = m ∨ t = m ∨ ltOf cf d[t - 1]! d[i]! = true) := by
            rcases H2.out with e | e
            · rcases HLH.out with e2 | e2
              · exact Or.inr (Or.inl (by omega))
              · exact Or.inl (by omega)
            · exact Or.inr (Or.inr (by rwa [show mid + m - 1 - i = t - 1 from by omega] at e))
          clear H1 H2
          have H1 := H1'
          have H2 := H2'
          clear H1' H2'
          have hmidz : ((a : Int) + (b : Int)) / 2 = (mid : Int) := by omega
          have htz : (mid : Int) + (m : Int) - (i : Int) = (t : Int) := by omega
          skip
          rw [hmidz]
          clear hmidz
          go_upto_region 39 with fail
          obtain ⟨B1, hB1⟩ : ∃ B : Bool, B = (decide (i < m) && decide (m < t)) := ⟨_, rfl⟩
          have HB1 : Hid (B1 = (decide (i < m) && decide (m < t))) := hB1
          clear hB1
          go_cut [185] from 178 to 185 (fun v wx => v = .bool B1 ∧ wr = wx)
          case first =>
            by_cases hx : i < m
            · by_cases hy : m < t
              · skip
                have himz : (i : Int) < (m : Int) := by omega
                have hmtz : (m : Int) < (t : Int) := by omega
                go_wp2
                go_meet
                case rel => exact ⟨congrArg Value.bool (by rw [HB1.out]; simp; omega), rfl⟩
              · skip
                have himz : (i : Int) < (m : Int) := by omega
                have hmtz : ¬ (m : Int) < (t : Int) := by omega
                go_wp2
                go_meet
                case rel => exact ⟨congrArg Value.bool (by rw [HB1.out]; simp; omega), rfl⟩
            · skip
              have himz : ¬ (i : Int) < (m : Int) := by omega
              go_wp2
              go_meet
              case rel => exact ⟨congrArg Value.bool (by rw [HB1.out]; simp; omega), rfl⟩
          case rest =>
            obtain ⟨rfl, rfl⟩ := hcut
            clear htz
            go_upto_if 185 with fail
            go_cut [] from 186 to 191 (fun wx => ∃ f, Hid (Rot i m t d f) ∧ Aside (SWK encI 2 w0 blk off f wx))
            case first =>
              cases B1 with
              | true =>
                have hB := HB1.out
                have hB2 : i < m ∧ m < t := by simpa using hB.symm
                clear hB
                obtain ⟨hB3, hB4⟩ := hB2
                go_wp2_with fail
                refine (ROT.out i t hB3 hB4 (by omega) _ S1.out).mono ?_
                rintro e w1 ⟨rfl, f, HF0, SF0⟩
                have HF : Hid (Rot i m t d f) := HF0
                have SF : Aside (SWK encI 2 w0 blk off f w1) := SF0
                clear HF0 SF0 S1
                go_wp2
                go_meet
                case rel => exact ⟨f, HF, SF⟩
              | false =>
                have hB := HB1.out
                have hB2 : ¬ (i < m ∧ m < t) := by simpa using hB.symm
                clear hB
                have HF : Hid (Rot i m t d d) := rot_none (by omega) (by omega) (by omega)
                clear hB2
                go_wp2
                go_meet
                case rel => exact ⟨d, HF, S1⟩
            case rest =>
              obtain ⟨f, HF, SF⟩ := hcut
              clear S1 HB1
              have TU : Hid _ := turned hO hb HL.out HR.out (show a ≤ i by omega) (show i ≤ m by omega) (show m ≤ t by omega) (show t ≤ b by omega) (show i + t = mid + m by omega) H1.out H2.out HF.out
              have HZ : Hid (f.size = d.size) := HF.out.size
              clear H1 H2
              go_upto_region 41 with fail
              obtain ⟨B2, hB2⟩ : ∃ B : Bool, B = (decide (a < i) && decide (i < mid)) := ⟨_, rfl⟩
              have HB2 : Hid (B2 = (decide (a < i) && decide (i < mid))) := hB2
              clear hB2
              go_cut [199] from 192 to 199 (fun v wx => v = .bool B2 ∧ wc = wx)
              case first =>
                by_cases hx : a < i
                · by_cases hy : i < mid
                  · skip
                    have haiz : (a : Int) < (i : Int) := by omega
                    have hidz : (i : Int) < (mid : Int) := by omega
                    go_wp2
                    go_meet
                    case rel => exact ⟨congrArg Value.bool (by rw [HB2.out]; simp; omega), rfl⟩
                  · skip
                    have haiz : (a : Int) < (i : Int) := by omega
                    have hidz : ¬ (i : Int) < (mid : Int) := by omega
                    go_wp2
                    go_meet
                    case rel => exact ⟨congrArg Value.bool (by rw [HB2.out]; simp; omega), rfl⟩
                · skip
                  have haiz : ¬ (a : Int) < (i : Int) := by omega
                  go_wp2
                  go_meet
                  case rel => exact ⟨congrArg Value.bool (by rw [HB2.out]; simp; omega), rfl⟩
              case rest =>
                obtain ⟨rfl, rfl⟩ := hcut
                go_upto_if 199 with fail
                go_cut [] from 200 to 205 (fun wx => ∃ f2, Hid (PermIn a mid f f2) ∧ Hid (SortedIn (ltOf cf) a mid f2) ∧ Aside (SWK encI 2 w0 blk off f2 wx))
                case first =>
                  cases B2 with
                  | true =>
                    have hB := HB2.out
                    have hB2 : a < i ∧ i < mid := by simpa using hB.symm
                    clear hB
                    obtain ⟨hB3, hB4⟩ := hB2
                    go_wp2_with fail
                    refine (IH.out a i mid f _ (by omega) HZ.out SF.out hB3 hB4 (by omega) TU.out.1 TU.out.2.1).mono ?_
                    rintro e w2 ⟨rfl, f2, p2, s2, SF2⟩
                    have P1 : Hid (PermIn a mid f f2) := p2
                    have Q1 : Hid (SortedIn (ltOf cf) a mid f2) := s2
                    have SG : Aside (SWK encI 2 w0 blk off f2 w2) := SF2
                    clear p2 s2 SF2 SF
                    go_wp2
                    go_meet
                    case rel => exact ⟨f2, P1, Q1, SG⟩
                  | false =>
                    have hB := HB2.out
                    have hB2 : ¬ (a < i ∧ i < mid) := by simpa using hB.symm
                    clear hB
                    have Q1 : Hid (SortedIn (ltOf cf) a mid f) := by
                      by_cases hai : a < i
                      · exact sorted_to TU.out.1 (Nat.le_refl _) (by omega)
                      · exact sorted_to TU.out.2.1 (by omega) (Nat.le_refl _)
                    clear hB2
                    go_wp2
                    go_meet
                    case rel => exact ⟨f, permIn_refl _ _ _, Q1, SF⟩
                case rest =>
                  obtain ⟨f2, P1, Q1, SG⟩ := hcut
                  clear SF HB2
                  go_upto_region 43 with fail
                  obtain ⟨B3, hB3⟩ : ∃ B : Bool, B = (decide (mid < t) && decide (t < b)) := ⟨_, rfl⟩
                  have HB3 : Hid (B3 = (decide (mid < t) && decide (t < b))) := hB3
                  clear hB3
                  go_cut [213] from 206 to 213 (fun v wx => v = .bool B3 ∧ wc = wx)
                  case first =>
                    by_cases hx : mid < t
                    · by_cases hy : t < b
                      · skip
                        have hdtz : (mid : Int) < (t : Int) := by omega
                        have htbz : (t : Int) < (b : Int) := by omega
                        go_wp2
                        go_meet
                        case rel => exact ⟨congrArg Value.bool (by rw [HB3.out]; simp; omega), rfl⟩
                      · skip
                        have hdtz : (mid : Int) < (t : Int) := by omega
                        have htbz : ¬ (t : Int) < (b : Int) := by omega
                        go_wp2
                        go_meet
                        case rel => exact ⟨congrArg Value.bool (by rw [HB3.out]; simp; omega), rfl⟩
                    · skip
                      have hdtz : ¬ (mid : Int) < (t : Int) := by omega
                      go_wp2
                      go_meet
                      case rel => exact ⟨congrArg Value.bool (by rw [HB3.out]; simp; omega), rfl⟩
                  case rest =>
                    obtain ⟨rfl, rfl⟩ := hcut
                    cases B3 with
                    | true =>
                      have hB := HB3.out
                      have hB2 : mid < t ∧ t < b := by simpa using hB.symm
                      clear hB
                      obtain ⟨hB3, hB4⟩ := hB2
                      go_wp2_with fail
                      refine (IH.out mid t b f2 _ (by omega) (P1.out.1.trans HZ.out) SG.out hB3 hB4 hb (same_right P1.out (Nat.le_refl _) TU.out.2.2.1) (same_right P1.out (by omega) TU.out.2.2.2.1)).mono ?_
                      rintro e w3 ⟨rfl, f3, p3, s3, SF3⟩
                      have P2 : Hid (PermIn mid b f2 f3) := p3
                      have Q2 : Hid (SortedIn (ltOf cf) mid b f3) := s3
                      have SH : Aside (SWK encI 2 w0 blk off f3 w3) := SF3
                      clear p3 s3 SF3 SG
                      go_wp2
                      go_end0
                      have TS := two_sorted hO (show b ≤ f.size by rw [HZ.out]; exact hb) (show a ≤ mid by omega) (show mid ≤ b by omega) P1.out P2.out Q1.out Q2.out TU.out.2.2.2.2
                      exact ⟨rfl, _, permIn_trans _ _ _ _ _ (permIn_mono _ _ _ _ _ _ (by omega) (by omega) hb HF.out.perm) TS.2, TS.1, SH.out⟩
                    | false =>
                      have hB := HB3.out
                      have hB2 : ¬ (mid < t ∧ t < b) := by simpa using hB.symm
                      clear hB
                      have P2 : Hid (PermIn mid b f2 f2) := permIn_refl _ _ _
                      have Q2 : Hid (SortedIn (ltOf cf) mid b f2) := by
                        by_cases hdt : mid < t
                        · exact same_right P1.out (Nat.le_refl _) (sorted_to TU.out.2.2.1 (Nat.le_refl _) (by omega))
                        · exact same_right P1.out (Nat.le_refl _) (sorted_to TU.out.2.2.2.1 (by omega) (Nat.le_refl _))
                      have SH : Aside (SWK encI 2 w0 blk off f2 wc) := SG
                      clear hB2 SG
                      go_wp2
                      go_end0
                      have TS := two_sorted hO (show b ≤ f.size by rw [HZ.out]; exact hb) (show a ≤ mid by omega) (show mid ≤ b by omega) P1.out P2.out Q1.out Q2.out TU.out.2.2.2.2
                      exact ⟨rfl, _, permIn_trans _ _ _ _ _ (permIn_mono _ _ _ _ _ _ (by omega) (by omega) hb HF.out.perm) TS.2, TS.1, SH.out⟩
theorem sym_any (g : Nat) (cb : Array Value) (cf : Int × Int → Int × Int → Int) (blk off cap : Nat) (d0 : Array (Int × Int)) (w0 : World)
    (eg : ∀ args w, (callFunc g args).run Try.prog w = .ok (.enter g args) w) (hcmp : CmpLays Try.prog g cb encI 2 cf blk off d0.size w0) (R : RowK encI 2 w0 blk off d0) (hO : SWO (ltOf cf)) (N : Nat) : ∀ (a m b : Nat) (d : Array (Int × Int)) (w : World), b - a ≤ N → d0.size = d.size → SWK encI 2 w0 blk off d w → a < m → m < b → b ≤ d.size → d.size < 4611686018427387904 → SortedIn (ltOf cf) a m d → SortedIn (ltOf cf) m b d →
    Calls Try.prog 27 #[.slice (some ⟨blk, off, none⟩) d.size cap, .int .i64 a, .int .i64 m, .int .i64 b, .func (.func g) #[] cb] w fun e w' => e = .returned (.tuple #[]) ∧ ∃ d', PermIn a b d d' ∧ SortedIn (ltOf cf) a b d' ∧ SWK encI 2 w0 blk off d' w' := by
  induction N with
  | zero => intro a m b d w h1 _ _ h2 h3; omega
  | succ N ih => exact sym_step g cb cf blk off cap d0 w0 eg hcmp R hO N ih

end Go.Proofs.Ytfohfdldpanfaaa
