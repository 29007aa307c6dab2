/- slices.stableCmpFunc, SortStableFunc: up to forty intervals. -/
import Derived.Test.YtfohfdldpanfaaaIvIns
import Derived.Test.YtfohfdldpanfaaaSubMath
import Derived.Test.YtfohfdldpanfaaaIvSymM
namespace Go.Proofs.Ytfohfdldpanfaaa
open Go.Shelf Go.RowKit Go.Lib Go.Sort
set_option linter.unusedSimpArgs false
set_option linter.unusedVariables false

set_option maxHeartbeats 4000000 in
set_option maxRecDepth 1000000 in
theorem stable_any (g : Nat) (cb : Array Value) (cf : Int × Int → Int × Int → Int) (blk off cap : Nat) (d0 : Array (Int × Int)) (w0 : World)
    (eg : ∀ args w, (callFunc g args).run Try.prog w = .ok (.enter g args) w) (hcmp : CmpLays Try.prog g cb encI 2 cf blk off d0.size w0) (R : RowK encI 2 w0 blk off d0) (hO : SWO (ltOf cf))
    (d : Array (Int × Int)) (w : World) (hs : d0.size = d.size) (S : SWK encI 2 w0 blk off d w) (hsz : d.size ≤ 40) :
    Calls Try.prog 24 #[.slice (some ⟨blk, off, none⟩) d.size cap, .int .i64 d.size, .func (.func g) #[] cb] w fun e w' => e = .returned (.tuple #[]) ∧ ∃ d', PermIn 0 d.size d d' ∧ SortedIn (ltOf cf) 0 d.size d' ∧ SWK encI 2 w0 blk off d' w' := by
  have INS : Hid (∀ (a b : Nat) (A B : Int) (D : Array (Int × Int)) (W : World), A = a → B = b → D.size = d.size → SWK encI 2 w0 blk off D W → a ≤ b → b ≤ d.size →
      Calls Try.prog 26 #[.slice (some ⟨blk, off, none⟩) d.size cap, .int .i64 A, .int .i64 B, .func (.func g) #[] cb] W fun e w' => e = .returned (.tuple #[]) ∧ ∃ d', PermIn a b D d' ∧ SortedIn (ltOf cf) a b d' ∧ SWK encI 2 w0 blk off d' w') := fun a b A B D W hA hB hD h1 h2 h3 => by
    subst hA hB
    have := ins_any g cb cf blk off cap d0 w0 eg hcmp R hO a b D W (by omega) h1 h2 (by omega) (by omega)
    rwa [hD] at this
  have SYM : Hid (∀ (a m b : Nat) (A M B : Int) (D : Array (Int × Int)) (W : World), A = a → M = m → B = b → D.size = d.size → SWK encI 2 w0 blk off D W → a < m → m < b → b ≤ d.size → SortedIn (ltOf cf) a m D → SortedIn (ltOf cf) m b D →
      Calls Try.prog 27 #[.slice (some ⟨blk, off, none⟩) d.size cap, .int .i64 A, .int .i64 M, .int .i64 B, .func (.func g) #[] cb] W fun e w' => e = .returned (.tuple #[]) ∧ ∃ d', PermIn a b D d' ∧ SortedIn (ltOf cf) a b d' ∧ SWK encI 2 w0 blk off d' w') := fun a m b A M B D W hA hM hB hD h1 h2 h3 h4 h5 h6 => by
    subst hA hM hB
    have := sym_any g cb cf blk off cap d0 w0 eg hcmp R hO (b - a) a m b D W (Nat.le_refl _) (by omega) h1 h2 h3 (by omega) (by omega) h5 h6
    rwa [hD] at this
  have S0 : Aside (SWK encI 2 w0 blk off d w) := S
  clear S hcmp
  by_cases c1 : d.size < 20
  · have z1 : ¬ (20 : Int) ≤ (d.size : Int) := by omega
    have z2 : ¬ (20 : Int) < (d.size : Int) := by omega
    go_enter Try.func24, Try.ntmps24
    go_wp2
    refine wp_loop_rounds 1 ?_
    rw [rounds_succ]
    go_wp2_with fail
    refine (INS.out 0 d.size _ _ d _ rfl rfl rfl S0.out (Nat.zero_le _) (Nat.le_refl _)).mono ?_
    rintro e w1 ⟨rfl, d1, p1, s1, S1⟩
    have P1 := Hid.mk7 p1
    have Q1 := Hid.mk7 s1
    have T1 := Hid.mk7 S1
    clear p1 s1 S1
    go_wp2
    refine wp_loop_rounds 1 ?_
    rw [rounds_succ]
    go_wp2
    go_end0
    exact ⟨rfl, d1, P1.out, Q1.out, T1.out⟩
  · have z1 : (20 : Int) ≤ (d.size : Int) := by omega
    by_cases c4 : d.size < 40
    · have z2 : ¬ (40 : Int) ≤ (d.size : Int) := by omega
      have z4 : ¬ (40 : Int) < (d.size : Int) := by omega
      go_enter Try.func24, Try.ntmps24
      go_wp2
      refine wp_loop_rounds 2 ?_
      rw [rounds_succ]
      go_wp2_with fail
      refine (INS.out 0 20 _ _ d _ rfl rfl rfl S0.out (by omega) (by omega)).mono ?_
      rintro e w1 ⟨rfl, d1, p1, s1, S1⟩
      have P1 := Hid.mk7 p1
      have Q1 := Hid.mk7 s1
      have T1 := Hid.mk7 S1
      clear p1 s1 S1
      go_wp2_with fail
      rw [rounds_succ]
      go_wp2_with fail
      refine (INS.out 20 d.size _ _ d1 _ rfl rfl P1.out.1 T1.out (by omega) (by omega)).mono ?_
      rintro e w2 ⟨rfl, d2, p2, s2, S2⟩
      have P2 := Hid.mk7 p2
      have Q2 := Hid.mk7 s2
      have T2 := Hid.mk7 S2
      clear p2 s2 S2
      have W2 : Hid (SortedIn (ltOf cf) 0 20 d2) := fun p q x y z => by rw [P2.out.2.1 p (by omega), P2.out.2.1 q (by omega)]; exact Q1.out _ _ x y z
      have X2 : Hid (PermIn 0 d.size d d2) := permIn_trans _ _ _ _ _ (permIn_mono _ _ _ _ _ _ (Nat.le_refl _) (by omega) (Nat.le_refl _) P1.out) (permIn_mono _ _ _ _ _ _ (by omega) (Nat.le_refl _) (by rw [P1.out.1]; exact Nat.le_refl _) P2.out)
      by_cases c3 : d.size = 20
      · have z3 : ¬ (20 : Int) < (d.size : Int) := by omega
        have HE : Hid (SortedIn (ltOf cf) 0 d.size d2) := by show SortedIn _ _ _ _; rw [c3]; exact W2.out
        clear c3
        go_wp2_with fail
        refine wp_loop_rounds 1 ?_
        rw [rounds_succ]
        go_wp2
        go_end0
        exact ⟨rfl, d2, X2.out, HE.out, T2.out⟩
      · have z3 : (20 : Int) < (d.size : Int) := by omega
        go_wp2_with fail
        refine wp_loop_rounds 2 ?_
        rw [rounds_succ]
        go_wp2_with fail
        refine wp_loop_rounds 1 ?_
        rw [rounds_succ]
        go_wp2_with fail
        refine (SYM.out 0 20 d.size _ _ _ d2 _ rfl rfl rfl X2.out.1 T2.out (by omega) (by omega) (Nat.le_refl _) W2.out Q2.out).mono ?_
        rintro e w3 ⟨rfl, d3, p3, s3, S3⟩
        have P3 := Hid.mk7 p3
        have Q3 := Hid.mk7 s3
        have T3 := Hid.mk7 S3
        clear p3 s3 S3
        go_wp2_with fail
        rw [rounds_succ]
        go_wp2
        go_end0
        exact ⟨rfl, d3, permIn_trans _ _ _ _ _ X2.out P3.out, Q3.out, T3.out⟩
    · have z2 : (40 : Int) ≤ (d.size : Int) := by omega
      have z3 : (20 : Int) < (d.size : Int) := by omega
      have z4 : ¬ (40 : Int) < (d.size : Int) := by omega
      have z5 : ¬ (60 : Int) ≤ (d.size : Int) := by omega
      have z6 : ¬ (60 : Int) < (d.size : Int) := by omega
      have z7 : ¬ (80 : Int) ≤ (d.size : Int) := by omega
      have hc : 40 ≤ d.size := by omega
      go_enter Try.func24, Try.ntmps24
      go_wp2
      refine wp_loop_rounds 3 ?_
      rw [rounds_succ]
      go_wp2_with fail
      refine (INS.out 0 20 _ _ d _ rfl rfl rfl S0.out (by omega) (by omega)).mono ?_
      rintro e w1 ⟨rfl, d1, p1, s1, S1⟩
      have P1 := Hid.mk7 p1
      have Q1 := Hid.mk7 s1
      have T1 := Hid.mk7 S1
      clear p1 s1 S1
      go_wp2_with fail
      rw [rounds_succ]
      go_wp2_with fail
      refine (INS.out 20 40 _ _ d1 _ rfl rfl P1.out.1 T1.out (by omega) (by omega)).mono ?_
      rintro e w2 ⟨rfl, d2, p2, s2, S2⟩
      have P2 := Hid.mk7 p2
      have Q2 := Hid.mk7 s2
      have T2 := Hid.mk7 S2
      clear p2 s2 S2
      have W2 : Hid (SortedIn (ltOf cf) 0 20 d2) := fun p q x y z => by rw [P2.out.2.1 p (by omega), P2.out.2.1 q (by omega)]; exact Q1.out _ _ x y z
      have X2 : Hid (PermIn 0 d.size d d2) := permIn_trans _ _ _ _ _ (permIn_mono _ _ _ _ _ _ (Nat.le_refl _) (by omega) (Nat.le_refl _) P1.out) (permIn_mono _ _ _ _ _ _ (by omega) hc (by rw [P1.out.1]; exact Nat.le_refl _) P2.out)
      go_wp2_with fail
      rw [rounds_succ]
      go_wp2_with fail
      refine (INS.out 40 d.size _ _ d2 _ rfl rfl X2.out.1 T2.out (by omega) (Nat.le_refl _)).mono ?_
      rintro e w4 ⟨rfl, d4, p4, s4, S4⟩
      have X4 : Hid (PermIn 0 d.size d d4) := permIn_trans _ _ _ _ _ X2.out (permIn_mono _ _ _ _ _ _ (by omega) (Nat.le_refl _) (by rw [X2.out.1]; exact Nat.le_refl _) p4)
      have W4 : Hid (SortedIn (ltOf cf) 0 20 d4) := fun p q x y z => by rw [p4.2.1 p (by omega), p4.2.1 q (by omega)]; exact W2.out _ _ x y z
      have Q4 : Hid (SortedIn (ltOf cf) 20 40 d4) := fun p q x y z => by rw [p4.2.1 p (by omega), p4.2.1 q (by omega)]; exact Q2.out _ _ x y z
      have T4 := Hid.mk7 S4
      clear p4 s4 S4
      go_wp2_with fail
      refine wp_loop_rounds 2 ?_
      rw [rounds_succ]
      go_wp2_with fail
      refine wp_loop_rounds 2 ?_
      rw [rounds_succ]
      go_wp2_with fail
      refine (SYM.out 0 20 40 _ _ _ d4 _ rfl rfl rfl X4.out.1 T4.out (by omega) (by omega) hc W4.out Q4.out).mono ?_
      rintro e w3 ⟨rfl, d3, p3, s3, S3⟩
      have P3 : Hid (PermIn 0 d.size d d3) := permIn_trans _ _ _ _ _ X4.out (permIn_mono _ _ _ _ _ _ (Nat.le_refl _) hc (by rw [X4.out.1]; exact Nat.le_refl _) p3)
      have Q3 : Hid (SortedIn (ltOf cf) 0 d.size d3) := sorted_to s3 (Nat.le_refl _) (by omega)
      have T3 := Hid.mk7 S3
      clear p3 s3 S3
      go_wp2_with fail
      rw [rounds_succ]
      go_wp2_with fail
      rw [rounds_succ]
      go_wp2
      go_end0
      exact ⟨rfl, d3, P3.out, Q3.out, T3.out⟩
set_option maxHeartbeats 1000000 in
set_option maxRecDepth 100000 in
theorem sortStable_any (g : Nat) (cb : Array Value) (cf : Int × Int → Int × Int → Int) (blk off cap : Nat) (d : Array (Int × Int)) (w : World)
    (eg : ∀ args w, (callFunc g args).run Try.prog w = .ok (.enter g args) w) (hcmp : CmpLays Try.prog g cb encI 2 cf blk off d.size w) (R : RowK encI 2 w blk off d) (hO : SWO (ltOf cf)) (hsz : d.size ≤ 40) :
    Calls Try.prog 21 #[.slice (some ⟨blk, off, none⟩) d.size cap, .func (.func g) #[] cb] w fun e w' => e = .returned (.tuple #[]) ∧ ∃ d', PermIn 0 d.size d d' ∧ SortedIn (ltOf cf) 0 d.size d' ∧ SWK encI 2 w blk off d' w' := by
  have hc := stable_any g cb cf blk off cap d w eg hcmp R hO d w rfl (SWK.start R.hH) hsz
  clear hcmp
  go_enter Try.func21, Try.ntmps21
  go_wp2_with fail
  refine hc.mono ?_
  rintro e w1 ⟨rfl, h⟩
  go_wp2
  go_end0
  exact ⟨rfl, h⟩
end Go.Proofs.Ytfohfdldpanfaaa
