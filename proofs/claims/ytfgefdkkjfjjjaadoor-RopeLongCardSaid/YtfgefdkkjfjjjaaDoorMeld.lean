/- meld, join. -/
import Derived.Test.YtfgefdkkjfjjjaaDoorCat
import Derived.Test.YtfgefdkkjfjjjaaDoorTurns
namespace Go.Proofs.YtfgefdkkjfjjjaaDoor
open Go.RowKit Go.Sort
set_option linter.unusedSimpArgs false
set_option linter.unusedVariables false

theorem below_redrawn (w : World) (d : Nat) : Below w.heap.size w (redrawn w d) := by
  have := below_regrown w d #[]
  rwa [grow_empty] at this
theorem redrawn_size (w : World) (d : Nat) : (redrawn w d).heap.size = w.heap.size := rfl
theorem mixNext_below {P : Program} {l : List Oper} {Q : Exit → Act → World → Prop} {r : List (List Nat × List Nat)} {a : Act} {w w3 : World} (hb : Below w.heap.size w w3) (h : wpPlan P l (fun w' => ∃ p : Regrown, w' = grow (redrawn w p.d) p.os) Q r a w3) :
    MixNext P l (fun w' => ∃ p : Regrown, w' = grow (redrawn w p.d) p.os) Q r .normal a w3 := mixNext_mk (regrown_of_below hb) h
theorem concat_n (gs1 gs2 : List Nat) (n1 n2 : Nat) (e1 : gs1.length = n1) (e2 : gs2.length = n2) (b b1 o1 c1 b2 o2 c2 : Nat) (w : World) (h1 : 0 < n1) (h2 : 0 < n2) (hl : n1 + n2 ≤ 1099511627776)
    (hc0 : w.cell? ⟨b, 0, none⟩ = some (.slice (some ⟨b1, o1, none⟩) n1 c1)) (hc1 : w.cell? ⟨b, 1, none⟩ = some (.slice (some ⟨b2, o2, none⟩) n2 c2)) (hP1 : Ptrs w b1 o1 gs1) (hP2 : Ptrs w b2 o2 gs2) :
    Calls Tryd.prog 80 #[.slice (some ⟨b, 0, none⟩) 2 2] w fun e w' => ∃ g cap', e = .returned (.slice (some ⟨g, 0, none⟩) (n1 + n2) cap') ∧ n1 + n2 ≤ cap' ∧ Ptrs w' g 0 (gs1 ++ gs2) ∧ Below w.heap.size w w' := by
  subst e1 e2
  have := concat_any gs1 gs2 b b1 o1 c1 b2 o2 c2 w h1 h2 hl hc0 hc1 hP1 hP2
  simpa only [List.length_append] using this
theorem parents_n (E : Env) (d n : Nat) (ks : List (Nat × List ByteArray)) (hn : ks.length = n) (kb off cap : Nat) (w : World) (h2 : 2 ≤ n) (hd : d ≤ 1099511627776) (hl : (ks.flatMap Prod.snd).length ≤ 1099511627776) (hkl : n ≤ 1099511627776)
    (hc : n ≤ cap) (hN : ∀ k ∈ ks, Nd E w d k.1 k.2) (hP : Ptrs w kb off (ks.map Prod.fst)) :
    Calls Tryd.prog 71 #[.slice (some ⟨kb, off, none⟩) n cap] w fun e w' => ∃ (us : List (Nat × List ByteArray)) (g cap' : Nat), e = .returned (.slice (some ⟨g, 0, none⟩) us.length cap') ∧ us.length ≤ cap' ∧ us.length = n / 2 ∧ us.flatMap Prod.snd = ks.flatMap Prod.snd ∧
      (∀ k ∈ us, Nd E w' (d + 1) k.1 k.2) ∧ Ptrs w' g 0 (us.map Prod.fst) ∧ Below w.heap.size w w' := by
  subst hn
  exact parents_any E d ks kb off cap w h2 hd hl hkl hc hN hP

set_option maxHeartbeats 4000000 in
set_option maxRecDepth 100000 in
/-- meld, of nodes as deep as each other. -/
theorem meld_eq (E : Env) (d ga gb : Nat) (la lb : List ByteArray) (w : World) (hA : Nd E w d ga la) (hB : Nd E w d gb lb) (hl : la.length + lb.length ≤ 1099511627776) :
    Calls Tryd.prog 76 #[.pointer (some ⟨ga, 0, none⟩), .pointer (some ⟨gb, 0, none⟩)] w fun e w' => ∃ (ks : List (Nat × List ByteArray)) (g cap : Nat), e = .returned (.slice (some ⟨g, 0, none⟩) ks.length cap) ∧ 1 ≤ ks.length ∧ ks.length ≤ 2 ∧ ks.length ≤ cap ∧ ks.flatMap Prod.snd = la ++ lb ∧
      (∀ k ∈ ks, Nd E w' (max d d) k.1 k.2) ∧ Ptrs w' g 0 (ks.map Prod.fst) ∧ Below w.heap.size w w' := by
  have d1 := hA.cells.1
  have d2 := hB.cells.1
  have HA := Hid.mk4 hA
  have HB := Hid.mk4 hB
  clear hA hB
  go_enter Tryd.func76, Tryd.ntmps76
  go_wp2
  have q1 := cell_regrown d1
  have q2 := cell_regrown d2
  refine wp_region_quiet_below (by kernel_rfl) (by kernel_rfl) ?_
  repeat (go_big_quiet_step (fail))
  refine wpQuiet_nil ?_
  intro _ hw'
  obtain ⟨⟨dq, osq⟩, hw''⟩ := hw'
  subst hw''
  have bq := below_regrown w dq osq
  clear q1 q2
  generalize grow (redrawn w dq) osq = w1 at *
  have e1 := cell_after d1 bq
  have e2 := cell_after d2 bq
  clear d1 d2
  go_wp2
  have q1 := cell_regrown e1
  have q2 := cell_regrown e2
  refine wp_region_quiet_below (by kernel_rfl) (by kernel_rfl) ?_
  repeat (go_big_quiet_step (fail))
  refine wpQuiet_nil ?_
  intro _ hw'
  obtain ⟨⟨dq, osq⟩, hw''⟩ := hw'
  subst hw''
  have bq2 := bq.trans ((below_regrown w1 dq osq).mono bq.size)
  clear q1 q2
  generalize grow (redrawn w1 dq) osq = w2 at *
  clear e1 e2 bq
  go_wp2
  go_ret
  have b3 : Below w.heap.size w (w2.alloc (Obj.cells #[pv ga, pv gb] 59)) := bq2.alloc bq2.size _
  refine ⟨[(ga, la), (gb, lb)], w2.heap.size, 2, rfl, by simp, by simp, by simp, by simp, ?_, ?_, b3⟩
  · intro k hk
    simp at hk
    rw [Nat.max_self]
    rcases hk with rfl | rfl
    · exact HA.out.later b3
    · exact HB.out.later b3
  · intro i g hi
    rw [cell_of_row _ _ _ _ _ _ (heap_alloc_new w2 _)]
    match i, hi with
    | 0, hi => simp at hi; subst hi; rfl
    | 1, hi => simp at hi; subst hi; rfl

set_option maxHeartbeats 4000000 in
set_option maxRecDepth 100000 in
/-- meld. -/
theorem meld_any (E : Env) : ∀ (n da db : Nat), da + db ≤ n → ∀ (ga gb : Nat) (la lb : List ByteArray) (w : World), Nd E w da ga la → Nd E w db gb lb → la.length + lb.length ≤ 1099511627776 →
    Calls Tryd.prog 76 #[.pointer (some ⟨ga, 0, none⟩), .pointer (some ⟨gb, 0, none⟩)] w fun e w' => ∃ (ks : List (Nat × List ByteArray)) (g cap : Nat), e = .returned (.slice (some ⟨g, 0, none⟩) ks.length cap) ∧ 1 ≤ ks.length ∧ ks.length ≤ 2 ∧ ks.length ≤ cap ∧ ks.flatMap Prod.snd = la ++ lb ∧
      (∀ k ∈ ks, Nd E w' (max da db) k.1 k.2) ∧ Ptrs w' g 0 (ks.map Prod.fst) ∧ Below w.heap.size w w' := by
  intro n
  induction n with
  | zero =>
    intro da db hn ga gb la lb w hA hB hl
    obtain rfl : da = 0 := by omega
    obtain rfl : db = 0 := by omega
    exact meld_eq E 0 ga gb la lb w hA hB hl
  | succ n ih =>
    intro da db hn ga gb la lb w hA hB hl
    rcases Nat.lt_trichotomy db da with hlt | heq | hgt
    · obtain ⟨d, rfl⟩ : ∃ d, da = d + 1 := ⟨da - 1, by omega⟩
      have hge := hA.ge
      obtain ⟨ks, kb, off, cap, hc, h2, h3, hk, hfl, c7, hp⟩ := NdA.kids hA
      obtain ⟨ks0, kl, hks⟩ : ∃ ks0 kl, ks = ks0 ++ [kl] := ⟨ks.dropLast, ks.getLast (by intro e; rw [e] at h2; simp at h2), (List.dropLast_concat_getLast _).symm⟩
      obtain ⟨m, hm⟩ : ∃ m, ks0.length = m := ⟨_, rfl⟩
      have hml : ks.length = m + 1 := by rw [hks]; simp [hm]
      rw [hml] at c7 hc h2 h3
      have HKS := Hid.mk4 hks
      have HM := Hid.mk4 hm
      have pm : w.cell? ⟨kb, off + m, none⟩ = some (.pointer (some ⟨kl.1, 0, none⟩)) := hp m kl.1 (by rw [hks]; simp [← hm])
      have d1 := hA.cells.1
      have d2 := hB.cells.1
      have HA := Hid.mk4 hA
      have HB := Hid.mk4 hB
      have HL := Hid.mk4 hl
      have HK := Hid.mk4 hk
      have HP := Hid.mk4 hp
      have HF := Hid.mk4 hfl
      have hdb : db < d + 1 := hlt
      have hdl : d ≤ 1099511627776 := by omega
      have cmp : ((db : Int) + 1 < ((d + 1 : Nat) : Int) + 1) := by omega
      clear hA hB hl hk hp hfl hks hm hge hml
      go_enter Tryd.func76, Tryd.ntmps76
      go_wp2
      have q1 := cell_regrown d1
      have q2 := cell_regrown d2
      refine wp_region_quiet_below (by kernel_rfl) (by kernel_rfl) ?_
      repeat (go_big_quiet_step (fail))
      refine wpQuiet_nil ?_
      intro _ hw'
      obtain ⟨⟨dq, osq⟩, hw''⟩ := hw'
      subst hw''
      have bq := below_regrown w dq osq
      clear q1 q2 d1 d2
      generalize grow (redrawn w dq) osq = w1 at *
      have c7' := cell_after c7 bq
      have pm' := cell_after pm bq
      have HK1 : Hid (∀ k ∈ ks, Nd E w1 d k.1 k.2) := fun k hk => (HK.out k hk).later bq
      have HB1 := Hid.mk4 (HB.out.later bq)
      have HP1 := Hid.mk4 (HP.out.later bq)
      clear c7 pm HK HB HP
      go_wp2
      have r7 := cell_regrown c7'
      have rm := cell_regrown pm'
      have hmc : m ≤ cap := by omega
      refine wp_region_mix [([0, 1, 2, 3, 4, 5, 6, 7, 8, 9, 10, 11, 12, 13], [14]), ([], [15]), ([], [16]), ([], [17]), ([18], [])] (by kernel_rfl) (by kernel_rfl) ?_
      rintro w2 ⟨d2, rfl⟩
      refine wpPlan_cons ?_
      simp only [pickAll, pickAt, List.nil_append, List.cons_append, List.append_nil]
      repeat (go_big_quiet_step (fail))
      refine wpQuiet_nil ?_
      have b1 : Below w.heap.size w (redrawn w1 d2) := bq.trans ((below_redrawn w1 d2).mono bq.size)
      have hkl : Nd E (redrawn w1 d2) d kl.1 kl.2 := (HK1.out kl (by rw [HKS.out]; simp)).later (below_redrawn w1 d2)
      have HFL : Hid (la = ks0.flatMap Prod.snd ++ kl.2) := by show _ = _; rw [HF.out, HKS.out]; simp
      have hsum : ks0.length = m ∧ (ks0.flatMap Prod.snd).length + kl.2.length + lb.length ≤ 1099511627776 := by
        have := HL.out
        rw [HFL.out, List.length_append] at this
        exact ⟨HM.out, by omega⟩
      have HSUM := Hid.mk4 hsum
      have HI := Hid.mk4 (ih d db (by omega) kl.1 gb kl.2 lb (redrawn w1 d2) hkl (HB1.out.later (below_redrawn w1 d2)) (by omega))
      clear hkl hsum r7 rm c7' pm'
      go_wp2_with fail
      refine HI.out.mono ?_
      rintro e w3 ⟨ms, g3, cap3, rfl, hm1, hm2, hmc3, hmf, hmn, hmp, b3⟩
      have HMF := Hid.mk4 hmf
      have HMN := Hid.mk4 hmn
      have HMP := Hid.mk4 hmp
      have b13 : Below w1.heap.size w1 w3 := (below_redrawn w1 d2).trans b3
      clear hmf hmn hmp HI b3
      go_wp2
      refine mixNext_below b13 ?_
      refine wpPlan_cons ?_
      simp only [pickAll, pickAt, List.nil_append, List.cons_append, List.append_nil]
      refine wpQuiet_nil ?_
      go_wp2
      refine mixNext_below (b13.alloc b13.size _) ?_
      have b4 : Below w3.heap.size w3 (w3.alloc (Obj.cells #[.slice (some ⟨kb, off, none⟩) m cap, .slice (some ⟨g3, 0, none⟩) ms.length cap3] 96)) := (Below.refl _ _).alloc (Nat.le_refl _) _
      have x0 : (w3.alloc (Obj.cells #[.slice (some ⟨kb, off, none⟩) m cap, .slice (some ⟨g3, 0, none⟩) ms.length cap3] 96)).cell? ⟨w3.heap.size, 0, none⟩ = some (.slice (some ⟨kb, off, none⟩) m cap) := by rw [cell_of_row _ _ _ _ _ _ (heap_alloc_new w3 _)]; rfl
      have x1 : (w3.alloc (Obj.cells #[.slice (some ⟨kb, off, none⟩) m cap, .slice (some ⟨g3, 0, none⟩) ms.length cap3] 96)).cell? ⟨w3.heap.size, 1, none⟩ = some (.slice (some ⟨g3, 0, none⟩) ms.length cap3) := by rw [cell_of_row _ _ _ _ _ _ (heap_alloc_new w3 _)]; rfl
      have b14 : Below w1.heap.size w1 (w3.alloc (Obj.cells #[.slice (some ⟨kb, off, none⟩) m cap, .slice (some ⟨g3, 0, none⟩) ms.length cap3] 96)) := b13.trans (b4.mono b13.size)
      have HMP4 := Hid.mk4 (HMP.out.later b4)
      have HMN4 : Hid (∀ k ∈ ms, Nd E (w3.alloc (Obj.cells #[.slice (some ⟨kb, off, none⟩) m cap, .slice (some ⟨g3, 0, none⟩) ms.length cap3] 96)) (max d db) k.1 k.2) := fun k hk => (HMN.out k hk).later b4
      generalize w3.alloc (Obj.cells #[.slice (some ⟨kb, off, none⟩) m cap, .slice (some ⟨g3, 0, none⟩) ms.length cap3] 96) = w4 at *
      have HPK : Hid (Ptrs w4 kb off (ks0.map Prod.fst)) := fun i g hi => HP1.out.later b14 i g (by rw [HKS.out, List.map_append, List.getElem?_append_left (by have := (List.getElem?_eq_some_iff.1 hi).1; simpa using this)]; exact hi)
      have hm0 : 1 ≤ m ∧ m ≤ 2 := by omega
      refine wpPlan_cons ?_
      simp only [pickAll, pickAt, List.nil_append, List.cons_append, List.append_nil]
      refine wpQuiet_nil ?_
      clear HMP HMN b4 b13
      go_wp2_with fail
      refine (concat_n (ks0.map Prod.fst) (ms.map Prod.fst) m ms.length (by simp [HM.out]) (by simp) w3.heap.size kb off cap g3 0 cap3 w4 (by omega) (by omega) (by omega) x0 x1 HPK.out HMP4.out).mono ?_
      rintro e w5 ⟨g5, cap5, rfl, hc5, hp5, b5⟩
      have HP5 := Hid.mk4 hp5
      have b15 : Below w1.heap.size w1 w5 := b14.trans (b5.mono b14.size)
      have HN5 : Hid (∀ k ∈ ks0 ++ ms, Nd E w5 d k.1 k.2) := by
        intro k hk
        rcases List.mem_append.1 hk with hk | hk
        · exact (HK1.out k (by rw [HKS.out]; simp [hk])).later b15
        · have := (HMN4.out k hk).later b5
          rwa [show max d db = d from by omega] at this
      clear hp5 b5 x0 x1 HPK HMP4 HMN4 b14
      go_wp2
      refine mixNext_below b15 ?_
      refine wpPlan_cons ?_
      simp only [pickAll, pickAt, List.nil_append, List.cons_append, List.append_nil]
      refine wpQuiet_nil ?_
      go_wp2_with fail
      refine (parents_n E d (m + ms.length) (ks0 ++ ms) (by rw [List.length_append, HM.out]) g5 0 cap5 w5 (by omega) hdl ?z1 (by omega) hc5 HN5.out (by simpa using HP5.out)).mono ?_
      case z1 =>
        have := HSUM.out.2
        rw [List.flatMap_append, HMF.out, List.length_append, List.length_append]
        omega
      rintro e w6 ⟨us, g6, cap6, rfl, hc6, hl6, hf6, hn6, hp6, b6⟩
      have HF6 := Hid.mk4 hf6
      have HN6 := Hid.mk4 hn6
      have HP6 := Hid.mk4 hp6
      have b16 : Below w1.heap.size w1 w6 := b15.trans (b6.mono b15.size)
      have hl6a : 1 ≤ us.length := by omega
      have hl6b : us.length ≤ 2 := by omega
      clear hf6 hn6 hp6 b6 hl6 HP5 HN5 b15
      go_wp2
      refine mixNext_below b16 ?_
      refine wpPlan_cons ?_
      simp only [pickAll, pickAt, List.nil_append, List.cons_append, List.append_nil]
      repeat (go_big_quiet_step (fail))
      refine wpQuiet_nil ?_
      refine mixNext_below b16 (wpPlan_nil ?_)
      go_wp2
      go_ret
      refine ⟨us, g6, cap6, rfl, hl6a, hl6b, hc6, ?_, ?_, HP6.out, bq.trans (b16.mono bq.size)⟩
      · rw [HF6.out, List.flatMap_append, HMF.out, HFL.out, List.append_assoc]
      · intro k hk
        rw [show max (d + 1) db = d + 1 from by omega]
        exact HN6.out k hk
    · subst heq
      exact meld_eq E db ga gb la lb w hA hB hl
    · obtain ⟨d, rfl⟩ : ∃ d, db = d + 1 := ⟨db - 1, by omega⟩
      have hge := hB.ge
      obtain ⟨ks, kb, off, cap, hc, h2, h3, hk, hfl, c7, hp⟩ := NdA.kids hB
      obtain ⟨kl, ks0, hks⟩ : ∃ kl ks0, ks = kl :: ks0 := by
        match ks, h2 with
        | a :: r, _ => exact ⟨a, r, rfl⟩
      obtain ⟨m, hm⟩ : ∃ m, ks0.length = m := ⟨_, rfl⟩
      have hml : ks.length = m + 1 := by rw [hks]; simp [hm]
      rw [hml] at c7 hc h2 h3
      have HKS := Hid.mk4 hks
      have HM := Hid.mk4 hm
      have pm : w.cell? ⟨kb, off, none⟩ = some (.pointer (some ⟨kl.1, 0, none⟩)) := hp 0 kl.1 (by rw [hks]; simp)
      have d1 := hA.cells.1
      have d2 := hB.cells.1
      have HA := Hid.mk4 hA
      have HB := Hid.mk4 hB
      have HL := Hid.mk4 hl
      have HK := Hid.mk4 hk
      have HP := Hid.mk4 hp
      have HF := Hid.mk4 hfl
      have hdb : da < d + 1 := hgt
      have hdl : d ≤ 1099511627776 := by omega
      have cmp : ((da : Int) + 1 < ((d + 1 : Nat) : Int) + 1) := by omega
      have cmp2 : decide (((d + 1 : Nat) : Int) + 1 < (da : Int) + 1) = false := by simp; omega
      have cmp3 : decide ((d : Int) + 1 + 1 < (da : Int) + 1) = false := by simp; omega
      have cmp4 : (da : Int) + 1 < (d : Int) + 1 + 1 := by omega
      have cmp5 : decide ((d : Int) + 1 < (da : Int)) = false := by simp; omega
      have cmp6 : (da : Int) < (d : Int) + 1 := by omega
      clear hA hB hl hk hp hfl hks hm hge hml
      go_enter Tryd.func76, Tryd.ntmps76
      go_wp2
      have q1 := cell_regrown d1
      have q2 := cell_regrown d2
      refine wp_region_quiet_below (by kernel_rfl) (by kernel_rfl) ?_
      repeat (go_big_quiet_step (fail))
      refine wpQuiet_nil ?_
      intro _ hw'
      obtain ⟨⟨dq, osq⟩, hw''⟩ := hw'
      subst hw''
      have bq := below_regrown w dq osq
      clear q1 q2
      generalize grow (redrawn w dq) osq = w0 at *
      have e1 := cell_after d1 bq
      have e2 := cell_after d2 bq
      clear d1 d2
      go_wp2
      have q1 := cell_regrown e1
      have q2 := cell_regrown e2
      refine wp_region_quiet_below (by kernel_rfl) (by kernel_rfl) ?_
      repeat (go_big_quiet_step (fail))
      refine wpQuiet_nil ?_
      intro _ hw'
      obtain ⟨⟨dq, osq⟩, hw''⟩ := hw'
      subst hw''
      have bq0 := bq
      clear bq
      have bq := bq0.trans ((below_regrown w0 dq osq).mono bq0.size)
      clear q1 q2 e1 e2 bq0
      generalize grow (redrawn w0 dq) osq = w1 at *
      have c7' := cell_after c7 bq
      have pm' := cell_after pm bq
      have HK1 : Hid (∀ k ∈ ks, Nd E w1 d k.1 k.2) := fun k hk => (HK.out k hk).later bq
      have HB1 := Hid.mk4 (HA.out.later bq)
      have HP1 := Hid.mk4 (HP.out.later bq)
      clear c7 pm HK HB HP
      go_wp2
      have r7 := cell_regrown c7'
      have rm := cell_regrown pm'
      have hmc : m ≤ cap := by omega
      refine wp_region_mix [([0, 1, 2, 3, 4, 5, 6, 8, 9, 10, 11, 12], [7]), ([], [13]), ([], [14]), ([], [15]), ([16], [])] (by kernel_rfl) (by kernel_rfl) ?_
      rintro w2 ⟨d2, rfl⟩
      refine wpPlan_cons ?_
      simp only [pickAll, pickAt, List.nil_append, List.cons_append, List.append_nil]
      repeat (go_big_quiet_step (fail))
      refine wpQuiet_nil ?_
      have b1 : Below w.heap.size w (redrawn w1 d2) := bq.trans ((below_redrawn w1 d2).mono bq.size)
      have hkl : Nd E (redrawn w1 d2) d kl.1 kl.2 := (HK1.out kl (by rw [HKS.out]; simp)).later (below_redrawn w1 d2)
      have HFL : Hid (lb = kl.2 ++ ks0.flatMap Prod.snd) := by show _ = _; rw [HF.out, HKS.out]; simp
      have hsum : ks0.length = m ∧ (ks0.flatMap Prod.snd).length + kl.2.length + la.length ≤ 1099511627776 := by
        have := HL.out
        rw [HFL.out, List.length_append] at this
        exact ⟨HM.out, by omega⟩
      have HSUM := Hid.mk4 hsum
      have HI := Hid.mk4 (ih da d (by omega) ga kl.1 la kl.2 (redrawn w1 d2) (HB1.out.later (below_redrawn w1 d2)) hkl (by omega))
      clear hkl hsum r7 rm c7' pm'
      go_wp2_with fail
      refine HI.out.mono ?_
      rintro e w3 ⟨ms, g3, cap3, rfl, hm1, hm2, hmc3, hmf, hmn, hmp, b3⟩
      have HMF := Hid.mk4 hmf
      have HMN := Hid.mk4 hmn
      have HMP := Hid.mk4 hmp
      have b13 : Below w1.heap.size w1 w3 := (below_redrawn w1 d2).trans b3
      clear hmf hmn hmp HI b3
      go_wp2
      refine mixNext_below b13 ?_
      refine wpPlan_cons ?_
      simp only [pickAll, pickAt, List.nil_append, List.cons_append, List.append_nil]
      refine wpQuiet_nil ?_
      go_wp2
      refine mixNext_below (b13.alloc b13.size _) ?_
      have b4 : Below w3.heap.size w3 (w3.alloc (Obj.cells #[.slice (some ⟨g3, 0, none⟩) ms.length cap3, .slice (some ⟨kb, off + 1, none⟩) m (cap - 1)] 96)) := (Below.refl _ _).alloc (Nat.le_refl _) _
      have x0 : (w3.alloc (Obj.cells #[.slice (some ⟨g3, 0, none⟩) ms.length cap3, .slice (some ⟨kb, off + 1, none⟩) m (cap - 1)] 96)).cell? ⟨w3.heap.size, 0, none⟩ = some (.slice (some ⟨g3, 0, none⟩) ms.length cap3) := by rw [cell_of_row _ _ _ _ _ _ (heap_alloc_new w3 _)]; rfl
      have x1 : (w3.alloc (Obj.cells #[.slice (some ⟨g3, 0, none⟩) ms.length cap3, .slice (some ⟨kb, off + 1, none⟩) m (cap - 1)] 96)).cell? ⟨w3.heap.size, 1, none⟩ = some (.slice (some ⟨kb, off + 1, none⟩) m (cap - 1)) := by rw [cell_of_row _ _ _ _ _ _ (heap_alloc_new w3 _)]; rfl
      have b14 : Below w1.heap.size w1 (w3.alloc (Obj.cells #[.slice (some ⟨g3, 0, none⟩) ms.length cap3, .slice (some ⟨kb, off + 1, none⟩) m (cap - 1)] 96)) := b13.trans (b4.mono b13.size)
      have HMP4 := Hid.mk4 (HMP.out.later b4)
      have HMN4 : Hid (∀ k ∈ ms, Nd E (w3.alloc (Obj.cells #[.slice (some ⟨g3, 0, none⟩) ms.length cap3, .slice (some ⟨kb, off + 1, none⟩) m (cap - 1)] 96)) (max da d) k.1 k.2) := fun k hk => (HMN.out k hk).later b4
      generalize w3.alloc (Obj.cells #[.slice (some ⟨g3, 0, none⟩) ms.length cap3, .slice (some ⟨kb, off + 1, none⟩) m (cap - 1)] 96) = w4 at *
      have HPK : Hid (Ptrs w4 kb (off + 1) (ks0.map Prod.fst)) := fun i g hi => by
        have := HP1.out.later b14 (i + 1) g (by rw [HKS.out]; simpa using hi)
        rw [show off + 1 + i = off + (i + 1) from by omega]
        exact this
      have hm0 : 1 ≤ m ∧ m ≤ 2 := by omega
      refine wpPlan_cons ?_
      simp only [pickAll, pickAt, List.nil_append, List.cons_append, List.append_nil]
      refine wpQuiet_nil ?_
      clear HMP HMN b4 b13
      go_wp2_with fail
      refine (concat_n (ms.map Prod.fst) (ks0.map Prod.fst) ms.length m (by simp) (by simp [HM.out]) w3.heap.size g3 0 cap3 kb (off + 1) (cap - 1) w4 (by omega) (by omega) (by omega) x0 x1 HMP4.out HPK.out).mono ?_
      rintro e w5 ⟨g5, cap5, rfl, hc5, hp5, b5⟩
      have HP5 := Hid.mk4 hp5
      have b15 : Below w1.heap.size w1 w5 := b14.trans (b5.mono b14.size)
      have HN5 : Hid (∀ k ∈ ms ++ ks0, Nd E w5 d k.1 k.2) := by
        intro k hk
        rcases (List.mem_append.1 hk).symm with hk | hk
        · exact (HK1.out k (by rw [HKS.out]; simp [hk])).later b15
        · have := (HMN4.out k hk).later b5
          rwa [show max da d = d from by omega] at this
      clear hp5 b5 x0 x1 HPK HMP4 HMN4 b14
      go_wp2
      refine mixNext_below b15 ?_
      refine wpPlan_cons ?_
      simp only [pickAll, pickAt, List.nil_append, List.cons_append, List.append_nil]
      refine wpQuiet_nil ?_
      go_wp2_with fail
      refine (parents_n E d (ms.length + m) (ms ++ ks0) (by rw [List.length_append, HM.out]) g5 0 cap5 w5 (by omega) hdl ?z1 (by omega) hc5 HN5.out (by simpa using HP5.out)).mono ?_
      case z1 =>
        have := HSUM.out.2
        rw [List.flatMap_append, HMF.out, List.length_append, List.length_append]
        omega
      rintro e w6 ⟨us, g6, cap6, rfl, hc6, hl6, hf6, hn6, hp6, b6⟩
      have HF6 := Hid.mk4 hf6
      have HN6 := Hid.mk4 hn6
      have HP6 := Hid.mk4 hp6
      have b16 : Below w1.heap.size w1 w6 := b15.trans (b6.mono b15.size)
      have hl6a : 1 ≤ us.length := by omega
      have hl6b : us.length ≤ 2 := by omega
      clear hf6 hn6 hp6 b6 hl6 HP5 HN5 b15
      go_wp2
      refine mixNext_below b16 ?_
      refine wpPlan_cons ?_
      simp only [pickAll, pickAt, List.nil_append, List.cons_append, List.append_nil]
      repeat (go_big_quiet_step (fail))
      refine wpQuiet_nil ?_
      refine mixNext_below b16 (wpPlan_nil ?_)
      go_wp2
      go_ret
      refine ⟨us, g6, cap6, rfl, hl6a, hl6b, hc6, ?_, ?_, HP6.out, bq.trans (b16.mono bq.size)⟩
      · rw [HF6.out, List.flatMap_append, HMF.out, HFL.out, List.append_assoc]
      · intro k hk
        rw [show max da (d + 1) = d + 1 from by omega]
        exact HN6.out k hk

set_option maxHeartbeats 1000000 in
set_option maxRecDepth 100000 in
/-- join. -/
theorem join_any (E : Env) (va vb : Value) (la lb : List ByteArray) (w : World) (hA : Tr E w va la) (hB : Tr E w vb lb) (hl : la.length + lb.length ≤ 1099511627776) :
    Calls Tryd.prog 69 #[va, vb] w fun e w' => ∃ v, e = .returned v ∧ Tr E w' v (la ++ lb) ∧ Below w.heap.size w w' := by
  rcases hA with ⟨rfl, rfl⟩ | ⟨da, ga, rfl, hA⟩
  · rcases hB with ⟨rfl, rfl⟩ | ⟨db, gb, rfl, hB⟩
    · go_enter Tryd.func69, Tryd.ntmps69
      go_wp2
      go_ret
      exact ⟨_, rfl, Or.inl ⟨rfl, rfl⟩, Below.refl _ _⟩
    · have HB := Hid.mk4 hB
      clear hB
      go_enter Tryd.func69, Tryd.ntmps69
      go_wp2
      go_ret
      exact ⟨_, rfl, Or.inr ⟨db, gb, rfl, by simpa using HB.out⟩, Below.refl _ _⟩
  · rcases hB with ⟨rfl, rfl⟩ | ⟨db, gb, rfl, hB⟩
    · have HA := Hid.mk4 hA
      clear hA
      go_enter Tryd.func69, Tryd.ntmps69
      go_wp2
      go_ret
      exact ⟨_, rfl, Or.inr ⟨da, ga, rfl, by simpa using HA.out⟩, Below.refl _ _⟩
    · have hga := hA.ge
      have hgb := hB.ge
      have HA := Hid.mk4 hA
      have HB := Hid.mk4 hB
      clear hA hB
      go_enter Tryd.func69, Tryd.ntmps69
      go_wp2_with fail
      refine (meld_any E (da + db) da db (Nat.le_refl _) ga gb la lb w HA.out HB.out hl).mono ?_
      rintro e w1 ⟨ks, g, cap, rfl, h1, h2, hc, hf, hn, hp, b1⟩
      have HF := Hid.mk4 hf
      have HN := Hid.mk4 hn
      have HP := Hid.mk4 hp
      clear hf hn hp
      go_wp2_with fail
      refine (only_any E (max da db) ks g 0 cap w1 (by omega) (by omega) (by rw [HF.out, List.length_append]; exact hl) HN.out HP.out).mono ?_
      rintro e w2 ⟨v, rfl, ht, b2⟩
      have HT := Hid.mk4 ht
      clear ht
      go_wp2
      go_ret
      exact ⟨_, rfl, by have := HT.out; rwa [HF.out] at this, b1.trans (b2.mono b1.size)⟩
end Go.Proofs.YtfgefdkkjfjjjaaDoor
