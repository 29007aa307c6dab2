/- head and tail. -/
import Derived.Test.YtfgefdkkjfjjjaaDoorMeld
import Derived.Test.YtfgefdkkjfjjjaaDoorCat
namespace Go.Proofs.YtfgefdkkjfjjjaaDoor
open Go.RowKit Go.Sort
set_option linter.unusedSimpArgs false
set_option linter.unusedVariables false

theorem only_n (E : Env) (d n : Nat) (ks : List (Nat × List ByteArray)) (hn : ks.length = n) (kb off cap : Nat) (w : World) (h3 : n ≤ 3) (hd : d ≤ 1099511627776) (hl : (ks.flatMap Prod.snd).length ≤ 1099511627776)
    (hN : ∀ k ∈ ks, Nd E w d k.1 k.2) (hP : Ptrs w kb off (ks.map Prod.fst)) :
    Calls Tryd.prog 72 #[.slice (some ⟨kb, off, none⟩) n cap] w fun e w' => ∃ v, e = .returned v ∧ Tr E w' v (ks.flatMap Prod.snd) ∧ Below w.heap.size w w' := by
  subst hn
  exact only_any E d ks kb off cap w h3 hd hl hN hP
theorem Ptrs.part {w : World} {kb off : Nat} {gs gs' : List Nat} (h : Ptrs w kb off gs) (n : Nat) (hs : ∀ i g, gs'[i]? = some g → gs[n + i]? = some g) : Ptrs w kb (off + n) gs' := fun i g hi => by
  rw [Nat.add_assoc]
  exact h (n + i) g (hs i g hi)

set_option maxHeartbeats 4000000 in
set_option maxRecDepth 100000 in
/-- head, of a node. -/
theorem head_nd (E : Env) : ∀ (d g : Nat) (ls : List ByteArray) (at0 : Int) (w : World), Nd E w d g ls → ls.length ≤ 1099511627776 →
    Calls Tryd.prog 62 #[.pointer (some ⟨g, 0, none⟩), .int .i64 at0] w fun e w' => ∃ v1, e = .returned v1 ∧ Tr E w' v1 (ls.take at0.toNat) ∧ Below w.heap.size w w' := by
  intro d
  induction d with
  | zero =>
    intro g ls at0 w hN hl
    have c1 := hN.cells.2.1
    obtain ⟨s, hs, _, _⟩ := NdA.leaf hN
    have HN := Hid.mk4 hN
    clear hN
    subst hs
    by_cases h0 : at0 ≤ 0
    · have e0 : at0.toNat = 0 := by omega
      rw [e0]
      go_enter Tryd.func62, Tryd.ntmps62
      go_wp2
      go_ret
      exact ⟨_, rfl, Or.inl ⟨rfl, by simp⟩, Below.refl _ _⟩
    · have h0' : decide (at0 ≤ 0) = false := by simpa using h0
      have h1 : (1 : Int) ≤ at0 := by omega
      have e0 : ∃ n, at0.toNat = n + 1 := ⟨at0.toNat - 1, by omega⟩
      obtain ⟨n, e0⟩ := e0
      rw [e0]
      clear h0
      go_enter Tryd.func62, Tryd.ntmps62
      go_wp2
      go_ret
      exact ⟨_, rfl, Or.inr ⟨0, g, rfl, by simpa using HN.out⟩, Below.refl _ _⟩
  | succ d ih =>
    intro g ls at0 w hN hl
    have c1 := hN.cells.2.1
    have hge := hN.ge
    obtain ⟨ks, kb, off, cap, hc, h2, h3, hk, hfl, c7, hp⟩ := NdA.kids hN
    have HN := Hid.mk4 hN
    clear hN
    by_cases h0 : at0 ≤ 0
    · have e0 : at0.toNat = 0 := by omega
      rw [e0]
      clear c7 hp hk hfl
      go_enter Tryd.func62, Tryd.ntmps62
      go_wp2
      go_ret
      exact ⟨_, rfl, Or.inl ⟨rfl, by simp⟩, Below.refl _ _⟩
    · have h0' : decide (at0 ≤ 0) = false := by simpa using h0
      by_cases h1 : (ls.length : Int) ≤ at0
      · have e0 : ls.length ≤ at0.toNat := by omega
        rw [List.take_of_length_le e0]
        clear c7 hp hk hfl h0
        go_enter Tryd.func62, Tryd.ntmps62
        go_wp2
        go_ret
        exact ⟨_, rfl, Or.inr ⟨d + 1, g, rfl, HN.out⟩, Below.refl _ _⟩
      · have h1' : decide ((ls.length : Int) ≤ at0) = false := by simpa using h1
        obtain ⟨a, rfl⟩ : ∃ a : Nat, at0 = (a : Nat) := ⟨at0.toNat, by omega⟩
        have hal : a < ls.length := by omega
        rw [Int.toNat_natCast]
        have HK := Hid.mk4 hk
        have HP := Hid.mk4 hp
        have HF := Hid.mk4 hfl
        have HW := Hid.mk4 (way_any E (fun _ => True) d g ks kb off cap a w (by rw [← hfl]; exact hl) h3 hk c7 hp (by rw [← hfl]; exact hal))
        have t1 : decide ((a : Int) ≥ (ls.length : Int)) = false := by simp; omega
        have t2 : decide (ls.length ≤ a) = false := by simp; omega
        have t3 : decide ((a : Int) ≤ 0) = false := by simp; omega
        have t4 : decide (a ≤ 0) = false := by simp; omega
        have t5 : (a == 0) = false := by simp; omega
        have t6 : decide (a = 0) = false := by simp; omega
        have t7 : a ≠ 0 := by omega
        clear hk hp hfl h0 h1 h0' h1'
        go_enter Tryd.func62, Tryd.ntmps62
        go_wp2_with fail
        refine HW.out.mono ?_
        rintro e w1 ⟨i, j, k, rfl, hki, haj, hjk, rfl⟩
        have hml : ks.length = i + 1 + (ks.drop (i + 1)).length := by
          have := (List.getElem?_eq_some_iff.1 hki).1
          rw [List.length_drop]
          omega
        obtain ⟨m, hm⟩ : ∃ m, (ks.drop (i + 1)).length = m := ⟨_, rfl⟩
        rw [hm] at hml
        rw [hml] at c7 hc h2 h3
        have HM := Hid.mk4 hm
        have HML := Hid.mk4 hml
        have HAJ := Hid.mk4 haj
        have HTF := Hid.mk4 (take_flat hki)
        have pk : w1.cell? ⟨kb, off + i, none⟩ = some (.pointer (some ⟨k.1, 0, none⟩)) := HP.out i _ (by simp [hki])
        have HSPL : Hid (ks = ks.take i ++ k :: ks.drop (i + 1)) := by
          show _ = _
          obtain ⟨hlt, rfl⟩ := List.getElem?_eq_some_iff.1 hki
          rw [← List.drop_eq_getElem_cons hlt, List.take_append_drop]
        have HLS : Hid (ls = (ks.take i).flatMap Prod.snd ++ (k.2 ++ (ks.drop (i + 1)).flatMap Prod.snd)) := by
          show _ = _
          rw [HF.out]
          conv => lhs; rw [HSPL.out]
          rw [List.flatMap_append, List.flatMap_cons]
        have hln : ((ks.take i).flatMap Prod.snd).length + (k.2.length + ((ks.drop (i + 1)).flatMap Prod.snd).length) ≤ 1099511627776 := by
          have := congrArg List.length HLS.out
          rw [List.length_append, List.length_append] at this
          omega
        have HLN := Hid.mk4 hln
        have HI : Hid (∀ W, Below w1.heap.size w1 W → Calls Tryd.prog 62 #[.pointer (some ⟨k.1, 0, none⟩), .int .i64 (j : Nat)] W fun e w' => ∃ v1, e = .returned v1 ∧ Tr E w' v1 (k.2.take j) ∧ Below W.heap.size W w') := fun W hW => by
          have := ih k.1 k.2 (j : Nat) W ((HK.out k (List.mem_of_getElem? hki)).later hW) (by omega)
          rw [Int.toNat_natCast] at this
          exact this
        clear hm hml hki haj HW t1 t2 t3 t4 t5 t6 t7 hln
        go_wp2
        have r7 := cell_regrown c7
        have rp := cell_regrown pk
        have hic : i ≤ cap := by omega
        refine wp_region_mix [([0, 1, 2, 3, 4, 5, 7, 8, 9, 10, 11, 12, 13, 14], [6]), ([], [15]), ([], [16]), ([17], [])] (by kernel_rfl) (by kernel_rfl) ?_
        rintro w2 ⟨d2, rfl⟩
        refine wpPlan_cons ?_
        simp only [pickAll, pickAt, List.nil_append, List.cons_append, List.append_nil]
        clear c7 pk c1
        repeat (go_big_quiet_step (fail))
        refine wpQuiet_nil ?_
        have HPA : Hid (Ptrs w1 kb off ((ks.take i).map Prod.fst)) := by
          have := HP.out.part (gs' := (ks.take i).map Prod.fst) 0 (fun x g hx => by
            rw [List.getElem?_map] at hx ⊢
            rw [Nat.zero_add]
            rw [List.getElem?_take] at hx
            split at hx
            · exact hx
            · cases hx)
          exact this
        have hlen1 : (ks.take i).length = i := by have := HML.out; rw [List.length_take]; omega
        have hd : d ≤ 1099511627776 := by omega
        clear r7 rp
        go_wp2_with fail
        refine (only_n E d i (ks.take i) hlen1 kb off cap (redrawn w1 d2) (by omega) hd (by have := HLN.out; omega) (fun k hk => (HK.out k (List.mem_of_mem_take hk)).later (below_redrawn w1 d2)) (HPA.out.later (below_redrawn w1 d2))).mono ?_
        rintro e w3 ⟨o1, rfl, ho1, b3⟩
        have HO1 := Hid.mk4 ho1
        have b13 : Below w1.heap.size w1 w3 := (below_redrawn w1 d2).trans b3
        clear ho1 b3 HPA hlen1
        go_wp2
        refine mixNext_below b13 ?_
        refine wpPlan_cons ?_
        simp only [pickAll, pickAt, List.nil_append, List.cons_append, List.append_nil]
        refine wpQuiet_nil ?_
        go_wp2_with fail
        refine (HI.out w3 b13).mono ?_
        rintro e w4 ⟨v1, rfl, hv1, b4⟩
        have HV1 := Hid.mk4 hv1
        have HO2 := Hid.mk4 (HO1.out.later b4)
        have b14 : Below w1.heap.size w1 w4 := b13.trans (b4.mono b13.size)
        clear hv1 b4 HO1 b13 HI
        go_wp2
        refine mixNext_below b14 ?_
        refine wpPlan_cons ?_
        simp only [pickAll, pickAt, List.nil_append, List.cons_append, List.append_nil]
        refine wpQuiet_nil ?_
        go_wp2_with fail
        refine (join_any E o1 v1 _ _ w4 HO2.out HV1.out (by have := HLN.out; rw [List.length_take]; omega)).mono ?_
        rintro e w5 ⟨x1, rfl, hx1, b5⟩
        have HX1 := Hid.mk4 hx1
        have b15 : Below w1.heap.size w1 w5 := b14.trans (b5.mono b14.size)
        clear hx1 b5 HO2 HV1 b14
        go_wp2
        refine mixNext_below b15 ?_
        refine wpPlan_cons ?_
        simp only [pickAll, pickAt, List.nil_append, List.cons_append, List.append_nil]
        repeat (go_big_quiet_step (fail))
        refine wpQuiet_nil ?_
        refine mixNext_below b15 (wpPlan_nil ?_)
        go_wp2
        go_ret
        refine ⟨x1, rfl, ?_, b15⟩
        have := HX1.out
        rw [HLS.out, HAJ.out, List.take_append, List.take_of_length_le (by omega), Nat.add_sub_cancel_left, List.take_append, show j - k.2.length = 0 from by omega, List.take_zero, List.append_nil]
        exact this

set_option maxHeartbeats 4000000 in
set_option maxRecDepth 100000 in
/-- tail, of a node. -/
theorem tail_nd (E : Env) : ∀ (d g : Nat) (ls : List ByteArray) (at0 : Int) (w : World), Nd E w d g ls → ls.length ≤ 1099511627776 →
    Calls Tryd.prog 61 #[.pointer (some ⟨g, 0, none⟩), .int .i64 at0] w fun e w' => ∃ v1, e = .returned v1 ∧ Tr E w' v1 (ls.drop at0.toNat) ∧ Below w.heap.size w w' := by
  intro d
  induction d with
  | zero =>
    intro g ls at0 w hN hl
    have c1 := hN.cells.2.1
    obtain ⟨s, hs, _, _⟩ := NdA.leaf hN
    have HN := Hid.mk4 hN
    clear hN
    subst hs
    by_cases h0 : at0 ≤ 0
    · have e0 : at0.toNat = 0 := by omega
      rw [e0]
      go_enter Tryd.func61, Tryd.ntmps61
      go_wp2
      go_ret
      exact ⟨_, rfl, Or.inr ⟨0, g, rfl, by simpa using HN.out⟩, Below.refl _ _⟩
    · have h0' : decide (at0 ≤ 0) = false := by simpa using h0
      have h1 : (1 : Int) ≤ at0 := by omega
      have e0 : ∃ n, at0.toNat = n + 1 := ⟨at0.toNat - 1, by omega⟩
      obtain ⟨n, e0⟩ := e0
      rw [e0]
      clear h0
      go_enter Tryd.func61, Tryd.ntmps61
      go_wp2
      go_ret
      exact ⟨_, rfl, Or.inl ⟨rfl, by simp⟩, Below.refl _ _⟩
  | succ d ih =>
    intro g ls at0 w hN hl
    have c1 := hN.cells.2.1
    have hge := hN.ge
    obtain ⟨ks, kb, off, cap, hc, h2, h3, hk, hfl, c7, hp⟩ := NdA.kids hN
    have HN := Hid.mk4 hN
    clear hN
    by_cases h0 : at0 ≤ 0
    · have e0 : at0.toNat = 0 := by omega
      rw [e0]
      clear c7 hp hk hfl
      go_enter Tryd.func61, Tryd.ntmps61
      go_wp2
      go_ret
      exact ⟨_, rfl, Or.inr ⟨d + 1, g, rfl, by simpa using HN.out⟩, Below.refl _ _⟩
    · have h0' : decide (at0 ≤ 0) = false := by simpa using h0
      by_cases h1 : (ls.length : Int) ≤ at0
      · have e0 : ls.length ≤ at0.toNat := by omega
        rw [List.drop_of_length_le e0]
        clear c7 hp hk hfl h0
        go_enter Tryd.func61, Tryd.ntmps61
        go_wp2
        go_ret
        exact ⟨_, rfl, Or.inl ⟨rfl, rfl⟩, Below.refl _ _⟩
      · have h1' : decide ((ls.length : Int) ≤ at0) = false := by simpa using h1
        obtain ⟨a, rfl⟩ : ∃ a : Nat, at0 = (a : Nat) := ⟨at0.toNat, by omega⟩
        have hal : a < ls.length := by omega
        rw [Int.toNat_natCast]
        have HK := Hid.mk4 hk
        have HP := Hid.mk4 hp
        have HF := Hid.mk4 hfl
        have HW := Hid.mk4 (way_any E (fun _ => True) d g ks kb off cap a w (by rw [← hfl]; exact hl) h3 hk c7 hp (by rw [← hfl]; exact hal))
        have t1 : decide ((a : Int) ≥ (ls.length : Int)) = false := by simp; omega
        have t2 : decide (ls.length ≤ a) = false := by simp; omega
        have t3 : decide ((a : Int) ≤ 0) = false := by simp; omega
        have t4 : decide (a ≤ 0) = false := by simp; omega
        have t5 : (a == 0) = false := by simp; omega
        have t6 : decide (a = 0) = false := by simp; omega
        have t7 : a ≠ 0 := by omega
        clear hk hp hfl h0 h1 h0' h1'
        go_enter Tryd.func61, Tryd.ntmps61
        go_wp2_with fail
        refine HW.out.mono ?_
        rintro e w1 ⟨i, j, k, rfl, hki, haj, hjk, rfl⟩
        have hml : ks.length = i + 1 + (ks.drop (i + 1)).length := by
          have := (List.getElem?_eq_some_iff.1 hki).1
          rw [List.length_drop]
          omega
        obtain ⟨m, hm⟩ : ∃ m, (ks.drop (i + 1)).length = m := ⟨_, rfl⟩
        rw [hm] at hml
        rw [hml] at c7 hc h2 h3
        have HM := Hid.mk4 hm
        have HML := Hid.mk4 hml
        have HAJ := Hid.mk4 haj
        have HTF := Hid.mk4 (take_flat hki)
        have pk : w1.cell? ⟨kb, off + i, none⟩ = some (.pointer (some ⟨k.1, 0, none⟩)) := HP.out i _ (by simp [hki])
        have HSPL : Hid (ks = ks.take i ++ k :: ks.drop (i + 1)) := by
          show _ = _
          obtain ⟨hlt, rfl⟩ := List.getElem?_eq_some_iff.1 hki
          rw [← List.drop_eq_getElem_cons hlt, List.take_append_drop]
        have HLS : Hid (ls = (ks.take i).flatMap Prod.snd ++ (k.2 ++ (ks.drop (i + 1)).flatMap Prod.snd)) := by
          show _ = _
          rw [HF.out]
          conv => lhs; rw [HSPL.out]
          rw [List.flatMap_append, List.flatMap_cons]
        have hln : ((ks.take i).flatMap Prod.snd).length + (k.2.length + ((ks.drop (i + 1)).flatMap Prod.snd).length) ≤ 1099511627776 := by
          have := congrArg List.length HLS.out
          rw [List.length_append, List.length_append] at this
          omega
        have HLN := Hid.mk4 hln
        have HI : Hid (∀ W, Below w1.heap.size w1 W → Calls Tryd.prog 61 #[.pointer (some ⟨k.1, 0, none⟩), .int .i64 (j : Nat)] W fun e w' => ∃ v1, e = .returned v1 ∧ Tr E w' v1 (k.2.drop j) ∧ Below W.heap.size W w') := fun W hW => by
          have := ih k.1 k.2 (j : Nat) W ((HK.out k (List.mem_of_getElem? hki)).later hW) (by omega)
          rw [Int.toNat_natCast] at this
          exact this
        clear hm hml hki haj HW t1 t2 t3 t4 t5 t6 t7 hln
        go_wp2
        have r7 := cell_regrown c7
        have rp := cell_regrown pk
        have hic : i ≤ cap := by omega
        obtain ⟨o2, ho2, hpo⟩ : ∃ o2, (if cap = i + 1 then some (⟨kb, off, none⟩ : Addr) else some ⟨kb, off + (i + 1), none⟩) = some ⟨kb, o2, none⟩ ∧ Ptrs w1 kb o2 ((ks.drop (i + 1)).map Prod.fst) := by
          by_cases hci : cap = i + 1
          · have : ks.drop (i + 1) = [] := List.eq_nil_of_length_eq_zero (by have := HM.out; omega)
            exact ⟨off, by rw [if_pos hci], by rw [this]; intro x g hx; simp at hx⟩
          · refine ⟨off + (i + 1), by rw [if_neg hci], HP.out.part (i + 1) (fun x g hx => ?_)⟩
            rw [List.getElem?_map] at hx ⊢
            rw [List.getElem?_drop] at hx
            exact hx
        have HPO := Hid.mk4 hpo
        clear hpo
        refine wp_region_mix [([0, 1, 2, 3, 4, 5, 6, 7, 9, 10, 11, 12, 13, 14, 15], [8]), ([], [16]), ([], [17]), ([18], [])] (by kernel_rfl) (by kernel_rfl) ?_
        rintro w2 ⟨d2, rfl⟩
        refine wpPlan_cons ?_
        simp only [pickAll, pickAt, List.nil_append, List.cons_append, List.append_nil]
        clear c7 pk c1
        repeat (go_big_quiet_step (fail))
        refine wpQuiet_nil ?_
        have hd : d ≤ 1099511627776 := by omega
        clear r7 rp
        go_wp2_with fail
        refine (HI.out _ (below_redrawn w1 d2)).mono ?_
        rintro e w3 ⟨v1, rfl, hv1, b3⟩
        have HV1 := Hid.mk4 hv1
        have b13 : Below w1.heap.size w1 w3 := (below_redrawn w1 d2).trans b3
        clear hv1 b3 HI
        go_wp2
        refine mixNext_below b13 ?_
        refine wpPlan_cons ?_
        simp only [pickAll, pickAt, List.nil_append, List.cons_append, List.append_nil]
        refine wpQuiet_nil ?_
        go_wp2_with fail
        refine (only_n E d m (ks.drop (i + 1)) HM.out kb o2 (cap - (i + 1)) w3 (by omega) hd (by have := HLN.out; omega) (fun k hk => (HK.out k (List.mem_of_mem_drop hk)).later b13) (HPO.out.later b13)).mono ?_
        rintro e w4 ⟨y1, rfl, hy1, b4⟩
        have HY1 := Hid.mk4 hy1
        have HV2 := Hid.mk4 (HV1.out.later b4)
        have b14 : Below w1.heap.size w1 w4 := b13.trans (b4.mono b13.size)
        clear hy1 b4 HV1 b13
        go_wp2
        refine mixNext_below b14 ?_
        refine wpPlan_cons ?_
        simp only [pickAll, pickAt, List.nil_append, List.cons_append, List.append_nil]
        refine wpQuiet_nil ?_
        go_wp2_with fail
        refine (join_any E v1 y1 _ _ w4 HV2.out HY1.out (by have := HLN.out; rw [List.length_drop]; omega)).mono ?_
        rintro e w5 ⟨z1, rfl, hz1, b5⟩
        have HZ1 := Hid.mk4 hz1
        have b15 : Below w1.heap.size w1 w5 := b14.trans (b5.mono b14.size)
        clear hz1 b5 HV2 HY1 b14
        go_wp2
        refine mixNext_below b15 ?_
        refine wpPlan_cons ?_
        simp only [pickAll, pickAt, List.nil_append, List.cons_append, List.append_nil]
        repeat (go_big_quiet_step (fail))
        refine wpQuiet_nil ?_
        refine mixNext_below b15 (wpPlan_nil ?_)
        go_wp2
        go_ret
        refine ⟨z1, rfl, ?_, b15⟩
        have := HZ1.out
        rw [HLS.out, HAJ.out, List.drop_append, List.drop_of_length_le (by omega), Nat.add_sub_cancel_left, List.drop_append, show j - k.2.length = 0 from by omega, List.drop_zero, List.nil_append]
        exact this
end Go.Proofs.YtfgefdkkjfjjjaaDoor
