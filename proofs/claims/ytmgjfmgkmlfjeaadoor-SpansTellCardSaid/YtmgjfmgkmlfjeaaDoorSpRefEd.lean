/- The reference's Edit. -/
import Derived.Test.YtmgjfmgkmlfjeaaDoorSpEditP
import Derived.Test.YtmgjfmgkmlfjeaaDoorSpRefIs
import Derived.Test.YtmgjfmgkmlfjeaaDoorSpRefFew
import Derived.Test.YtmgjfmgkmlfjeaaDoorOffRefB
namespace Go.Proofs.YtmgjfmgkmlfjeaaDoor
open Go.RowKit Go.Sort
set_option linter.unusedSimpArgs false
set_option linter.unusedVariables false

set_option maxHeartbeats 16000000 in
set_option maxRecDepth 100000 in
theorem redit_any15 {w : World} {v ev : Value} {L : List Sp} {es : List El} (base : Int) (h : SpAt w v L) (he : ElAt w ev es) (hsm : Sm es 281474976710656) :
    Calls Tryd.prog 10 #[v, .agg #[.int .i64 base, ev]] w fun e w' => ∃ v', e = .returned (.tuple #[v', .int .i64 (edE base es L)]) ∧ SpAt w' v' (edL base es L) ∧ Below w.heap.size w w' := by
  obtain ⟨ea, ecap, rfl, _⟩ := id he
  obtain ⟨W, hW⟩ : ∃ W, W = w.alloc (.cells #[.int .i64 base, .slice ea es.length ecap] 27) := ⟨_, rfl⟩
  have b0 : Below w.heap.size w W := by rw [hW]; exact below15 (Below.refl w.heap.size w) _
  have RD0 : Hid (Rd W w.heap.size (.int .i64 base) (.slice ea es.length ecap)) := by rw [hW]; exact Rd.new w _ _
  have HV0 := Hid.mk7 (h.later b0)
  have HE0 := Hid.mk7 (he.later b0)
  have HB0 := Hid.mk7 b0
  have HI0 := Hid.mk7 (ris_any base HE0.out (hsm.mono (by decide)))
  have r0 := RD0.out.c0
  have r1 := RD0.out.c1
  clear h he b0
  go_enter Tryd.func10, Tryd.ntmps10
  go_upto_region 1 with fail
  rw [← hW]
  clear hW
  cases hi : isB base es with
  | false =>
    obtain ⟨e1, e2⟩ := edE_no (base := base) (es := es) (L := L) (by simp [hi])
    have E1 := Hid.mk7 e1
    have E2 := Hid.mk7 e2
    rw [hi] at HI0
    clear e1 e2 hi
    go_wp2_with fail
    refine HI0.out.mono ?_
    rintro e w1 ⟨rfl, b1⟩
    have HB1 := Hid.mk7 (HB0.out.trans (b1.mono HB0.out.size))
    clear b1 HI0 r0 r1
    go_wp2
    go_ret2
    exact ⟨_, tup15 E1.out.symm, nil_put E2.out, HB1.out⟩
  | true =>
    rw [hi] at HI0
    go_wp2_with fail
    refine HI0.out.mono ?_
    rintro e w0 ⟨rfl, b1⟩
    have HB0' := Hid.mk7 (HB0.out.trans (b1.mono HB0.out.size))
    have RD0' := Hid.mk7 (RD0.out.later b1)
    have HV0' := Hid.mk7 (HV0.out.later b1)
    have HE0' := Hid.mk7 (HE0.out.later b1)
    clear b1 HI0 r0 r1 HB0 RD0 HV0 HE0
    have HS1 := Hid.mk7 (ris15_any base HV0'.out)
    have r0 := RD0'.out.c0
    have r1 := RD0'.out.c1
    cases his : isS base L with
    | false =>
      obtain ⟨e1, e2⟩ := edE_no (base := base) (es := es) (L := L) (by simp [his])
      have E1 := Hid.mk7 e1
      have E2 := Hid.mk7 e2
      rw [his] at HS1
      clear e1 e2 hi his
      go_wp2_with fail
      refine HS1.out.mono ?_
      rintro e w2 ⟨rfl, b2⟩
      have HB2 := Hid.mk7 (HB0'.out.trans (b2.mono HB0'.out.size))
      clear b2 HS1 r0 r1
      go_wp2
      go_ret2
      exact ⟨_, tup15 E1.out.symm, nil_put E2.out, HB2.out⟩
    | true =>
      obtain ⟨e1, e2⟩ := edE_ok (base := base) (es := es) (L := L) ⟨hi, his⟩
      have E1 := Hid.mk7 e1
      have E2 := Hid.mk7 e2
      rw [his] at HS1
      have hlen := (isS_spec.1 his).1
      clear e1 e2 hi his
      go_wp2_with fail
      refine HS1.out.mono ?_
      rintro e w1 ⟨rfl, b2⟩
      have HB1 := Hid.mk7 (HB0'.out.trans (b2.mono HB0'.out.size))
      have D1 := Hid.mk7 (RD0'.out.later b2)
      have HV1 := Hid.mk7 (HV0'.out.later b2)
      have HE1 := Hid.mk7 (HE0'.out.later b2)
      clear b2 HS1 r0 r1 HB0' RD0' HV0' HE0'
      obtain ⟨i0, hi0, hz0, hz1, hz2⟩ := info_parts Tryd.info_sp
      obtain ⟨a, cap, rfl, hcap, _, hcells⟩ := HV1.out
      have HC := Hid.mk7 hcells
      have HI := Hid.mk7 hi0
      have HD1 := Hid.mk7 D1.out.lt
      clear HV1 hcells hi0
      go_wp2
      go_loopw [6, 7] (fun av iv wr => ∃ k : Nat, k ≤ L.length ∧ iv = .int .i64 (k : Nat) ∧ Hid (OwnP 24 wr w1.heap.size av (movS base es (L.take k))) ∧ Below w1.heap.size w1 wr) (fun _ iv _ => L.length - (intOf iv).toNat)
      case atStart => exact ⟨0, Nat.zero_le _, rfl, OwnP.nil _ _ _, Below.refl _ _⟩
      case round =>
        obtain ⟨k, hk, rfl, HO, hb⟩ := hrel
        have hml : (movS base es (L.take k)).length ≤ 1000 := by rw [movS_len]; simp; omega
        by_cases hlt : k < L.length
        · obtain ⟨⟨x, y, z⟩, hr⟩ : ∃ r, L[k]? = some r := ⟨L[k], List.getElem?_eq_getElem hlt⟩
          obtain ⟨g, off, rfl, q0, q1, q2⟩ := HC.out k _ hr
          simp only at q0 q1 q2
          have Q0 := Hid.mk7 q0
          have Q1 := Hid.mk7 q1
          have Q2 := Hid.mk7 q2
          have HTK := Hid.mk7 (movS_take (base := base) (es := es) hr)
          have HBW := Hid.mk7 hb
          have HLT : Hid (∀ j, u6.ownBlock = some j → j < wr.heap.size) := fun j hj => (World.ownsRow.lt HO.out j hj).2
          have HRI : Hid (∀ W, Below w1.heap.size w1 W → _) := fun W hW => rinterval_any base x y (HE1.out.later hW) hsm
          have hszw := hb.size
          clear q0 q1 q2 hr hb
          generalize mvV base es x true = A at *
          generalize mvV base es y false = B at *
          go_wp2_with fail
          refine wp_region_turns (fun w' => ∃ q : (GW (fun W => Below w1.heap.size w1 W)), w' = q.w) [0, 1, 2, 3, 4, 5, 6, 7, 8, 9, 10] 14 4 (by kernel_rfl) (by kernel_rfl) (fun d => ⟨⟨redrawn wr d, HBW.out.trans ((redrawn15 wr d).mono HBW.out.size)⟩, rfl⟩) ?_
          intro d
          have k0 : ∀ q : (GW (fun W => Below w1.heap.size w1 W)), q.w.cell? ⟨w.heap.size, 0, none⟩ = some (.int .i64 base) := fun q => (D1.out.later q.h).c0
          have k1 : ∀ q : (GW (fun W => Below w1.heap.size w1 W)), q.w.cell? ⟨w.heap.size, 1, none⟩ = some (.slice ea es.length ecap) := fun q => (D1.out.later q.h).c1
          have k2 : ∀ q : (GW (fun W => Below w1.heap.size w1 W)), q.w.cell? ⟨g, off + k * 3, none⟩ = some (.int .i64 x) := fun q => cell_later7 q.h (Nat.le_refl _) Q0.out
          have k3 : ∀ q : (GW (fun W => Below w1.heap.size w1 W)), q.w.cell? ⟨g, off + k * 3 + 1, none⟩ = some (.int .i64 y) := fun q => cell_later7 q.h (Nat.le_refl _) Q1.out
          simp only [pickAll, pickAt, List.nil_append, List.cons_append, List.append_nil]
          have hne : Nonempty (GW (fun W => Below w1.heap.size w1 W)) := ⟨⟨wr, HBW.out⟩⟩
          repeat (go_big_quiet_step (fail))
          refine wpQuiet_nil ?_
          clear hne k0 k1 k2 k3
          have R0 := Hid.mk7 (redrawn15 wr d)
          generalize redrawn wr d = x0 at *
          refine anyC_pick2 11 13 (by kernel_rfl) (by kernel_rfl) (by kernel_rfl) ?_ ?_
          · simp only [pickAll, pickAt, List.nil_append, List.cons_append, List.append_nil]
            go_wp2
            refine anyNext_mk ⟨⟨_, (HBW.out.trans (R0.out.mono HBW.out.size))⟩, rfl⟩ ?_
            refine anyC_pick2 12 13 (by kernel_rfl) (by kernel_rfl) (by kernel_rfl) ?_ ?_
            · simp only [pickAll, pickAt, List.nil_append, List.cons_append, List.append_nil]
              go_wp2_with fail
              refine (HRI.out _ (HBW.out.trans (R0.out.mono HBW.out.size))).mono ?_
              rintro e x1 ⟨rfl, b1⟩
              have R1 := Hid.mk7 (R0.out.trans (b1.mono R0.out.size))
              clear b1 R0
              go_wp2
              refine anyNext_mk ⟨⟨_, (HBW.out.trans (R1.out.mono HBW.out.size))⟩, rfl⟩ ?_
              refine anyC_pick1 13 (by kernel_rfl) (by kernel_rfl) ?_
              simp only [pickAll, pickAt, List.nil_append, List.cons_append, List.append_nil]
              go_wp2
              have R2 := Hid.mk7 (below15 R1.out (.cells #[.int .i64 0, .int .i64 0] 29))
              have S2 := Hid.mk7 (Rv.new x1 (.int .i64 0) (.int .i64 0))
              have HSS := Hid.mk7 R1.out.size
              clear R1
              generalize x1.alloc (.cells #[.int .i64 0, .int .i64 0] 29) = x2 at *
              generalize x1.heap.size = s at *
              refine anyNext_mk ⟨⟨_, (HBW.out.trans (R2.out.mono HBW.out.size))⟩, rfl⟩ ?_
              refine anyC_pick1 14 (by kernel_rfl) (by kernel_rfl) ?_
              simp only [pickAll, pickAt, List.nil_append, List.cons_append, List.append_nil]
              have fz := S2.out.fz
              have z0 := S2.out.c0
              have z1 := S2.out.c1
              have hls := S2.out.lt
              go_wp2
              have S8 := Hid.mk7 (S2.out.set (.int .i64 A) (.int .i64 (max A B)))
              have R8 : Hid (Below wr.heap.size wr ((x2.setCell ⟨s, 0, none⟩ (.int .i64 A)).setCell ⟨s, 1, none⟩ (.int .i64 (max A B)))) := (R2.out.setCell (p := ⟨s, 0, none⟩) HSS.out _).setCell (p := ⟨s, 1, none⟩) HSS.out _
              clear fz z0 z1 hls S2 R2
              generalize (x2.setCell ⟨s, 0, none⟩ (.int .i64 A)).setCell ⟨s, 1, none⟩ (.int .i64 (max A B)) = x8 at *
              refine anyNext_last (anyC_done (by kernel_rfl) ?_)
              go_wp2_with fail
              refine wp_region_turns (fun w' => ∃ q : (GW (fun W => Below w1.heap.size w1 W ∧ Rv W s (.int .i64 A) (.int .i64 (max A B)))), w' = q.w) [0, 1, 2, 3, 4, 5, 6, 7, 8, 9] 13 4 (by kernel_rfl) (by kernel_rfl) (fun d => ⟨⟨redrawn x8 d, (HBW.out.trans (R8.out.mono HBW.out.size)).trans ((redrawn15 x8 d).mono (HBW.out.trans (R8.out.mono HBW.out.size)).size), S8.out.later (redrawn15 x8 d)⟩, rfl⟩) ?_
              intro d2
              have k0 : ∀ q : (GW (fun W => Below w1.heap.size w1 W ∧ Rv W s (.int .i64 A) (.int .i64 (max A B)))), q.w.cell? ⟨s, 0, none⟩ = some (.int .i64 A) := fun q => q.h.2.c0
              have k1 : ∀ q : (GW (fun W => Below w1.heap.size w1 W ∧ Rv W s (.int .i64 A) (.int .i64 (max A B)))), q.w.cell? ⟨s, 1, none⟩ = some (.int .i64 (max A B)) := fun q => q.h.2.c1
              have k2 : ∀ q : (GW (fun W => Below w1.heap.size w1 W ∧ Rv W s (.int .i64 A) (.int .i64 (max A B)))), q.w.cell? ⟨g, off + k * 3 + 2, none⟩ = some (.int .i64 z) := fun q => cell_later7 q.h.1 (Nat.le_refl _) Q2.out
              simp only [pickAll, pickAt, List.nil_append, List.cons_append, List.append_nil]
              have hne : Nonempty (GW (fun W => Below w1.heap.size w1 W ∧ Rv W s (.int .i64 A) (.int .i64 (max A B)))) := ⟨⟨x8, (HBW.out.trans (R8.out.mono HBW.out.size)), S8.out⟩⟩
              repeat (go_big_quiet_step (fail))
              refine wpQuiet_nil ?_
              clear hne k0 k1 k2
              have bb := redrawn15 x8 d2
              have S9 := Hid.mk7 (S8.out.later bb)
              have R9 := Hid.mk7 (R8.out.trans (bb.mono R8.out.size))
              have HO9 := Hid.mk7 (HO.out.later R9.out)
              have HB9 := Hid.mk7 (HBW.out.trans (R9.out.mono HBW.out.size))
              clear bb S8 R8
              generalize redrawn x8 d2 = x9 at *
              refine anyC_pick1 10 (by kernel_rfl) (by kernel_rfl) ?_
              simp only [pickAll, pickAt, List.nil_append, List.cons_append, List.append_nil]
              go_wp2
              refine anyNext_mk ⟨⟨_, HB9.out, S9.out⟩, rfl⟩ ?_
              refine anyC_pick1 11 (by kernel_rfl) (by kernel_rfl) ?_
              simp only [pickAll, pickAt, List.nil_append, List.cons_append, List.append_nil]
              go_wp2
              have hsz9 := R9.out.size
              have hsz10 := HB9.out.size
              have HO10 := Hid.mk7 (HO9.out.alloc (.cells #[.int .i64 A, .int .i64 (max A B), .int .i64 z] 24))
              have HB10 := Hid.mk7 (below15 HB9.out (.cells #[.int .i64 A, .int .i64 (max A B), .int .i64 z] 24))
              have S10 := Hid.mk7 (S9.out.alloc (.cells #[.int .i64 A, .int .i64 (max A B), .int .i64 z] 24))
              refine anyNext_mk ⟨⟨_, HB10.out, S10.out⟩, rfl⟩ ?_
              refine anyC_pick1 12 (by kernel_rfl) (by kernel_rfl) ?_
              simp only [pickAll, pickAt, List.nil_append, List.cons_append, List.append_nil]
              go_wp2_with (at_builtin; refine wpList_append_own _ rfl _ _ 22 rfl w1.heap.size 24 i0 (.agg #[.int .i64 0, .int .i64 0, .int .i64 0]) 3 24 Tryd.underlying22 HI.out hz0 hz1 hz2 rfl (by decide) _ _ _ rfl HO10.out ⟨_, 0, none⟩ 1 1 [.int .i64 A, .int .i64 (max A B), .int .i64 z] rfl rfl (three15 rfl _ _ _ _) (fun u hu => by simp at hu; rcases hu with rfl | rfl | rfl <;> rfl) (by unfold maxLen; omega) (by omega) (by simp; omega) ?_)
              intro v' w5 hown' hgrow _
              have HO5 : Hid (OwnP 24 w5 w1.heap.size v' (movS base es (L.take (k + 1)))) := by
                show OwnP _ _ _ _ _
                rw [HTK.out]
                unfold OwnP
                rw [List.length_append, t3_append, t3_one]
                exact hown'
              have HB5 : Hid (Below w1.heap.size w1 w5) := HB10.out.grown hgrow (by simp; omega) (fun j hj => by exact (World.ownsRow.lt (HO10.out) j hj).1)
              have S5 : Hid (Rv w5 s (.int .i64 A) (.int .i64 (max A B))) := (hgrow.block s S10.out.lt (fun e => by have h1 := HLT.out s e.symm; have h2 := HSS.out; omega)).trans S10.out
              clear HO9 HO10 HB9 HB10 S9 S10 hown' hgrow
              go_wp2
              refine anyNext_mk ⟨⟨_, HB5.out, S5.out⟩, rfl⟩ ?_
              refine anyC_pick1 13 (by kernel_rfl) (by kernel_rfl) ?_
              simp only [pickAll, pickAt, List.nil_append, List.cons_append, List.append_nil]
              go_wp2
              refine anyNext_last (anyC_done (by kernel_rfl) ?_)
              go_wp2
              go_roundw
              case rel => exact ⟨k + 1, by omega, by go_num, HO5, HB5.out⟩
              case measure => simp [intOf]; omega
            · simp only [pickAll, pickAt, List.nil_append, List.cons_append, List.append_nil]
              go_wp2
              have R1 := Hid.mk7 (below15 R0.out (.cells #[.int .i64 0, .int .i64 0] 29))
              have S1 := Hid.mk7 (Rv.new x0 (.int .i64 0) (.int .i64 0))
              have HSS := Hid.mk7 R0.out.size
              clear R0
              generalize x0.alloc (.cells #[.int .i64 0, .int .i64 0] 29) = x1 at *
              generalize x0.heap.size = s at *
              refine anyNext_mk ⟨⟨_, (HBW.out.trans (R1.out.mono HBW.out.size))⟩, rfl⟩ ?_
              refine anyC_pick1 12 (by kernel_rfl) (by kernel_rfl) ?_
              simp only [pickAll, pickAt, List.nil_append, List.cons_append, List.append_nil]
              go_wp2_with fail
              refine (HRI.out _ (HBW.out.trans (R1.out.mono HBW.out.size))).mono ?_
              rintro e x2 ⟨rfl, b2⟩
              have R2 := Hid.mk7 (R1.out.trans (b2.mono R1.out.size))
              have S2 := Hid.mk7 (S1.out.later b2)
              clear b2 R1 S1
              go_wp2
              refine anyNext_mk ⟨⟨_, (HBW.out.trans (R2.out.mono HBW.out.size))⟩, rfl⟩ ?_
              refine anyC_pick1 14 (by kernel_rfl) (by kernel_rfl) ?_
              simp only [pickAll, pickAt, List.nil_append, List.cons_append, List.append_nil]
              have fz := S2.out.fz
              have z0 := S2.out.c0
              have z1 := S2.out.c1
              have hls := S2.out.lt
              go_wp2
              have S8 := Hid.mk7 (S2.out.set (.int .i64 A) (.int .i64 (max A B)))
              have R8 : Hid (Below wr.heap.size wr ((x2.setCell ⟨s, 0, none⟩ (.int .i64 A)).setCell ⟨s, 1, none⟩ (.int .i64 (max A B)))) := (R2.out.setCell (p := ⟨s, 0, none⟩) HSS.out _).setCell (p := ⟨s, 1, none⟩) HSS.out _
              clear fz z0 z1 hls S2 R2
              generalize (x2.setCell ⟨s, 0, none⟩ (.int .i64 A)).setCell ⟨s, 1, none⟩ (.int .i64 (max A B)) = x8 at *
              refine anyNext_last (anyC_done (by kernel_rfl) ?_)
              go_wp2_with fail
              refine wp_region_turns (fun w' => ∃ q : (GW (fun W => Below w1.heap.size w1 W ∧ Rv W s (.int .i64 A) (.int .i64 (max A B)))), w' = q.w) [0, 1, 2, 3, 4, 5, 6, 7, 8, 9] 13 4 (by kernel_rfl) (by kernel_rfl) (fun d => ⟨⟨redrawn x8 d, (HBW.out.trans (R8.out.mono HBW.out.size)).trans ((redrawn15 x8 d).mono (HBW.out.trans (R8.out.mono HBW.out.size)).size), S8.out.later (redrawn15 x8 d)⟩, rfl⟩) ?_
              intro d2
              have k0 : ∀ q : (GW (fun W => Below w1.heap.size w1 W ∧ Rv W s (.int .i64 A) (.int .i64 (max A B)))), q.w.cell? ⟨s, 0, none⟩ = some (.int .i64 A) := fun q => q.h.2.c0
              have k1 : ∀ q : (GW (fun W => Below w1.heap.size w1 W ∧ Rv W s (.int .i64 A) (.int .i64 (max A B)))), q.w.cell? ⟨s, 1, none⟩ = some (.int .i64 (max A B)) := fun q => q.h.2.c1
              have k2 : ∀ q : (GW (fun W => Below w1.heap.size w1 W ∧ Rv W s (.int .i64 A) (.int .i64 (max A B)))), q.w.cell? ⟨g, off + k * 3 + 2, none⟩ = some (.int .i64 z) := fun q => cell_later7 q.h.1 (Nat.le_refl _) Q2.out
              simp only [pickAll, pickAt, List.nil_append, List.cons_append, List.append_nil]
              have hne : Nonempty (GW (fun W => Below w1.heap.size w1 W ∧ Rv W s (.int .i64 A) (.int .i64 (max A B)))) := ⟨⟨x8, (HBW.out.trans (R8.out.mono HBW.out.size)), S8.out⟩⟩
              repeat (go_big_quiet_step (fail))
              refine wpQuiet_nil ?_
              clear hne k0 k1 k2
              have bb := redrawn15 x8 d2
              have S9 := Hid.mk7 (S8.out.later bb)
              have R9 := Hid.mk7 (R8.out.trans (bb.mono R8.out.size))
              have HO9 := Hid.mk7 (HO.out.later R9.out)
              have HB9 := Hid.mk7 (HBW.out.trans (R9.out.mono HBW.out.size))
              clear bb S8 R8
              generalize redrawn x8 d2 = x9 at *
              refine anyC_pick1 10 (by kernel_rfl) (by kernel_rfl) ?_
              simp only [pickAll, pickAt, List.nil_append, List.cons_append, List.append_nil]
              go_wp2
              refine anyNext_mk ⟨⟨_, HB9.out, S9.out⟩, rfl⟩ ?_
              refine anyC_pick1 11 (by kernel_rfl) (by kernel_rfl) ?_
              simp only [pickAll, pickAt, List.nil_append, List.cons_append, List.append_nil]
              go_wp2
              have hsz9 := R9.out.size
              have hsz10 := HB9.out.size
              have HO10 := Hid.mk7 (HO9.out.alloc (.cells #[.int .i64 A, .int .i64 (max A B), .int .i64 z] 24))
              have HB10 := Hid.mk7 (below15 HB9.out (.cells #[.int .i64 A, .int .i64 (max A B), .int .i64 z] 24))
              have S10 := Hid.mk7 (S9.out.alloc (.cells #[.int .i64 A, .int .i64 (max A B), .int .i64 z] 24))
              refine anyNext_mk ⟨⟨_, HB10.out, S10.out⟩, rfl⟩ ?_
              refine anyC_pick1 12 (by kernel_rfl) (by kernel_rfl) ?_
              simp only [pickAll, pickAt, List.nil_append, List.cons_append, List.append_nil]
              go_wp2_with (at_builtin; refine wpList_append_own _ rfl _ _ 22 rfl w1.heap.size 24 i0 (.agg #[.int .i64 0, .int .i64 0, .int .i64 0]) 3 24 Tryd.underlying22 HI.out hz0 hz1 hz2 rfl (by decide) _ _ _ rfl HO10.out ⟨_, 0, none⟩ 1 1 [.int .i64 A, .int .i64 (max A B), .int .i64 z] rfl rfl (three15 rfl _ _ _ _) (fun u hu => by simp at hu; rcases hu with rfl | rfl | rfl <;> rfl) (by unfold maxLen; omega) (by omega) (by simp; omega) ?_)
              intro v' w5 hown' hgrow _
              have HO5 : Hid (OwnP 24 w5 w1.heap.size v' (movS base es (L.take (k + 1)))) := by
                show OwnP _ _ _ _ _
                rw [HTK.out]
                unfold OwnP
                rw [List.length_append, t3_append, t3_one]
                exact hown'
              have HB5 : Hid (Below w1.heap.size w1 w5) := HB10.out.grown hgrow (by simp; omega) (fun j hj => by exact (World.ownsRow.lt (HO10.out) j hj).1)
              have S5 : Hid (Rv w5 s (.int .i64 A) (.int .i64 (max A B))) := (hgrow.block s S10.out.lt (fun e => by have h1 := HLT.out s e.symm; have h2 := HSS.out; omega)).trans S10.out
              clear HO9 HO10 HB9 HB10 S9 S10 hown' hgrow
              go_wp2
              refine anyNext_mk ⟨⟨_, HB5.out, S5.out⟩, rfl⟩ ?_
              refine anyC_pick1 13 (by kernel_rfl) (by kernel_rfl) ?_
              simp only [pickAll, pickAt, List.nil_append, List.cons_append, List.append_nil]
              go_wp2
              refine anyNext_last (anyC_done (by kernel_rfl) ?_)
              go_wp2
              go_roundw
              case rel => exact ⟨k + 1, by omega, by go_num, HO5, HB5.out⟩
              case measure => simp [intOf]; omega
          · simp only [pickAll, pickAt, List.nil_append, List.cons_append, List.append_nil]
            go_wp2
            have R1 := Hid.mk7 (below15 R0.out (.cells #[.int .i64 0, .int .i64 0] 29))
            have S1 := Hid.mk7 (Rv.new x0 (.int .i64 0) (.int .i64 0))
            have HSS := Hid.mk7 R0.out.size
            clear R0
            generalize x0.alloc (.cells #[.int .i64 0, .int .i64 0] 29) = x1 at *
            generalize x0.heap.size = s at *
            refine anyNext_mk ⟨⟨_, (HBW.out.trans (R1.out.mono HBW.out.size))⟩, rfl⟩ ?_
            refine anyC_pick1 11 (by kernel_rfl) (by kernel_rfl) ?_
            simp only [pickAll, pickAt, List.nil_append, List.cons_append, List.append_nil]
            go_wp2
            refine anyNext_mk ⟨⟨_, (HBW.out.trans (R1.out.mono HBW.out.size))⟩, rfl⟩ ?_
            refine anyC_pick1 12 (by kernel_rfl) (by kernel_rfl) ?_
            simp only [pickAll, pickAt, List.nil_append, List.cons_append, List.append_nil]
            go_wp2_with fail
            refine (HRI.out _ (HBW.out.trans (R1.out.mono HBW.out.size))).mono ?_
            rintro e x2 ⟨rfl, b2⟩
            have R2 := Hid.mk7 (R1.out.trans (b2.mono R1.out.size))
            have S2 := Hid.mk7 (S1.out.later b2)
            clear b2 R1 S1
            go_wp2
            refine anyNext_mk ⟨⟨_, (HBW.out.trans (R2.out.mono HBW.out.size))⟩, rfl⟩ ?_
            refine anyC_pick1 14 (by kernel_rfl) (by kernel_rfl) ?_
            simp only [pickAll, pickAt, List.nil_append, List.cons_append, List.append_nil]
            have fz := S2.out.fz
            have z0 := S2.out.c0
            have z1 := S2.out.c1
            have hls := S2.out.lt
            go_wp2
            have S8 := Hid.mk7 (S2.out.set (.int .i64 A) (.int .i64 (max A B)))
            have R8 : Hid (Below wr.heap.size wr ((x2.setCell ⟨s, 0, none⟩ (.int .i64 A)).setCell ⟨s, 1, none⟩ (.int .i64 (max A B)))) := (R2.out.setCell (p := ⟨s, 0, none⟩) HSS.out _).setCell (p := ⟨s, 1, none⟩) HSS.out _
            clear fz z0 z1 hls S2 R2
            generalize (x2.setCell ⟨s, 0, none⟩ (.int .i64 A)).setCell ⟨s, 1, none⟩ (.int .i64 (max A B)) = x8 at *
            refine anyNext_last (anyC_done (by kernel_rfl) ?_)
            go_wp2_with fail
            refine wp_region_turns (fun w' => ∃ q : (GW (fun W => Below w1.heap.size w1 W ∧ Rv W s (.int .i64 A) (.int .i64 (max A B)))), w' = q.w) [0, 1, 2, 3, 4, 5, 6, 7, 8, 9] 13 4 (by kernel_rfl) (by kernel_rfl) (fun d => ⟨⟨redrawn x8 d, (HBW.out.trans (R8.out.mono HBW.out.size)).trans ((redrawn15 x8 d).mono (HBW.out.trans (R8.out.mono HBW.out.size)).size), S8.out.later (redrawn15 x8 d)⟩, rfl⟩) ?_
            intro d2
            have k0 : ∀ q : (GW (fun W => Below w1.heap.size w1 W ∧ Rv W s (.int .i64 A) (.int .i64 (max A B)))), q.w.cell? ⟨s, 0, none⟩ = some (.int .i64 A) := fun q => q.h.2.c0
            have k1 : ∀ q : (GW (fun W => Below w1.heap.size w1 W ∧ Rv W s (.int .i64 A) (.int .i64 (max A B)))), q.w.cell? ⟨s, 1, none⟩ = some (.int .i64 (max A B)) := fun q => q.h.2.c1
            have k2 : ∀ q : (GW (fun W => Below w1.heap.size w1 W ∧ Rv W s (.int .i64 A) (.int .i64 (max A B)))), q.w.cell? ⟨g, off + k * 3 + 2, none⟩ = some (.int .i64 z) := fun q => cell_later7 q.h.1 (Nat.le_refl _) Q2.out
            simp only [pickAll, pickAt, List.nil_append, List.cons_append, List.append_nil]
            have hne : Nonempty (GW (fun W => Below w1.heap.size w1 W ∧ Rv W s (.int .i64 A) (.int .i64 (max A B)))) := ⟨⟨x8, (HBW.out.trans (R8.out.mono HBW.out.size)), S8.out⟩⟩
            repeat (go_big_quiet_step (fail))
            refine wpQuiet_nil ?_
            clear hne k0 k1 k2
            have bb := redrawn15 x8 d2
            have S9 := Hid.mk7 (S8.out.later bb)
            have R9 := Hid.mk7 (R8.out.trans (bb.mono R8.out.size))
            have HO9 := Hid.mk7 (HO.out.later R9.out)
            have HB9 := Hid.mk7 (HBW.out.trans (R9.out.mono HBW.out.size))
            clear bb S8 R8
            generalize redrawn x8 d2 = x9 at *
            refine anyC_pick1 10 (by kernel_rfl) (by kernel_rfl) ?_
            simp only [pickAll, pickAt, List.nil_append, List.cons_append, List.append_nil]
            go_wp2
            refine anyNext_mk ⟨⟨_, HB9.out, S9.out⟩, rfl⟩ ?_
            refine anyC_pick1 11 (by kernel_rfl) (by kernel_rfl) ?_
            simp only [pickAll, pickAt, List.nil_append, List.cons_append, List.append_nil]
            go_wp2
            have hsz9 := R9.out.size
            have hsz10 := HB9.out.size
            have HO10 := Hid.mk7 (HO9.out.alloc (.cells #[.int .i64 A, .int .i64 (max A B), .int .i64 z] 24))
            have HB10 := Hid.mk7 (below15 HB9.out (.cells #[.int .i64 A, .int .i64 (max A B), .int .i64 z] 24))
            have S10 := Hid.mk7 (S9.out.alloc (.cells #[.int .i64 A, .int .i64 (max A B), .int .i64 z] 24))
            refine anyNext_mk ⟨⟨_, HB10.out, S10.out⟩, rfl⟩ ?_
            refine anyC_pick1 12 (by kernel_rfl) (by kernel_rfl) ?_
            simp only [pickAll, pickAt, List.nil_append, List.cons_append, List.append_nil]
            go_wp2_with (at_builtin; refine wpList_append_own _ rfl _ _ 22 rfl w1.heap.size 24 i0 (.agg #[.int .i64 0, .int .i64 0, .int .i64 0]) 3 24 Tryd.underlying22 HI.out hz0 hz1 hz2 rfl (by decide) _ _ _ rfl HO10.out ⟨_, 0, none⟩ 1 1 [.int .i64 A, .int .i64 (max A B), .int .i64 z] rfl rfl (three15 rfl _ _ _ _) (fun u hu => by simp at hu; rcases hu with rfl | rfl | rfl <;> rfl) (by unfold maxLen; omega) (by omega) (by simp; omega) ?_)
            intro v' w5 hown' hgrow _
            have HO5 : Hid (OwnP 24 w5 w1.heap.size v' (movS base es (L.take (k + 1)))) := by
              show OwnP _ _ _ _ _
              rw [HTK.out]
              unfold OwnP
              rw [List.length_append, t3_append, t3_one]
              exact hown'
            have HB5 : Hid (Below w1.heap.size w1 w5) := HB10.out.grown hgrow (by simp; omega) (fun j hj => by exact (World.ownsRow.lt (HO10.out) j hj).1)
            have S5 : Hid (Rv w5 s (.int .i64 A) (.int .i64 (max A B))) := (hgrow.block s S10.out.lt (fun e => by have h1 := HLT.out s e.symm; have h2 := HSS.out; omega)).trans S10.out
            clear HO9 HO10 HB9 HB10 S9 S10 hown' hgrow
            go_wp2
            refine anyNext_mk ⟨⟨_, HB5.out, S5.out⟩, rfl⟩ ?_
            refine anyC_pick1 13 (by kernel_rfl) (by kernel_rfl) ?_
            simp only [pickAll, pickAt, List.nil_append, List.cons_append, List.append_nil]
            go_wp2
            refine anyNext_last (anyC_done (by kernel_rfl) ?_)
            go_wp2
            go_roundw
            case rel => exact ⟨k + 1, by omega, by go_num, HO5, HB5.out⟩
            case measure => simp [intOf]; omega
        · obtain rfl : k = L.length := by omega
          have HE : Hid (fewS (movS base es (L.take L.length)) = edS base es L) := by show _ = _; rw [List.take_length]; rfl
          have HCF := Hid.mk7 (rfewest_any HO.out.row hml)
          have HB2 := Hid.mk7 hb
          clear HO hml
          go_wp2_with fail
          refine HCF.out.mono ?_
          rintro e w5 ⟨v5, rfl, o5, b5⟩
          have HB5 := Hid.mk7 (HB2.out.trans (b5.mono HB2.out.size))
          rw [HE.out] at o5
          have HV5 := Hid.mk7 o5.row
          have HB6 := Hid.mk7 (HB1.out.trans (HB5.out.mono HB1.out.size))
          clear o5 b5 HB2 HCF HE HB5
          go_wp2
          go_ret2
          exact ⟨_, tup15 E1.out.symm, by rw [E2.out]; exact HV5.out, HB6.out⟩
end Go.Proofs.YtmgjfmgkmlfjeaaDoor
