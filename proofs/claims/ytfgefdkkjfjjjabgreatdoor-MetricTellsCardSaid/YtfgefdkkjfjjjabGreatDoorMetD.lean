/- metric.down. metric.To, Whole, known, From, Convert. -/
import Derived.Test.YtfgefdkkjfjjjabGreatDoorMetB
import Derived.Test.YtfgefdkkjfjjjabGreatDoorTurns
import Derived.Deep.CutRange
namespace Go.Proofs.YtfgefdkkjfjjjabGreatDoor
open Go.RowKit Go.Sort
set_option linter.unusedSimpArgs false
set_option linter.unusedVariables false

/-- How long a rope is, by what its memory says. -/
def ropeLen (w : World) (v : Value) : Nat := match v with
  | .pointer (some a) => match w.cell? ⟨a.block, 0, none⟩ with
    | some (.pointer (some b)) => match w.cell? ⟨b.block, 2, none⟩ with
      | some (.int _ x) => x.toNat
      | _ => 0
    | _ => 0
  | _ => 0
theorem ropeLen_of {E : Env} {w : World} {r : Value} {T : List UInt8} (h : RpA E w r T) (hz : T.length ≤ 100000) : ropeLen w r = T.length := by
  obtain ⟨g, ls, e, ⟨u, hrow, htr, hI⟩, hc⟩ := h
  subst hc
  rw [cat_length] at hz ⊢
  rcases hrow with ⟨e1, _⟩ | ⟨g1, e1, hrt⟩
  · rw [e1] at e; cases e
  · rw [e1] at e ⊢
    have c0 := hrt.cell 0
    rcases htr with ⟨e2, e3⟩ | ⟨d, b, e2, hN⟩
    · cases e2
      subst e3
      simp [ropeLen, c0, szs_nil]
    · cases e2
      have c2 := (hN.cellsz (by omega)).1
      simp [ropeLen, c0, c2]
def textLen (w : World) (g : Nat) : Nat := match w.cell? ⟨g, 0, none⟩ with | some v => ropeLen w v | _ => 0
theorem textLen_of {E : Env} {w : World} {g : Nat} {r : Value} {T : List UInt8} (hr : Rt 54 w g #[r]) (h : RpA E w r T) (hz : T.length ≤ 100000) : textLen w g = T.length := by
  unfold textLen
  rw [hr.cell]
  exact ropeLen_of h hz
theorem RpA.putM {E : Env} {w : World} {g : Nat} {x0 x1 x2 x3 : Int} (hr : Rt 55 w g #[.int .i64 x0, .int .i64 x1, .int .i64 x2, .int .i64 x3]) {r : Value} {T : List UInt8} (h : RpA E w r T) (y0 y1 y2 y3 : Int) :
    RpA E ((((w.setCell ⟨g, 0, none⟩ (.int .i64 y0)).setCell ⟨g, 1, none⟩ (.int .i64 y1)).setCell ⟨g, 2, none⟩ (.int .i64 y2)).setCell ⟨g, 3, none⟩ (.int .i64 y3)) r T := by
  have r1 := hr.set 0 (.int .i64 y0)
  have r2 := r1.set 1 (.int .i64 y1)
  have r3 := r2.set 2 (.int .i64 y2)
  have h1 := h.put (by decide) (by decide) hr (lone4 _ _ _ _) 0 (.int .i64 y0)
  have h2 := h1.put (by decide) (by decide) r1 (by simpa using lone4 y0 x1 x2 x3) 1 (.int .i64 y1)
  have h3 := h2.put (by decide) (by decide) r2 (by simpa using lone4 y0 y1 x2 x3) 2 (.int .i64 y2)
  exact h3.put (by decide) (by decide) r3 (by simpa using lone4 y0 y1 y2 x3) 3 (.int .i64 y3)

theorem anyNext_below {P : Program} {l : List Oper} {z k fuel : Nat} {Q : Exit → Act → World → Prop} {listed : Array Bool} {a : Act} {w w3 : World} (hb : Below w.heap.size w w3) (h : wpAnyC P l.toArray (fun w' => ∃ p : Regrown, w' = grow (redrawn w p.d) p.os) z (noPanic Q) fuel listed a w3) :
    AnyNext P l (fun w' => ∃ p : Regrown, w' = grow (redrawn w p.d) p.os) z Q k fuel listed .normal a w3 := anyNext_mk (regrown_of_below hb) h
theorem kT_counts {T : List UInt8} (hv : vld T = true) (k : Int) : get4 k (T.length : Nat) (kP (pts T)) (kU (pts T)) (kL (pts T)) = kT k T := by
  have e : kB (pts T) = (T.length : Nat) := by unfold kB; rw [flat_pts' hv]
  unfold kT kG
  rw [e]
theorem mplus_text {A B : List UInt8} (hA : vld A = true) (hz : A.length + B.length ≤ 100000) (w : World) :
    Calls Tryz.prog 116 #[.agg #[.int .i64 (A.length : Nat), .int .i64 (kP (pts A)), .int .i64 (kU (pts A)), .int .i64 (kL (pts A))], .agg #[.int .i64 (B.length : Nat), .int .i64 (kP (pts B)), .int .i64 (kU (pts B)), .int .i64 (kL (pts B))]] w fun e w' => e = .returned (.agg #[.int .i64 ((A ++ B).length : Nat), .int .i64 (kP (pts (A ++ B))), .int .i64 (kU (pts (A ++ B))), .int .i64 (kL (pts (A ++ B)))]) ∧ Below w.heap.size w w' := by
  have h := mplus_any (A.length : Nat) (kP (pts A)) (kU (pts A)) (kL (pts A)) (B.length : Nat) (kP (pts B)) (kU (pts B)) (kL (pts B)) w
  have q1 := k_range (pts A)
  have q2 := k_range (pts B)
  have p1 := pts_length A
  have p2 := pts_length B
  have r1 : kP (pts A) ≤ 100000 := by unfold kP; omega
  have r2 : kP (pts B) ≤ 100000 := by unfold kP; omega
  rw [pts_append hA, kP_append, kU_append, kL_append, List.length_append]
  rw [show wrap64 ((A.length : Int) + (B.length : Int)) = ((A.length + B.length : Nat) : Int) from by unfold wrap64; omega, show wrap64 (kP (pts A) + kP (pts B)) = kP (pts A) + kP (pts B) from by unfold wrap64; omega, show wrap64 (kU (pts A) + kU (pts B)) = kU (pts A) + kU (pts B) from by unfold wrap64; omega, show wrap64 (kL (pts A) + kL (pts B)) = kL (pts A) + kL (pts B) from by unfold wrap64; omega] at h
  exact h

set_option maxHeartbeats 8000000 in
set_option maxRecDepth 100000 in
/-- down, at To's closure. -/
theorem down_any (tb : Nat × Nat) {g0 : Nat} {T : List UInt8} {w : World} (k n : Int) (bk bn : Nat) (h : RpA (strongE tb) w (.pointer (some ⟨g0, 0, none⟩)) T) (hz : T.length ≤ 20000) (hk : w.cell? ⟨bk, 0, none⟩ = some (.int .i64 k)) (hn : w.cell? ⟨bn, 0, none⟩ = some (.int .i64 n)) (hT : Tabs w tb) :
    Calls Tryz.prog 25 #[.agg #[.pointer (some ⟨g0, 0, none⟩)], .func (.func 27) #[] #[.pointer (some ⟨bk, 0, none⟩), .pointer (some ⟨bn, 0, none⟩)]] w fun e w' => ∃ (g' : Nat) (A B C : List UInt8), e = .returned (.tuple #[.agg #[.pointer (some ⟨g', 0, none⟩)], .agg #[.int .i64 (A.length : Nat), .int .i64 (kP (pts A)), .int .i64 (kU (pts A)), .int .i64 (kL (pts A))]]) ∧ RpA (strongE tb) w' (.pointer (some ⟨g', 0, none⟩)) B ∧
      T = A ++ (B ++ C) ∧ vld A = true ∧ vld C = true ∧ (A = [] ∨ kT k A < n) ∧ (C = [] ∨ n ≤ kT k A + kT k B) ∧ Below w.heap.size w w' := by
  have hv := rpa_valid h
  have HT := Hid.mk4 hT
  have HZ := Hid.mk4 hz
  have HC : Hid (∀ W x0 x1 x2 x3, Below w.heap.size w W → Calls Tryz.prog 27 #[.agg #[.int .i64 x0, .int .i64 x1, .int .i64 x2, .int .i64 x3], .pointer (some ⟨bk, 0, none⟩), .pointer (some ⟨bn, 0, none⟩)] W fun e w' => e = .returned (.bool (decide (n ≤ get4 k x0 x1 x2 x3))) ∧ Below W.heap.size W w') := fun W x0 x1 x2 x3 hW => reaches_any x0 x1 x2 x3 k n bk bn W (cell_after hk hW) (cell_after hn hW)
  have b0 : Below w.heap.size w ((((w.alloc (Obj.cells #[.pointer (some ⟨g0, 0, none⟩)] 54)).alloc (Obj.cells #[.pointer none] 54)).alloc (Obj.cells #[.int .i64 0, .int .i64 0, .int .i64 0, .int .i64 0] 55)).alloc (Obj.cells #[.int .i64 0, .int .i64 0, .int .i64 0, .int .i64 0] 55)) := ((((Below.refl _ _).alloc (Nat.le_refl _) _).alloc (by simp) _).alloc (by simp <;> omega) _).alloc (by simp <;> omega) _
  have H0 := Hid.mk4 (h.later b0)
  clear h hk hn hT
  go_enter Tryz.func25, Tryz.ntmps25
  go_wp2
  go_loopw [] (fun wr => ∃ (g : Nat) (A B C : List UInt8), Hid (RpA (strongE tb) wr (.pointer (some ⟨g, 0, none⟩)) B) ∧ Hid (T = A ++ (B ++ C)) ∧ Hid (vld A = true) ∧ Hid (vld C = true) ∧ Hid (A = [] ∨ kT k A < n) ∧ Hid (C = [] ∨ n ≤ kT k A + kT k B) ∧
      Hid (Rt 54 wr w.heap.size #[.pointer (some ⟨g, 0, none⟩)]) ∧ Hid (Rt 54 wr (w.heap.size + 1) #[.pointer none]) ∧ Hid (Rt 55 wr (w.heap.size + 1 + 1) #[.int .i64 0, .int .i64 0, .int .i64 0, .int .i64 0]) ∧
      Hid (Rt 55 wr (w.heap.size + 1 + 1 + 1) #[.int .i64 (A.length : Nat), .int .i64 (kP (pts A)), .int .i64 (kU (pts A)), .int .i64 (kL (pts A))]) ∧ Below w.heap.size w wr) (fun wr => textLen wr w.heap.size)
  case atStart =>
    exact ⟨g0, [], T, [], H0.out, by show _ = _; simp, rfl, rfl, Or.inl rfl, Or.inl rfl, ((((Rt.new _ w _).alloc _).alloc _).alloc _), (((Rt.new' (by simp) _).alloc _).alloc _), ((Rt.new' (by simp) _).alloc _), Rt.new' (by simp) _, b0⟩
  case round =>
    obtain ⟨g, A, B, C, HB, HTX, HVA, HVC, HA1, HC1, R0, R1, R2, R3, hb⟩ := hrel
    clear H0 b0
    have hBl : B.length ≤ 20000 ∧ A.length ≤ 20000 := by
      have := congrArg List.length HTX.out
      rw [List.length_append, List.length_append] at this
      have := HZ.out
      omega
    have hm : ∀ w : World, (method 253 54 (.agg #[.pointer (some ⟨g, 0, none⟩)]) "palinode/metric.first").run Tryz.prog w = .ok (114, .agg #[.pointer (some ⟨g, 0, none⟩)]) w := fun _ => by kernel_rfl
    have c0 := R0.out.cell 0
    by_cases hsm : B.length ≤ 64
    · have HF := Hid.mk4 (xfirst_small tb HB.out hsm)
      go_wp2_with fail
      refine HF.out.mono ?_
      rintro e w1 ⟨rfl, b1⟩
      have b2 := b1.alloc b1.size (Obj.cells #[.pointer none] 54)
      have S0 := Hid.mk4 (R0.out.later' b2)
      have S1 := Hid.mk4 (R1.out.later' b2)
      have S2 := Hid.mk4 (R2.out.later' b2)
      have S3 := Hid.mk4 (R3.out.later' b2)
      have HB2 := Hid.mk4 (HB.out.later b2)
      have g2 := hb.trans (b2.mono hb.size)
      clear HF c0 hm R0 R1 R2 R3 HB hb b2
      go_wp2
      generalize hw2 : w1.alloc (Obj.cells #[Value.pointer none] 54) = w2 at *
      clear hw2 b1
      have hx : ∀ x : GW (fun w' => Rt 54 w' w.heap.size #[.pointer (some ⟨g, 0, none⟩)] ∧ Rt 55 w' (w.heap.size + 1 + 1 + 1) #[.int .i64 (A.length : Nat), .int .i64 (kP (pts A)), .int .i64 (kU (pts A)), .int .i64 (kL (pts A))]), x.w.cell? ⟨w.heap.size, 0, none⟩ = some (.pointer (some ⟨g, 0, none⟩)) ∧ x.w.cell? ⟨w.heap.size + 1 + 1 + 1, 0, none⟩ = some (.int .i64 (A.length : Nat)) ∧ x.w.cell? ⟨w.heap.size + 1 + 1 + 1, 1, none⟩ = some (.int .i64 (kP (pts A))) ∧ x.w.cell? ⟨w.heap.size + 1 + 1 + 1, 2, none⟩ = some (.int .i64 (kU (pts A))) ∧ x.w.cell? ⟨w.heap.size + 1 + 1 + 1, 3, none⟩ = some (.int .i64 (kL (pts A))) := fun x => ⟨x.h.1.cell 0, x.h.2.cell 0, x.h.2.cell 1, x.h.2.cell 2, x.h.2.cell 3⟩
      have x0 := fun x => (hx x).1
      have x1 := fun x => (hx x).2.1
      have x2 := fun x => (hx x).2.2.1
      have x3 := fun x => (hx x).2.2.2.1
      have x4 := fun x => (hx x).2.2.2.2
      clear hx
      refine wp_region_turns (fun w' => ∃ x : GW (fun w' => Rt 54 w' w.heap.size #[.pointer (some ⟨g, 0, none⟩)] ∧ Rt 55 w' (w.heap.size + 1 + 1 + 1) #[.int .i64 (A.length : Nat), .int .i64 (kP (pts A)), .int .i64 (kU (pts A)), .int .i64 (kL (pts A))]), w' = x.w) [0, 1] 3 2 (by kernel_rfl) (by kernel_rfl) (fun d => ⟨⟨redrawn w2 d, S0.out.later' (below_redrawn w2 d), S3.out.later' (below_redrawn w2 d)⟩, rfl⟩) ?_
      intro d
      have bd := below_redrawn w2 d
      have U0 := Hid.mk4 (S0.out.later' bd)
      have U1 := Hid.mk4 (S1.out.later' bd)
      have U2 := Hid.mk4 (S2.out.later' bd)
      have U3 := Hid.mk4 (S3.out.later' bd)
      have HB3 := Hid.mk4 (HB2.out.later bd)
      have g3 := g2.trans (bd.mono g2.size)
      clear S0 S1 S2 S3 HB2 g2 bd
      generalize redrawn w2 d = w3 at *
      simp only [pickAll, pickAt, List.nil_append, List.cons_append, List.append_nil]
      have hne : Nonempty (GW (fun w' => Rt 54 w' w.heap.size #[.pointer (some ⟨g, 0, none⟩)] ∧ Rt 55 w' (w.heap.size + 1 + 1 + 1) #[.int .i64 (A.length : Nat), .int .i64 (kP (pts A)), .int .i64 (kU (pts A)), .int .i64 (kL (pts A))])) := ⟨⟨w3, U0.out, U3.out⟩⟩
      repeat (go_big_quiet_step (fail))
      refine wpQuiet_nil ?_
      clear x0 x1 x2 x3 x4 hne
      refine anyC_pick1 2 (by kernel_rfl) (by kernel_rfl) ?_
      simp only [pickAll, pickAt, List.nil_append, List.cons_append, List.append_nil]
      have fz := U1.out.fz
      have cz := U1.out.cell 0
      have hlt := U1.out.lt
      go_wp2
      have V0 := Hid.mk4 (U0.out.other (g' := w.heap.size + 1) (by omega) 0 (.pointer (some ⟨g, 0, none⟩)))
      have V1 := Hid.mk4 (U1.out.set1 (.pointer (some ⟨g, 0, none⟩)))
      have V2 := Hid.mk4 (U2.out.other (g' := w.heap.size + 1) (by omega) 0 (.pointer (some ⟨g, 0, none⟩)))
      have V3 := Hid.mk4 (U3.out.other (g' := w.heap.size + 1) (by omega) 0 (.pointer (some ⟨g, 0, none⟩)))
      have HB4 := Hid.mk4 (HB3.out.putX U1.out (.pointer (some ⟨g, 0, none⟩)))
      have g4 := g3.setCell (p := ⟨w.heap.size + 1, 0, none⟩) (by simp) (.pointer (some ⟨g, 0, none⟩))
      clear U0 U1 U2 U3 HB3 g3 fz cz hlt
      generalize w3.setCell ⟨w.heap.size + 1, 0, none⟩ (.pointer (some ⟨g, 0, none⟩)) = w4 at *
      refine anyNext_mk ⟨⟨w4, V0.out, V3.out⟩, rfl⟩ ?_
      refine anyC_pick1 3 (by kernel_rfl) (by kernel_rfl) ?_
      simp only [pickAll, pickAt, List.nil_append, List.cons_append, List.append_nil]
      have fz := V2.out.fz
      have c0 := V2.out.cell 0; have c1 := V2.out.cell 1; have c2 := V2.out.cell 2; have c3 := V2.out.cell 3
      have hlt := V2.out.lt
      go_wp2
      refine anyNext_last (anyC_done (by kernel_rfl) ?_)
      have V1' := Hid.mk4 (V1.out.other4 (g' := w.heap.size + 1 + 1) (by omega) (.int .i64 (A.length : Nat)) (.int .i64 (kP (pts A))) (.int .i64 (kU (pts A))) (.int .i64 (kL (pts A))))
      have V2' := Hid.mk4 (V2.out.set4 (.int .i64 (A.length : Nat)) (.int .i64 (kP (pts A))) (.int .i64 (kU (pts A))) (.int .i64 (kL (pts A))))
      have HB5 := Hid.mk4 (HB4.out.putM V2.out (A.length : Nat) (kP (pts A)) (kU (pts A)) (kL (pts A)))
      have g5 := below_set4 g4 (g := w.heap.size + 1 + 1) (by omega) (.int .i64 (A.length : Nat)) (.int .i64 (kP (pts A))) (.int .i64 (kU (pts A))) (.int .i64 (kL (pts A)))
      clear V0 V1 V2 V3 HB4 g4 fz c0 c1 c2 c3 hlt
      generalize (((w4.setCell ⟨w.heap.size + 1 + 1, 0, none⟩ (.int .i64 (A.length : Nat))).setCell ⟨w.heap.size + 1 + 1, 1, none⟩ (.int .i64 (kP (pts A)))).setCell ⟨w.heap.size + 1 + 1, 2, none⟩ (.int .i64 (kU (pts A)))).setCell ⟨w.heap.size + 1 + 1, 3, none⟩ (.int .i64 (kL (pts A))) = w5 at *
      go_wp2
      exact bodyPost_ret (results_text_mc rfl _ _ (w.heap.size + 1) (w.heap.size + 1 + 1) _ _ _ _ _ rfl rfl V1'.out V2'.out) rfl ⟨g, A, B, C, rfl, HB5.out, HTX.out, HVA.out, HVC.out, HA1.out, HC1.out, g5⟩
    · have HF := Hid.mk4 (xfirst_any tb HB.out (by omega) (by omega) (HT.out.later hb))
      have hlen : Hid (textLen wr w.heap.size = B.length) := textLen_of R0.out HB.out (by omega)
      go_wp2_with fail
      refine HF.out.mono ?_
      rintro e w1 ⟨g1, a, rfl, hr1, ha0, ha1, b1⟩
      obtain ⟨AB, hAB⟩ : ∃ AB, AB = A ++ B.take a := ⟨_, rfl⟩
      obtain ⟨B1, hB1⟩ : ∃ B1, B1 = B.take a := ⟨_, rfl⟩
      rw [← hB1] at hr1 hAB
      have HLB : Hid (B1.length = a) := by show _ = _; rw [hB1, List.length_take]; omega
      have hlB1 : B1.length ≤ 20000 := by have := HLB.out; omega
      have hvB1 := rpa_valid hr1
      have hvAB : vld AB = true := by rw [hAB]; exact vld_append HVA.out hvB1
      have HAB := Hid.mk4 hAB
      have HB1 := Hid.mk4 hB1
      have HVAB := Hid.mk4 hvAB
      have HP : Hid (∀ W, Calls Tryz.prog 116 #[.agg #[.int .i64 (A.length : Nat), .int .i64 (kP (pts A)), .int .i64 (kU (pts A)), .int .i64 (kL (pts A))], .agg #[.int .i64 (B1.length : Nat), .int .i64 (kP (pts B1)), .int .i64 (kU (pts B1)), .int .i64 (kL (pts B1))]] W fun e w' => e = .returned (.agg #[.int .i64 (AB.length : Nat), .int .i64 (kP (pts AB)), .int .i64 (kU (pts AB)), .int .i64 (kL (pts AB))]) ∧ Below W.heap.size W w') := fun W => by
        rw [hAB]
        exact mplus_text HVA.out (by omega) W
      have HCL : Hid (∀ W, Below w.heap.size w W → Calls Tryz.prog 27 #[.agg #[.int .i64 (AB.length : Nat), .int .i64 (kP (pts AB)), .int .i64 (kU (pts AB)), .int .i64 (kL (pts AB))], .pointer (some ⟨bk, 0, none⟩), .pointer (some ⟨bn, 0, none⟩)] W fun e w' => e = .returned (.bool (decide (n ≤ kT k AB))) ∧ Below W.heap.size W w') := fun W hW => by
        have := HC.out W (AB.length : Nat) (kP (pts AB)) (kU (pts AB)) (kL (pts AB)) hW
        rw [kT_counts hvAB] at this
        exact this
      have b2 := b1.alloc b1.size (Obj.cells #[.pointer (some ⟨g1, 0, none⟩)] 54)
      have b12 := (Below.refl w1.heap.size w1).alloc (Nat.le_refl _) (Obj.cells #[.pointer (some ⟨g1, 0, none⟩)] 54)
      have S0 := Hid.mk4 (R0.out.later' b2)
      have S1 := Hid.mk4 (R1.out.later' b2)
      have S2 := Hid.mk4 (R2.out.later' b2)
      have S3 := Hid.mk4 (R3.out.later' b2)
      have S7 : Hid (Rt 54 (w1.alloc (Obj.cells #[.pointer (some ⟨g1, 0, none⟩)] 54)) w1.heap.size #[.pointer (some ⟨g1, 0, none⟩)]) := Rt.new _ w1 _
      have HB2 := Hid.mk4 (HB.out.later b2)
      have HX2 := Hid.mk4 (hr1.later b12)
      have g2 := hb.trans (b2.mono hb.size)
      have hlo := R3.out.lt
      have hlo2 := b1.size
      clear HF c0 hm R0 R1 R2 R3 HB hb b2 b12 b1 hr1 hAB hB1 hvB1 hvAB HC
      go_wp2
      generalize hw2 : w1.alloc (Obj.cells #[Value.pointer (some { block := g1, off := 0 })] 54) = w2 at *
      clear hw2
      go_cut [9] from 10 to 34 (fun v9 wx => ∃ b9, v9 = .pointer (some ⟨b9, 0, none⟩) ∧ w1.heap.size < b9 ∧ Hid (Rt 55 wx b9 #[.int .i64 (AB.length : Nat), .int .i64 (kP (pts AB)), .int .i64 (kU (pts AB)), .int .i64 (kL (pts AB))]) ∧ Below w2.heap.size w2 wx)
      case first =>
        have hlt7 := S7.out.lt
        have k0 := cell_regrown (S3.out.cell 0); have k1 := cell_regrown (S3.out.cell 1); have k2 := cell_regrown (S3.out.cell 2); have k3 := cell_regrown (S3.out.cell 3)
        have k7 := cell_regrown (S7.out.cell 0)
        have hm1 : ∀ w : World, (method 253 54 (.agg #[.pointer (some ⟨g1, 0, none⟩)]) "palinode/metric.sum").run Tryz.prog w = .ok (37, .agg #[.pointer (some ⟨g1, 0, none⟩)]) w := fun _ => by kernel_rfl
        have hm2 : ∀ w : World, (method 253 55 (.agg #[.int .i64 (A.length : Nat), .int .i64 (kP (pts A)), .int .i64 (kU (pts A)), .int .i64 (kL (pts A))]) "palinode/metric.plus").run Tryz.prog w = .ok (116, .agg #[.int .i64 (A.length : Nat), .int .i64 (kP (pts A)), .int .i64 (kU (pts A)), .int .i64 (kL (pts A))]) w := fun _ => by kernel_rfl
        have HSM : Hid (∀ W, Below w2.heap.size w2 W → Calls Tryz.prog 37 #[.agg #[.pointer (some ⟨g1, 0, none⟩)]] W fun e w' => e = .returned (.agg #[.int .i64 (B1.length : Nat), .int .i64 (kP (pts B1)), .int .i64 (kU (pts B1)), .int .i64 (kL (pts B1))]) ∧ Below W.heap.size W w') := fun W hW => xsum_any tb (HX2.out.later hW) (by omega)
        clear S0 S1 S2 S3 S7 HB2 HX2 g2 HCL HAB HB1 HVAB hlen
        refine wp_region_turns (fun w' => ∃ p : Regrown, w' = grow (redrawn w2 p.d) p.os) [0, 1, 2, 3] 7 4 (by kernel_rfl) (by kernel_rfl) (fun d => ⟨⟨d, #[]⟩, by rw [grow_empty]⟩) ?_
        intro d
        have bd := below_redrawn w2 d
        simp only [pickAll, pickAt, List.nil_append, List.cons_append, List.append_nil]
        repeat (go_big_quiet_step (fail))
        refine wpQuiet_nil ?_
        clear k0 k1 k2 k3 k7
        generalize redrawn w2 d = w3 at *
        refine anyC_pick2 4 6 (by kernel_rfl) (by kernel_rfl) (by kernel_rfl) ?_ ?_
        · simp only [pickAll, pickAt, List.nil_append, List.cons_append, List.append_nil]
          go_wp2_with fail
          refine (HSM.out _ bd).mono ?_
          rintro e w4 ⟨rfl, b4⟩
          have g4 := bd.trans (b4.mono bd.size)
          clear HSM b4 bd
          go_wp2
          refine anyNext_below g4 ?_
          refine anyC_pick2 5 6 (by kernel_rfl) (by kernel_rfl) (by kernel_rfl) ?_ ?_
          · simp only [pickAll, pickAt, List.nil_append, List.cons_append, List.append_nil]
            go_wp2_with fail
            refine (HP.out _).mono ?_
            rintro e w5 ⟨rfl, b5⟩
            have g5 := g4.trans (b5.mono g4.size)
            clear HP b5 g4
            go_wp2
            refine anyNext_below g5 ?_
            refine anyC_pick1 6 (by kernel_rfl) (by kernel_rfl) ?_
            simp only [pickAll, pickAt, List.nil_append, List.cons_append, List.append_nil]
            go_wp2
            have g6 := g5.alloc g5.size (Obj.cells #[.int .i64 0, .int .i64 0, .int .i64 0, .int .i64 0] 55)
            have V : Hid (Rt 55 (w5.alloc (Obj.cells #[.int .i64 0, .int .i64 0, .int .i64 0, .int .i64 0] 55)) w5.heap.size #[.int .i64 0, .int .i64 0, .int .i64 0, .int .i64 0]) := Rt.new _ w5 _
            refine anyNext_below g6 ?_
            refine anyC_pick1 7 (by kernel_rfl) (by kernel_rfl) ?_
            simp only [pickAll, pickAt, List.nil_append, List.cons_append, List.append_nil]
            generalize hb9 : w5.heap.size = b9 at *
            have hsz : w2.heap.size ≤ b9 := by rw [← hb9]; exact g5.size
            clear g5 hb9
            generalize w5.alloc (Obj.cells #[.int .i64 0, .int .i64 0, .int .i64 0, .int .i64 0] 55) = w6 at *
            have fz := V.out.fz
            have c0 := V.out.cell 0; have c1 := V.out.cell 1; have c2 := V.out.cell 2; have c3 := V.out.cell 3
            have hlt := V.out.lt
            go_wp2
            refine anyNext_last (anyC_done (by kernel_rfl) ?_)
            go_wp2
            go_meet
            exact ⟨b9, rfl, by omega, V.out.set4 _ _ _ _, below_set4 g6 hsz _ _ _ _⟩
          · simp only [pickAll, pickAt, List.nil_append, List.cons_append, List.append_nil]
            go_wp2
            have g5 := g4.alloc g4.size (Obj.cells #[.int .i64 0, .int .i64 0, .int .i64 0, .int .i64 0] 55)
            have V0 : Hid (Rt 55 (w4.alloc (Obj.cells #[.int .i64 0, .int .i64 0, .int .i64 0, .int .i64 0] 55)) w4.heap.size #[.int .i64 0, .int .i64 0, .int .i64 0, .int .i64 0]) := Rt.new _ w4 _
            refine anyNext_below g5 ?_
            refine anyC_pick1 5 (by kernel_rfl) (by kernel_rfl) ?_
            simp only [pickAll, pickAt, List.nil_append, List.cons_append, List.append_nil]
            generalize hb9 : w4.heap.size = b9 at *
            have hsz : w2.heap.size ≤ b9 := by rw [← hb9]; exact g4.size
            clear g4 hb9
            generalize w4.alloc (Obj.cells #[.int .i64 0, .int .i64 0, .int .i64 0, .int .i64 0] 55) = w5 at *
            go_wp2_with fail
            refine (HP.out _).mono ?_
            rintro e w6 ⟨rfl, b6⟩
            have g6 := g5.trans (b6.mono g5.size)
            have V := Hid.mk4 (V0.out.later' b6)
            clear HP b6 g5 V0
            go_wp2
            refine anyNext_below g6 ?_
            refine anyC_pick1 7 (by kernel_rfl) (by kernel_rfl) ?_
            simp only [pickAll, pickAt, List.nil_append, List.cons_append, List.append_nil]
            have fz := V.out.fz
            have c0 := V.out.cell 0; have c1 := V.out.cell 1; have c2 := V.out.cell 2; have c3 := V.out.cell 3
            have hlt := V.out.lt
            go_wp2
            refine anyNext_last (anyC_done (by kernel_rfl) ?_)
            go_wp2
            go_meet
            exact ⟨b9, rfl, by omega, V.out.set4 _ _ _ _, below_set4 g6 hsz _ _ _ _⟩
        · simp only [pickAll, pickAt, List.nil_append, List.cons_append, List.append_nil]
          go_wp2
          have g4 := bd.alloc bd.size (Obj.cells #[.int .i64 0, .int .i64 0, .int .i64 0, .int .i64 0] 55)
          have V0 : Hid (Rt 55 (w3.alloc (Obj.cells #[.int .i64 0, .int .i64 0, .int .i64 0, .int .i64 0] 55)) w3.heap.size #[.int .i64 0, .int .i64 0, .int .i64 0, .int .i64 0]) := Rt.new _ w3 _
          refine anyNext_below g4 ?_
          refine anyC_pick1 4 (by kernel_rfl) (by kernel_rfl) ?_
          simp only [pickAll, pickAt, List.nil_append, List.cons_append, List.append_nil]
          generalize hb9 : w3.heap.size = b9 at *
          have hsz : w2.heap.size ≤ b9 := by rw [← hb9]; exact bd.size
          clear bd hb9
          generalize w3.alloc (Obj.cells #[.int .i64 0, .int .i64 0, .int .i64 0, .int .i64 0] 55) = w4 at *
          go_wp2_with fail
          refine (HSM.out _ g4).mono ?_
          rintro e w5 ⟨rfl, b5⟩
          have g5 := g4.trans (b5.mono g4.size)
          have V1 := Hid.mk4 (V0.out.later' b5)
          clear HSM b5 g4 V0
          go_wp2
          refine anyNext_below g5 ?_
          refine anyC_pick1 5 (by kernel_rfl) (by kernel_rfl) ?_
          simp only [pickAll, pickAt, List.nil_append, List.cons_append, List.append_nil]
          go_wp2_with fail
          refine (HP.out _).mono ?_
          rintro e w6 ⟨rfl, b6⟩
          have g6 := g5.trans (b6.mono g5.size)
          have V := Hid.mk4 (V1.out.later' b6)
          clear HP b6 g5 V1
          go_wp2
          refine anyNext_below g6 ?_
          refine anyC_pick1 7 (by kernel_rfl) (by kernel_rfl) ?_
          simp only [pickAll, pickAt, List.nil_append, List.cons_append, List.append_nil]
          have fz := V.out.fz
          have c0 := V.out.cell 0; have c1 := V.out.cell 1; have c2 := V.out.cell 2; have c3 := V.out.cell 3
          have hlt := V.out.lt
          go_wp2
          refine anyNext_last (anyC_done (by kernel_rfl) ?_)
          go_wp2
          go_meet
          exact ⟨b9, rfl, by omega, V.out.set4 _ _ _ _, below_set4 g6 hsz _ _ _ _⟩
      case rest =>
        obtain ⟨b9, rfl, hb9, V9, bx⟩ := hcut
        have T0 := Hid.mk4 (S0.out.later' bx)
        have T1 := Hid.mk4 (S1.out.later' bx)
        have T2 := Hid.mk4 (S2.out.later' bx)
        have T3 := Hid.mk4 (S3.out.later' bx)
        have T7 := Hid.mk4 (S7.out.later' bx)
        have HB3 := Hid.mk4 (HB2.out.later bx)
        have HX3 := Hid.mk4 (HX2.out.later bx)
        have g3 := g2.trans (bx.mono g2.size)
        clear S0 S1 S2 S3 S7 HB2 HX2 g2 bx HP
        have c0 := V9.out.cell 0; have c1 := V9.out.cell 1; have c2 := V9.out.cell 2; have c3 := V9.out.cell 3
        go_wp2_with fail
        refine (HCL.out _ g3).mono ?_
        rintro e w4 ⟨rfl, b4⟩
        have U0 := Hid.mk4 (T0.out.later' b4)
        have U1 := Hid.mk4 (T1.out.later' b4)
        have U2 := Hid.mk4 (T2.out.later' b4)
        have U3 := Hid.mk4 (T3.out.later' b4)
        have U7 := Hid.mk4 (T7.out.later' b4)
        have U9 := Hid.mk4 (V9.out.later' b4)
        have HB4 := Hid.mk4 (HB3.out.later b4)
        have HX4 := Hid.mk4 (HX3.out.later b4)
        have g4 := g3.trans (b4.mono g3.size)
        clear T0 T1 T2 T3 T7 V9 HB3 HX3 g3 b4 c0 c1 c2 c3 HCL
        by_cases hq : n ≤ kT k AB
        · have HQ := Hid.mk4 hq
          rw [show decide (n ≤ kT k AB) = true from decide_eq_true hq]
          clear hq
          have c7 := U7.out.cell 0
          have c0 := U0.out.cell 0
          have fz := U0.out.fz
          have hlt := U0.out.lt
          go_wp2
          have W0 := Hid.mk4 (U0.out.set1 (.pointer (some ⟨g1, 0, none⟩)))
          have W1 := Hid.mk4 (U1.out.other (g' := w.heap.size) (by omega) 0 (.pointer (some ⟨g1, 0, none⟩)))
          have W2 := Hid.mk4 (U2.out.other (g' := w.heap.size) (by omega) 0 (.pointer (some ⟨g1, 0, none⟩)))
          have W3 := Hid.mk4 (U3.out.other (g' := w.heap.size) (by omega) 0 (.pointer (some ⟨g1, 0, none⟩)))
          have HX5 := Hid.mk4 (HX4.out.putX U0.out (.pointer (some ⟨g1, 0, none⟩)))
          have g5 := g4.setCell (p := ⟨w.heap.size, 0, none⟩) (by simp) (.pointer (some ⟨g1, 0, none⟩))
          clear U0 U1 U2 U3 U7 U9 HB4 HX4 g4 c7 c0 fz hlt
          generalize w4.setCell ⟨w.heap.size, 0, none⟩ (.pointer (some ⟨g1, 0, none⟩)) = w5 at *
          have hvB := rpa_valid HX5.out
          have HN1 : Hid (T = A ++ (B1 ++ (B.drop a ++ C))) := by
            show _ = _
            rw [HTX.out, HB1.out, ← List.append_assoc (B.take a), List.take_append_drop]
          have HN2 : Hid (vld (B.drop a ++ C) = true) := by
            have h := hv
            rw [HN1.out, vld_cancel HVA.out, vld_cancel hvB] at h
            exact h
          have HN3 : Hid (B.drop a ++ C = [] ∨ n ≤ kT k A + kT k B1) := Or.inr (by rw [← kT_append HVA.out, ← HAB.out]; exact HQ.out)
          go_roundw
          case rel =>
            exact ⟨g1, A, B1, B.drop a ++ C, HX5, HN1, HVA, HN2, HA1, HN3, W0, W1, W2, W3, g5⟩
          case measure =>
            rw [hlen.out, textLen_of W0.out HX5.out (by omega), HLB.out]
            exact ha1
        · have HQ := Hid.mk4 hq
          rw [show decide (n ≤ kT k AB) = false from decide_eq_false hq]
          clear hq
          have hm3 : ∀ w : World, (method 253 54 (.agg #[.pointer (some ⟨g, 0, none⟩)]) "palinode/metric.behind").run Tryz.prog w = .ok (113, .agg #[.pointer (some ⟨g, 0, none⟩)]) w := fun _ => by kernel_rfl
          have HBH : Hid (∀ W, Below w4.heap.size w4 W → Calls Tryz.prog 113 #[.agg #[.pointer (some ⟨g, 0, none⟩)], .agg #[.pointer (some ⟨g1, 0, none⟩)]] W fun e w' => ∃ g', e = .returned (.agg #[.pointer (some ⟨g', 0, none⟩)]) ∧ RpA (strongE tb) w' (.pointer (some ⟨g', 0, none⟩)) (B.drop a) ∧ Below W.heap.size W w') := fun W hW => xbehind_any tb (HB4.out.later hW) (HX4.out.later hW) a (by omega) HB1.out (by omega) ((HT.out.later g4).later hW)
          have hx0 : ∀ x : GW (fun w' => Rt 55 w' b9 #[.int .i64 (AB.length : Nat), .int .i64 (kP (pts AB)), .int .i64 (kU (pts AB)), .int .i64 (kL (pts AB))]), x.w.cell? ⟨b9, 0, none⟩ = some (.int .i64 (AB.length : Nat)) := fun x => x.h.cell 0
          have hx1 : ∀ x : GW (fun w' => Rt 55 w' b9 #[.int .i64 (AB.length : Nat), .int .i64 (kP (pts AB)), .int .i64 (kU (pts AB)), .int .i64 (kL (pts AB))]), x.w.cell? ⟨b9, 1, none⟩ = some (.int .i64 (kP (pts AB))) := fun x => x.h.cell 1
          have hx2 : ∀ x : GW (fun w' => Rt 55 w' b9 #[.int .i64 (AB.length : Nat), .int .i64 (kP (pts AB)), .int .i64 (kU (pts AB)), .int .i64 (kL (pts AB))]), x.w.cell? ⟨b9, 2, none⟩ = some (.int .i64 (kU (pts AB))) := fun x => x.h.cell 2
          have hx3 : ∀ x : GW (fun w' => Rt 55 w' b9 #[.int .i64 (AB.length : Nat), .int .i64 (kP (pts AB)), .int .i64 (kU (pts AB)), .int .i64 (kL (pts AB))]), x.w.cell? ⟨b9, 3, none⟩ = some (.int .i64 (kL (pts AB))) := fun x => x.h.cell 3
          clear HB4 HX4
          go_wp2
          refine wp_region_turns (fun w' => ∃ x : GW (fun w' => Rt 55 w' b9 #[.int .i64 (AB.length : Nat), .int .i64 (kP (pts AB)), .int .i64 (kU (pts AB)), .int .i64 (kL (pts AB))]), w' = x.w) [4] 6 6 (by kernel_rfl) (by kernel_rfl) (fun d => ⟨⟨redrawn w4 d, U9.out.later' (below_redrawn w4 d)⟩, rfl⟩) ?_
          intro d
          have bd := below_redrawn w4 d
          have W0 := Hid.mk4 (U0.out.later' bd)
          have W1 := Hid.mk4 (U1.out.later' bd)
          have W2 := Hid.mk4 (U2.out.later' bd)
          have W3 := Hid.mk4 (U3.out.later' bd)
          have W7 := Hid.mk4 (U7.out.later' bd)
          have W9 := Hid.mk4 (U9.out.later' bd)
          have g5 := g4.trans (bd.mono g4.size)
          clear U0 U1 U2 U3 U7 U9 g4
          generalize redrawn w4 d = w5 at *
          simp only [pickAll, pickAt, List.nil_append, List.cons_append, List.append_nil]
          have hne : Nonempty (GW (fun w' => Rt 55 w' b9 #[.int .i64 (AB.length : Nat), .int .i64 (kP (pts AB)), .int .i64 (kU (pts AB)), .int .i64 (kL (pts AB))])) := ⟨⟨w5, W9.out⟩⟩
          repeat (go_big_quiet_step (fail))
          refine wpQuiet_nil ?_
          clear hx0 hx1 hx2 hx3 hne
          have c7 := W7.out.cell 0
          have c0 := W0.out.cell 0
          refine anyC_pick2 0 2 (by kernel_rfl) (by kernel_rfl) (by kernel_rfl) ?_ ?_
          · simp only [pickAll, pickAt, List.nil_append, List.cons_append, List.append_nil]
            go_wp2
            refine anyNext_mk ⟨⟨w5, W9.out⟩, rfl⟩ ?_
            refine anyC_pick2 1 2 (by kernel_rfl) (by kernel_rfl) (by kernel_rfl) ?_ ?_
            · simp only [pickAll, pickAt, List.nil_append, List.cons_append, List.append_nil]
              go_wp2
              refine anyNext_mk ⟨⟨w5, W9.out⟩, rfl⟩ ?_
              refine anyC_pick1 2 (by kernel_rfl) (by kernel_rfl) ?_
              simp only [pickAll, pickAt, List.nil_append, List.cons_append, List.append_nil]
              go_wp2
              refine anyNext_mk ⟨⟨w5, W9.out⟩, rfl⟩ ?_
              refine anyC_pick1 3 (by kernel_rfl) (by kernel_rfl) ?_
              simp only [pickAll, pickAt, List.nil_append, List.cons_append, List.append_nil]
              clear c7 c0
              go_wp2_with fail
              refine (HBH.out _ bd).mono ?_
              rintro e w6 ⟨g', rfl, hr', b6⟩
              have X0 := Hid.mk4 (W0.out.later' b6)
              have X1 := Hid.mk4 (W1.out.later' b6)
              have X2 := Hid.mk4 (W2.out.later' b6)
              have X3 := Hid.mk4 (W3.out.later' b6)
              have X9 := Hid.mk4 (W9.out.later' b6)
              have HR := Hid.mk4 hr'
              have g6 := g5.trans (b6.mono g5.size)
              clear W0 W1 W2 W3 W7 W9 g5 b6 bd HBH hr' hm3
              go_wp2
              refine anyNext_mk ⟨⟨w6, X9.out⟩, rfl⟩ ?_
              refine anyC_pick1 5 (by kernel_rfl) (by kernel_rfl) ?_
              simp only [pickAll, pickAt, List.nil_append, List.cons_append, List.append_nil]
              have c0 := X0.out.cell 0
              have fz := X0.out.fz
              have hlt := X0.out.lt
              go_wp2
              have Y0 := Hid.mk4 (X0.out.set1 (.pointer (some ⟨g', 0, none⟩)))
              have Y1 := Hid.mk4 (X1.out.other (g' := w.heap.size) (by omega) 0 (.pointer (some ⟨g', 0, none⟩)))
              have Y2 := Hid.mk4 (X2.out.other (g' := w.heap.size) (by omega) 0 (.pointer (some ⟨g', 0, none⟩)))
              have Y3 := Hid.mk4 (X3.out.other (g' := w.heap.size) (by omega) 0 (.pointer (some ⟨g', 0, none⟩)))
              have Y9 := Hid.mk4 (X9.out.other (g' := w.heap.size) (by omega) 0 (.pointer (some ⟨g', 0, none⟩)))
              have HR7 := Hid.mk4 (HR.out.putX X0.out (.pointer (some ⟨g', 0, none⟩)))
              have g7 := g6.setCell (p := ⟨w.heap.size, 0, none⟩) (by simp) (.pointer (some ⟨g', 0, none⟩))
              clear X0 X1 X2 X3 X9 HR g6 c0 fz hlt
              generalize w6.setCell ⟨w.heap.size, 0, none⟩ (.pointer (some ⟨g', 0, none⟩)) = w7 at *
              refine anyNext_mk ⟨⟨w7, Y9.out⟩, rfl⟩ ?_
              refine anyC_pick1 6 (by kernel_rfl) (by kernel_rfl) ?_
              simp only [pickAll, pickAt, List.nil_append, List.cons_append, List.append_nil]
              have fz := Y3.out.fz
              have c0 := Y3.out.cell 0; have c1 := Y3.out.cell 1; have c2 := Y3.out.cell 2; have c3 := Y3.out.cell 3
              have hlt := Y3.out.lt
              go_wp2
              refine anyNext_last (anyC_done (by kernel_rfl) ?_)
              have Z0 := Hid.mk4 (Y0.out.other4 (g' := w.heap.size + 1 + 1 + 1) (by omega) (.int .i64 (AB.length : Nat)) (.int .i64 (kP (pts AB))) (.int .i64 (kU (pts AB))) (.int .i64 (kL (pts AB))))
              have Z1 := Hid.mk4 (Y1.out.other4 (g' := w.heap.size + 1 + 1 + 1) (by omega) (.int .i64 (AB.length : Nat)) (.int .i64 (kP (pts AB))) (.int .i64 (kU (pts AB))) (.int .i64 (kL (pts AB))))
              have Z2 := Hid.mk4 (Y2.out.other4 (g' := w.heap.size + 1 + 1 + 1) (by omega) (.int .i64 (AB.length : Nat)) (.int .i64 (kP (pts AB))) (.int .i64 (kU (pts AB))) (.int .i64 (kL (pts AB))))
              have Z3 := Hid.mk4 (Y3.out.set4 (.int .i64 (AB.length : Nat)) (.int .i64 (kP (pts AB))) (.int .i64 (kU (pts AB))) (.int .i64 (kL (pts AB))))
              have HR8 := Hid.mk4 (HR7.out.putM Y3.out (AB.length : Nat) (kP (pts AB)) (kU (pts AB)) (kL (pts AB)))
              have g8 := below_set4 g7 (g := w.heap.size + 1 + 1 + 1) (by omega) (.int .i64 (AB.length : Nat)) (.int .i64 (kP (pts AB))) (.int .i64 (kU (pts AB))) (.int .i64 (kL (pts AB)))
              clear Y0 Y1 Y2 Y3 Y9 HR7 g7 fz c0 c1 c2 c3 hlt
              generalize (((w7.setCell ⟨w.heap.size + 1 + 1 + 1, 0, none⟩ (.int .i64 (AB.length : Nat))).setCell ⟨w.heap.size + 1 + 1 + 1, 1, none⟩ (.int .i64 (kP (pts AB)))).setCell ⟨w.heap.size + 1 + 1 + 1, 2, none⟩ (.int .i64 (kU (pts AB)))).setCell ⟨w.heap.size + 1 + 1 + 1, 3, none⟩ (.int .i64 (kL (pts AB))) = w8 at *
              have HN1 : Hid (T = AB ++ (B.drop a ++ C)) := by
                show _ = _
                rw [HTX.out, HAB.out, HB1.out, List.append_assoc, ← List.append_assoc (B.take a), List.take_append_drop]
              have HN2 : Hid (C = [] ∨ n ≤ kT k AB + kT k (B.drop a)) := by
                rcases HC1.out with h | h
                · exact Or.inl h
                · refine Or.inr ?_
                  have e1 : kT k AB + kT k (B.drop a) = kT k A + kT k B := by
                    rw [← kT_append HVAB.out, HAB.out, HB1.out, List.append_assoc, List.take_append_drop, kT_append HVA.out]
                  rw [e1]
                  exact h
              have HN3 : Hid (AB = [] ∨ kT k AB < n) := Or.inr (by have := HQ.out; omega)
              go_wp2
              go_roundw
              case rel =>
                exact ⟨g', AB, B.drop a, C, HR8, HN1, HVAB, HVC, HN3, HN2, Z0, Z1, Z2, Z3, g8⟩
              case measure =>
                rw [hlen.out, textLen_of Z0.out HR8.out (by rw [List.length_drop]; omega), List.length_drop]
                omega
            · simp only [pickAll, pickAt, List.nil_append, List.cons_append, List.append_nil]
              go_wp2
              refine anyNext_mk ⟨⟨w5, W9.out⟩, rfl⟩ ?_
              refine anyC_pick1 1 (by kernel_rfl) (by kernel_rfl) ?_
              simp only [pickAll, pickAt, List.nil_append, List.cons_append, List.append_nil]
              go_wp2
              refine anyNext_mk ⟨⟨w5, W9.out⟩, rfl⟩ ?_
              refine anyC_pick1 3 (by kernel_rfl) (by kernel_rfl) ?_
              simp only [pickAll, pickAt, List.nil_append, List.cons_append, List.append_nil]
              clear c7 c0
              go_wp2_with fail
              refine (HBH.out _ bd).mono ?_
              rintro e w6 ⟨g', rfl, hr', b6⟩
              have X0 := Hid.mk4 (W0.out.later' b6)
              have X1 := Hid.mk4 (W1.out.later' b6)
              have X2 := Hid.mk4 (W2.out.later' b6)
              have X3 := Hid.mk4 (W3.out.later' b6)
              have X9 := Hid.mk4 (W9.out.later' b6)
              have HR := Hid.mk4 hr'
              have g6 := g5.trans (b6.mono g5.size)
              clear W0 W1 W2 W3 W7 W9 g5 b6 bd HBH hr' hm3
              go_wp2
              refine anyNext_mk ⟨⟨w6, X9.out⟩, rfl⟩ ?_
              refine anyC_pick1 5 (by kernel_rfl) (by kernel_rfl) ?_
              simp only [pickAll, pickAt, List.nil_append, List.cons_append, List.append_nil]
              have c0 := X0.out.cell 0
              have fz := X0.out.fz
              have hlt := X0.out.lt
              go_wp2
              have Y0 := Hid.mk4 (X0.out.set1 (.pointer (some ⟨g', 0, none⟩)))
              have Y1 := Hid.mk4 (X1.out.other (g' := w.heap.size) (by omega) 0 (.pointer (some ⟨g', 0, none⟩)))
              have Y2 := Hid.mk4 (X2.out.other (g' := w.heap.size) (by omega) 0 (.pointer (some ⟨g', 0, none⟩)))
              have Y3 := Hid.mk4 (X3.out.other (g' := w.heap.size) (by omega) 0 (.pointer (some ⟨g', 0, none⟩)))
              have Y9 := Hid.mk4 (X9.out.other (g' := w.heap.size) (by omega) 0 (.pointer (some ⟨g', 0, none⟩)))
              have HR7 := Hid.mk4 (HR.out.putX X0.out (.pointer (some ⟨g', 0, none⟩)))
              have g7 := g6.setCell (p := ⟨w.heap.size, 0, none⟩) (by simp) (.pointer (some ⟨g', 0, none⟩))
              clear X0 X1 X2 X3 X9 HR g6 c0 fz hlt
              generalize w6.setCell ⟨w.heap.size, 0, none⟩ (.pointer (some ⟨g', 0, none⟩)) = w7 at *
              refine anyNext_mk ⟨⟨w7, Y9.out⟩, rfl⟩ ?_
              refine anyC_pick1 6 (by kernel_rfl) (by kernel_rfl) ?_
              simp only [pickAll, pickAt, List.nil_append, List.cons_append, List.append_nil]
              have fz := Y3.out.fz
              have c0 := Y3.out.cell 0; have c1 := Y3.out.cell 1; have c2 := Y3.out.cell 2; have c3 := Y3.out.cell 3
              have hlt := Y3.out.lt
              go_wp2
              refine anyNext_last (anyC_done (by kernel_rfl) ?_)
              have Z0 := Hid.mk4 (Y0.out.other4 (g' := w.heap.size + 1 + 1 + 1) (by omega) (.int .i64 (AB.length : Nat)) (.int .i64 (kP (pts AB))) (.int .i64 (kU (pts AB))) (.int .i64 (kL (pts AB))))
              have Z1 := Hid.mk4 (Y1.out.other4 (g' := w.heap.size + 1 + 1 + 1) (by omega) (.int .i64 (AB.length : Nat)) (.int .i64 (kP (pts AB))) (.int .i64 (kU (pts AB))) (.int .i64 (kL (pts AB))))
              have Z2 := Hid.mk4 (Y2.out.other4 (g' := w.heap.size + 1 + 1 + 1) (by omega) (.int .i64 (AB.length : Nat)) (.int .i64 (kP (pts AB))) (.int .i64 (kU (pts AB))) (.int .i64 (kL (pts AB))))
              have Z3 := Hid.mk4 (Y3.out.set4 (.int .i64 (AB.length : Nat)) (.int .i64 (kP (pts AB))) (.int .i64 (kU (pts AB))) (.int .i64 (kL (pts AB))))
              have HR8 := Hid.mk4 (HR7.out.putM Y3.out (AB.length : Nat) (kP (pts AB)) (kU (pts AB)) (kL (pts AB)))
              have g8 := below_set4 g7 (g := w.heap.size + 1 + 1 + 1) (by omega) (.int .i64 (AB.length : Nat)) (.int .i64 (kP (pts AB))) (.int .i64 (kU (pts AB))) (.int .i64 (kL (pts AB)))
              clear Y0 Y1 Y2 Y3 Y9 HR7 g7 fz c0 c1 c2 c3 hlt
              generalize (((w7.setCell ⟨w.heap.size + 1 + 1 + 1, 0, none⟩ (.int .i64 (AB.length : Nat))).setCell ⟨w.heap.size + 1 + 1 + 1, 1, none⟩ (.int .i64 (kP (pts AB)))).setCell ⟨w.heap.size + 1 + 1 + 1, 2, none⟩ (.int .i64 (kU (pts AB)))).setCell ⟨w.heap.size + 1 + 1 + 1, 3, none⟩ (.int .i64 (kL (pts AB))) = w8 at *
              have HN1 : Hid (T = AB ++ (B.drop a ++ C)) := by
                show _ = _
                rw [HTX.out, HAB.out, HB1.out, List.append_assoc, ← List.append_assoc (B.take a), List.take_append_drop]
              have HN2 : Hid (C = [] ∨ n ≤ kT k AB + kT k (B.drop a)) := by
                rcases HC1.out with h | h
                · exact Or.inl h
                · refine Or.inr ?_
                  have e1 : kT k AB + kT k (B.drop a) = kT k A + kT k B := by
                    rw [← kT_append HVAB.out, HAB.out, HB1.out, List.append_assoc, List.take_append_drop, kT_append HVA.out]
                  rw [e1]
                  exact h
              have HN3 : Hid (AB = [] ∨ kT k AB < n) := Or.inr (by have := HQ.out; omega)
              go_wp2
              go_roundw
              case rel =>
                exact ⟨g', AB, B.drop a, C, HR8, HN1, HVAB, HVC, HN3, HN2, Z0, Z1, Z2, Z3, g8⟩
              case measure =>
                rw [hlen.out, textLen_of Z0.out HR8.out (by rw [List.length_drop]; omega), List.length_drop]
                omega
          · simp only [pickAll, pickAt, List.nil_append, List.cons_append, List.append_nil]
            go_wp2
            refine anyNext_mk ⟨⟨w5, W9.out⟩, rfl⟩ ?_
            refine anyC_pick1 0 (by kernel_rfl) (by kernel_rfl) ?_
            simp only [pickAll, pickAt, List.nil_append, List.cons_append, List.append_nil]
            go_wp2
            refine anyNext_mk ⟨⟨w5, W9.out⟩, rfl⟩ ?_
            refine anyC_pick1 1 (by kernel_rfl) (by kernel_rfl) ?_
            simp only [pickAll, pickAt, List.nil_append, List.cons_append, List.append_nil]
            go_wp2
            refine anyNext_mk ⟨⟨w5, W9.out⟩, rfl⟩ ?_
            refine anyC_pick1 3 (by kernel_rfl) (by kernel_rfl) ?_
            simp only [pickAll, pickAt, List.nil_append, List.cons_append, List.append_nil]
            clear c7 c0
            go_wp2_with fail
            refine (HBH.out _ bd).mono ?_
            rintro e w6 ⟨g', rfl, hr', b6⟩
            have X0 := Hid.mk4 (W0.out.later' b6)
            have X1 := Hid.mk4 (W1.out.later' b6)
            have X2 := Hid.mk4 (W2.out.later' b6)
            have X3 := Hid.mk4 (W3.out.later' b6)
            have X9 := Hid.mk4 (W9.out.later' b6)
            have HR := Hid.mk4 hr'
            have g6 := g5.trans (b6.mono g5.size)
            clear W0 W1 W2 W3 W7 W9 g5 b6 bd HBH hr' hm3
            go_wp2
            refine anyNext_mk ⟨⟨w6, X9.out⟩, rfl⟩ ?_
            refine anyC_pick1 5 (by kernel_rfl) (by kernel_rfl) ?_
            simp only [pickAll, pickAt, List.nil_append, List.cons_append, List.append_nil]
            have c0 := X0.out.cell 0
            have fz := X0.out.fz
            have hlt := X0.out.lt
            go_wp2
            have Y0 := Hid.mk4 (X0.out.set1 (.pointer (some ⟨g', 0, none⟩)))
            have Y1 := Hid.mk4 (X1.out.other (g' := w.heap.size) (by omega) 0 (.pointer (some ⟨g', 0, none⟩)))
            have Y2 := Hid.mk4 (X2.out.other (g' := w.heap.size) (by omega) 0 (.pointer (some ⟨g', 0, none⟩)))
            have Y3 := Hid.mk4 (X3.out.other (g' := w.heap.size) (by omega) 0 (.pointer (some ⟨g', 0, none⟩)))
            have Y9 := Hid.mk4 (X9.out.other (g' := w.heap.size) (by omega) 0 (.pointer (some ⟨g', 0, none⟩)))
            have HR7 := Hid.mk4 (HR.out.putX X0.out (.pointer (some ⟨g', 0, none⟩)))
            have g7 := g6.setCell (p := ⟨w.heap.size, 0, none⟩) (by simp) (.pointer (some ⟨g', 0, none⟩))
            clear X0 X1 X2 X3 X9 HR g6 c0 fz hlt
            generalize w6.setCell ⟨w.heap.size, 0, none⟩ (.pointer (some ⟨g', 0, none⟩)) = w7 at *
            refine anyNext_mk ⟨⟨w7, Y9.out⟩, rfl⟩ ?_
            refine anyC_pick1 6 (by kernel_rfl) (by kernel_rfl) ?_
            simp only [pickAll, pickAt, List.nil_append, List.cons_append, List.append_nil]
            have fz := Y3.out.fz
            have c0 := Y3.out.cell 0; have c1 := Y3.out.cell 1; have c2 := Y3.out.cell 2; have c3 := Y3.out.cell 3
            have hlt := Y3.out.lt
            go_wp2
            refine anyNext_last (anyC_done (by kernel_rfl) ?_)
            have Z0 := Hid.mk4 (Y0.out.other4 (g' := w.heap.size + 1 + 1 + 1) (by omega) (.int .i64 (AB.length : Nat)) (.int .i64 (kP (pts AB))) (.int .i64 (kU (pts AB))) (.int .i64 (kL (pts AB))))
            have Z1 := Hid.mk4 (Y1.out.other4 (g' := w.heap.size + 1 + 1 + 1) (by omega) (.int .i64 (AB.length : Nat)) (.int .i64 (kP (pts AB))) (.int .i64 (kU (pts AB))) (.int .i64 (kL (pts AB))))
            have Z2 := Hid.mk4 (Y2.out.other4 (g' := w.heap.size + 1 + 1 + 1) (by omega) (.int .i64 (AB.length : Nat)) (.int .i64 (kP (pts AB))) (.int .i64 (kU (pts AB))) (.int .i64 (kL (pts AB))))
            have Z3 := Hid.mk4 (Y3.out.set4 (.int .i64 (AB.length : Nat)) (.int .i64 (kP (pts AB))) (.int .i64 (kU (pts AB))) (.int .i64 (kL (pts AB))))
            have HR8 := Hid.mk4 (HR7.out.putM Y3.out (AB.length : Nat) (kP (pts AB)) (kU (pts AB)) (kL (pts AB)))
            have g8 := below_set4 g7 (g := w.heap.size + 1 + 1 + 1) (by omega) (.int .i64 (AB.length : Nat)) (.int .i64 (kP (pts AB))) (.int .i64 (kU (pts AB))) (.int .i64 (kL (pts AB)))
            clear Y0 Y1 Y2 Y3 Y9 HR7 g7 fz c0 c1 c2 c3 hlt
            generalize (((w7.setCell ⟨w.heap.size + 1 + 1 + 1, 0, none⟩ (.int .i64 (AB.length : Nat))).setCell ⟨w.heap.size + 1 + 1 + 1, 1, none⟩ (.int .i64 (kP (pts AB)))).setCell ⟨w.heap.size + 1 + 1 + 1, 2, none⟩ (.int .i64 (kU (pts AB)))).setCell ⟨w.heap.size + 1 + 1 + 1, 3, none⟩ (.int .i64 (kL (pts AB))) = w8 at *
            have HN1 : Hid (T = AB ++ (B.drop a ++ C)) := by
              show _ = _
              rw [HTX.out, HAB.out, HB1.out, List.append_assoc, ← List.append_assoc (B.take a), List.take_append_drop]
            have HN2 : Hid (C = [] ∨ n ≤ kT k AB + kT k (B.drop a)) := by
              rcases HC1.out with h | h
              · exact Or.inl h
              · refine Or.inr ?_
                have e1 : kT k AB + kT k (B.drop a) = kT k A + kT k B := by
                  rw [← kT_append HVAB.out, HAB.out, HB1.out, List.append_assoc, List.take_append_drop, kT_append HVA.out]
                rw [e1]
                exact h
            have HN3 : Hid (AB = [] ∨ kT k AB < n) := Or.inr (by have := HQ.out; omega)
            go_wp2
            go_roundw
            case rel =>
              exact ⟨g', AB, B.drop a, C, HR8, HN1, HVAB, HVC, HN3, HN2, Z0, Z1, Z2, Z3, g8⟩
            case measure =>
              rw [hlen.out, textLen_of Z0.out HR8.out (by rw [List.length_drop]; omega), List.length_drop]
              omega
end Go.Proofs.YtfgefdkkjfjjjabGreatDoor
namespace Go.Proofs.YtfgefdkkjfjjjabGreatDoor
open Go.RowKit Go.Sort
set_option linter.unusedSimpArgs false
set_option linter.unusedVariables false

/-- A rope, or none. -/
def RpN (tb : Nat × Nat) (w : World) (r : Value) (T : List UInt8) : Prop := (r = .pointer none ∧ T = []) ∨ RpA (strongE tb) w r T
theorem RpN.later {tb : Nat × Nat} {w w' : World} {r : Value} {T : List UInt8} (h : RpN tb w r T) (hb : Below w.heap.size w w') : RpN tb w' r T := h.imp id (fun h => h.later hb)
theorem RpN.ptr {tb : Nat × Nat} {w : World} {r : Value} {T : List UInt8} (h : RpN tb w r T) : ∃ u, r = .pointer u := by
  rcases h with ⟨e, _⟩ | h
  · exact ⟨_, e⟩
  · obtain ⟨g, e⟩ := h.ptr
    exact ⟨_, e⟩
theorem xof_n (tb : Nat × Nat) {r : Value} {T : List UInt8} {w : World} (h : RpN tb w r T) (hT : Tabs w tb) :
    Calls Tryz.prog 26 #[r] w fun e w' => ∃ g, e = .returned (.agg #[.pointer (some ⟨g, 0, none⟩)]) ∧ RpA (strongE tb) w' (.pointer (some ⟨g, 0, none⟩)) T ∧ Below w.heap.size w w' := by
  rcases h with ⟨rfl, rfl⟩ | h
  · exact xof_nil tb w hT
  · obtain ⟨g, rfl⟩ := h.ptr
    exact (xof_any g w).mono fun e w' ⟨he, hb⟩ => ⟨g, he, h.later hb, hb⟩

theorem toB_range {T : List UInt8} (hv : vld T = true) (k n : Int) : 0 ≤ toB (tx T) k n ∧ toB (tx T) k n ≤ (T.length : Int) := by
  unfold toB
  rw [show (tx T).data.toList = T from rfl]
  obtain ⟨r1, r2, e1, e2, _, _⟩ := rch_split k n (pts T) []
  have e3 : kB (rch k n [] (pts T)) + kB r2 = (T.length : Int) := by
    rw [e2, List.nil_append, ← kB_append, ← e1]
    unfold kB
    rw [flat_pts' hv]
  have h1 : 0 ≤ kB (rch k n [] (pts T)) := by unfold kB; omega
  have h2 : 0 ≤ kB r2 := by unfold kB; omega
  repeat' split
  all_goals omega

set_option maxHeartbeats 4000000 in
set_option maxRecDepth 100000 in
/-- To. -/
theorem mto_any (tb : Nat × Nat) {r : Value} {T : List UInt8} {w : World} (k n : Int) (h : RpN tb w r T) (hz : T.length ≤ 20000) (hn : -9223372036854775808 ≤ n ∧ n ≤ 9223372036854775807) (hT : Tabs w tb) :
    Calls Tryz.prog 9 #[r, .int .i64 k, .int .i64 n] w fun e w' => e = .returned (.tuple #[.int .i64 (toB (tx T) k n), .int .i64 (toE (tx T) k n)]) ∧ Below w.heap.size w w' := by
  obtain ⟨u, rfl⟩ := h.ptr
  have b0 : Below w.heap.size w ((w.alloc (Obj.cells #[.int .i64 k] 3)).alloc (Obj.cells #[.int .i64 n] 3)) := ((Below.refl _ _).alloc (Nat.le_refl _) _).alloc (by simp) _
  have R0 : Hid (Rt 3 ((w.alloc (Obj.cells #[.int .i64 k] 3)).alloc (Obj.cells #[.int .i64 n] 3)) w.heap.size #[.int .i64 k]) := (Rt.new _ w _).alloc _
  have R1 : Hid (Rt 3 ((w.alloc (Obj.cells #[.int .i64 k] 3)).alloc (Obj.cells #[.int .i64 n] 3)) (w.heap.size + 1) #[.int .i64 n]) := Rt.new' (by simp) _
  have HX := Hid.mk4 (xof_n tb (h.later b0) (hT.later b0))
  have HT := Hid.mk4 hT
  obtain ⟨rB, hrB⟩ : ∃ rB, rB = toB (tx T) k n := ⟨_, rfl⟩
  obtain ⟨rE, hrE⟩ : ∃ rE, rE = toE (tx T) k n := ⟨_, rfl⟩
  rw [← hrB, ← hrE]
  have HRB := Hid.mk4 hrB
  have HRE := Hid.mk4 hrE
  clear h hT hrB hrE
  go_enter Tryz.func9, Tryz.ntmps9
  go_wp2_with fail
  refine HX.out.mono ?_
  rintro e w1 ⟨g, rfl, hr, b1⟩
  have S0 := Hid.mk4 (R0.out.later' b1)
  have S1 := Hid.mk4 (R1.out.later' b1)
  have g1 := b0.trans (b1.mono b0.size)
  have HD := Hid.mk4 (down_any tb k n w.heap.size (w.heap.size + 1) hr hz (S0.out.cell 0) (S1.out.cell 0) (HT.out.later g1))
  clear HX R0 R1 b0 b1 hr
  go_wp2_with fail
  refine HD.out.mono ?_
  rintro e w2 ⟨g', A, B, C, rfl, hB, hTX, hvA, hvC, hA1, hC1, b2⟩
  have hvB := rpa_valid hB
  have hlen : A.length ≤ 20000 ∧ B.length ≤ 20000 := by
    have := congrArg List.length hTX
    rw [List.length_append, List.length_append] at this
    omega
  have hP := to_part hvA hvB hvC k n hA1 hC1
  rw [← hTX, ← HRB.out, ← HRE.out] at hP
  have hk0 : kT k A = 0 ∨ kT k A < n := hA1.imp (fun e => by rw [e, kT_nil]) id
  have hk1 := kT_nonneg k A
  have T0 := Hid.mk4 (S0.out.later' b2)
  have T1 := Hid.mk4 (S1.out.later' b2)
  have g2 := g1.trans (b2.mono g1.size)
  have HB := Hid.mk4 hB
  have HG : Hid (∀ W, Calls Tryz.prog 28 #[.agg #[.int .i64 (A.length : Nat), .int .i64 (kP (pts A)), .int .i64 (kU (pts A)), .int .i64 (kL (pts A))], .int .i64 k] W fun e w' => e = .returned (.int .i64 (kT k A)) ∧ Below W.heap.size W w') := fun W => by
    have := mget_any k (A.length : Nat) (kP (pts A)) (kU (pts A)) (kL (pts A)) W
    rw [kT_counts hvA] at this
    exact this
  have HTO : Hid (∀ W, Tabs W tb → Calls Tryz.prog 29 #[.string ⟨B.toArray⟩, .int .i64 k, .int .i64 (n - kT k A)] W fun e w' => e = .returned (.tuple #[.int .i64 (toB (tx B) k (n - kT k A)), .int .i64 (toE (tx B) k (n - kT k A))]) ∧ Below W.heap.size W w') := fun W hW => to_any (tx B) k (n - kT k A) W tb (by show B.length ≤ _; omega) hW
  have hrg := toB_range hvB k (n - kT k A)
  clear hB hTX hvA hvB hvC hA1 hC1 HD S0 S1 g1 b2
  clear HRB HRE
  generalize toB (tx B) k (n - kT k A) = qB at *
  generalize toE (tx B) k (n - kT k A) = qE at *
  have HPX := Hid.mk4 hP
  generalize kT k A = kA at *
  have hs1 : -9223372036854775808 ≤ n - kA := by omega
  have hs2 : n - kA ≤ 9223372036854775807 := by omega
  clear hP hk0 hk1
  have b3 : Below w2.heap.size w2 ((w2.alloc (Obj.cells #[.pointer (some ⟨g', 0, none⟩)] 54)).alloc (Obj.cells #[.int .i64 (A.length : Nat), .int .i64 (kP (pts A)), .int .i64 (kU (pts A)), .int .i64 (kL (pts A))] 55)) := ((Below.refl _ _).alloc (Nat.le_refl _) _).alloc (by simp) _
  have V8 : Hid (Rt 54 ((w2.alloc (Obj.cells #[.pointer (some ⟨g', 0, none⟩)] 54)).alloc (Obj.cells #[.int .i64 (A.length : Nat), .int .i64 (kP (pts A)), .int .i64 (kU (pts A)), .int .i64 (kL (pts A))] 55)) w2.heap.size #[.pointer (some ⟨g', 0, none⟩)]) := (Rt.new _ w2 _).alloc _
  have V9 : Hid (Rt 55 ((w2.alloc (Obj.cells #[.pointer (some ⟨g', 0, none⟩)] 54)).alloc (Obj.cells #[.int .i64 (A.length : Nat), .int .i64 (kP (pts A)), .int .i64 (kU (pts A)), .int .i64 (kL (pts A))] 55)) (w2.heap.size + 1) #[.int .i64 (A.length : Nat), .int .i64 (kP (pts A)), .int .i64 (kU (pts A)), .int .i64 (kL (pts A))]) := Rt.new' (by simp) _
  have V0 := Hid.mk4 (T0.out.later' b3)
  have V1 := Hid.mk4 (T1.out.later' b3)
  have HB3 := Hid.mk4 (HB.out.later b3)
  have g3 := g2.trans (b3.mono g2.size)
  clear T0 T1 HB g2 b3
  go_wp2
  generalize (w2.alloc (Obj.cells #[.pointer (some ⟨g', 0, none⟩)] 54)).alloc (Obj.cells #[.int .i64 (A.length : Nat), .int .i64 (kP (pts A)), .int .i64 (kU (pts A)), .int .i64 (kL (pts A))] 55) = w3 at *
  have k8 := cell_regrown (V8.out.cell 0)
  have k0 := cell_regrown (V0.out.cell 0)
  have k1 := cell_regrown (V1.out.cell 0)
  have e0 := cell_regrown (V9.out.cell 0); have e1 := cell_regrown (V9.out.cell 1); have e2 := cell_regrown (V9.out.cell 2); have e3 := cell_regrown (V9.out.cell 3)
  refine wp_region_mix [([0, 1, 3, 4, 5, 6], [2]), ([], [7]), ([8], [9]), ([10, 11, 12, 13, 14], [])] (by kernel_rfl) (by kernel_rfl) ?_
  rintro w4 ⟨d4, rfl⟩
  refine wpPlan_cons ?_
  simp only [pickAll, pickAt, List.nil_append, List.cons_append, List.append_nil]
  repeat (go_big_quiet_step (fail))
  refine wpQuiet_nil ?_
  clear k8 k0 k1 e0 e1 e2 e3
  have bd := below_redrawn w3 d4
  go_wp2_with fail
  refine (rpa_string (strongE tb) (HB3.out.later bd) (by omega)).mono ?_
  rintro e w5 ⟨rfl, b5⟩
  have g5 := bd.trans (b5.mono bd.size)
  clear b5 bd
  go_wp2
  refine mixNext_below g5 ?_
  refine wpPlan_cons ?_
  simp only [pickAll, pickAt, List.nil_append, List.cons_append, List.append_nil]
  refine wpQuiet_nil ?_
  go_wp2_with fail
  refine (HG.out _).mono ?_
  rintro e w6 ⟨rfl, b6⟩
  have g6 := g5.trans (b6.mono g5.size)
  clear b6 g5 HG
  go_wp2
  refine mixNext_below g6 ?_
  refine wpPlan_cons ?_
  simp only [pickAll, pickAt, List.nil_append, List.cons_append, List.append_nil]
  repeat (go_big_quiet_step (fail))
  refine wpQuiet_nil ?_
  have t6 := (HT.out.later g3).later g6
  go_wp2_with fail
  refine (HTO.out _ t6).mono ?_
  rintro e w7 ⟨rfl, b7⟩
  have g7 := g6.trans (b7.mono g6.size)
  clear b7 g6 HTO t6
  go_wp2
  refine mixNext_below g7 ?_
  refine wpPlan_cons ?_
  simp only [pickAll, pickAt, List.nil_append, List.cons_append, List.append_nil]
  repeat (go_big_quiet_step (fail))
  refine wpQuiet_nil ?_
  refine mixNext_below g7 (wpPlan_nil ?_)
  have c0 := (V9.out.later' g7).cell 0
  have gz := g3.trans (g7.mono g3.size)
  clear V8 V9 V0 V1 HB3 g3 g7
  by_cases hq : qE = 0
  · have hP := HPX.out
    rw [if_pos hq] at hP
    obtain ⟨h1, h2⟩ := hP
    subst hq
    subst h1
    subst h2
    clear HPX
    go_wp2
    go_ret2
    exact ⟨rfl, gz⟩
  · have hP := HPX.out
    rw [if_neg hq] at hP
    obtain ⟨h1, h2⟩ := hP
    subst h1
    subst h2
    have q1 : (rE != 0) = true := by simpa using hq
    have q2 : (rE == 0) = false := by simpa using hq
    clear HPX hq
    go_wp2
    go_ret2
    exact ⟨rfl, gz⟩

set_option maxHeartbeats 2000000 in
set_option maxRecDepth 100000 in
/-- Whole. -/
theorem mwhole_any (tb : Nat × Nat) {r : Value} {T : List UInt8} {w : World} (k : Int) (h : RpN tb w r T) (hz : T.length ≤ 20000) (hT : Tabs w tb) :
    Calls Tryz.prog 14 #[r, .int .i64 k] w fun e w' => e = .returned (.int .i64 (kT k T)) ∧ Below w.heap.size w w' := by
  obtain ⟨u, rfl⟩ := h.ptr
  have HX := Hid.mk4 (xof_n tb h hT)
  clear h hT
  go_enter Tryz.func14, Tryz.ntmps14
  go_wp2_with fail
  refine HX.out.mono ?_
  rintro e w1 ⟨g, rfl, hr, b1⟩
  have hv := rpa_valid hr
  have HS := Hid.mk4 (xsum_any tb hr (by omega))
  have HG : Hid (∀ W, Calls Tryz.prog 28 #[.agg #[.int .i64 (T.length : Nat), .int .i64 (kP (pts T)), .int .i64 (kU (pts T)), .int .i64 (kL (pts T))], .int .i64 k] W fun e w' => e = .returned (.int .i64 (kT k T)) ∧ Below W.heap.size W w') := fun W => by
    have := mget_any k (T.length : Nat) (kP (pts T)) (kU (pts T)) (kL (pts T)) W
    rw [kT_counts hv] at this
    exact this
  clear HX hr hv
  go_wp2_with fail
  refine HS.out.mono ?_
  rintro e w2 ⟨rfl, b2⟩
  have g2 := b1.trans (b2.mono b1.size)
  clear HS b1 b2
  go_wp2_with fail
  refine (HG.out _).mono ?_
  rintro e w3 ⟨rfl, b3⟩
  clear HG
  go_wp2
  go_ret
  exact ⟨rfl, g2.trans (b3.mono g2.size)⟩

theorem frE_nil (k : Int) : frE ⟨#[]⟩ k 0 = if decide (0 ≤ k ∧ k ≤ 3) = true then 0 else 12 := by
  unfold frE
  rw [show (ctb ⟨#[]⟩ k) = decide (0 ≤ k ∧ k ≤ 3) from ctb_valid (T := []) rfl k]
  have he : edg ⟨#[]⟩ 0 = true := edge_start (s := ⟨#[]⟩) (cs1 := []) (cs2 := []) rfl (by intro c hc; cases hc) (by intro c hc; cases hc)
  by_cases h : decide (0 ≤ k ∧ k ≤ 3) = true
  · rw [if_neg (by rw [h]; simp), if_neg (by simp), if_neg (by rw [he]; simp), if_pos h]
  · rw [if_pos (by simpa using h), if_neg h]

set_option maxHeartbeats 2000000 in
set_option maxRecDepth 100000 in
/-- known. -/
theorem mknown_any (tb : Nat × Nat) (k : Int) (w : World) (hT : Tabs w tb) :
    Calls Tryz.prog 34 #[.int .i64 k] w fun e w' => e = .returned (.bool (decide (0 ≤ k ∧ k ≤ 3))) ∧ Below w.heap.size w w' := by
  have H := Hid.mk4 (from_any ⟨#[]⟩ k 0 w tb (by decide) hT)
  rw [frE_nil] at H
  generalize frB ⟨#[]⟩ k 0 = z at *
  by_cases h : decide (0 ≤ k ∧ k ≤ 3) = true
  · rw [if_pos h] at H
    rw [h]
    clear h
    go_enter Tryz.func34, Tryz.ntmps34
    go_wp2_with fail
    refine H.out.mono ?_
    rintro e w1 ⟨rfl, b1⟩
    clear H
    go_wp2
    go_ret
    exact ⟨rfl, b1⟩
  · rw [if_neg h] at H
    rw [Bool.not_eq_true] at h
    rw [h]
    clear h
    go_enter Tryz.func34, Tryz.ntmps34
    go_wp2_with fail
    refine H.out.mono ?_
    rintro e w1 ⟨rfl, b1⟩
    clear H
    go_wp2
    go_ret
    exact ⟨rfl, b1⟩
end Go.Proofs.YtfgefdkkjfjjjabGreatDoor
