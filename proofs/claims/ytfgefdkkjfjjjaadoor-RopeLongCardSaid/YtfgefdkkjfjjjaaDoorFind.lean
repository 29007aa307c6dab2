/- locate's closure; Tree.Find at it. -/
import Derived.Test.YtfgefdkkjfjjjaaDoorTreeC
import Derived.Test.YtfgefdkkjfjjjaaDoorTreeG
namespace Go.Proofs.YtfgefdkkjfjjjaaDoor
open Go.RowKit Go.Sort
set_option linter.unusedSimpArgs false
set_option linter.unusedVariables false

def fnv (b : Nat) : Value := .func (.func 50) #[] #[.pointer (some ⟨b, 0, none⟩)]
set_option maxHeartbeats 1000000 in
set_option maxRecDepth 100000 in
/-- The closure. -/
theorem above_any (x0 x1 x2 x3 at0 : Int) (b : Nat) (w : World) (hc : w.cell? ⟨b, 0, none⟩ = some (.int .i64 at0)) :
    Calls Tryd.prog 50 #[.agg #[.int .i64 x0, .int .i64 x1, .int .i64 x2, .int .i64 x3], .pointer (some ⟨b, 0, none⟩)] w fun e w' => e = .returned (.bool (decide (at0 ≤ x0))) ∧ Below w.heap.size w w' := by
  have b0 : Below w.heap.size w (w.alloc (Obj.cells #[.int .i64 x0, .int .i64 x1, .int .i64 x2, .int .i64 x3] 74)) := (Below.refl _ _).alloc (Nat.le_refl _) _
  have hc' := cell_after hc b0
  clear hc
  go_enter Tryd.func50, Tryd.ntmps50
  go_wp2
  go_ret
  exact ⟨rfl, b0⟩

/-- Two results, the second through a cell. -/
theorem results_int_counts {fn : Func} {p q : Tmp} (h : fn.results = #[.tmp p, .cell q 74]) (tmps : Array Value) (w : World) (g : Nat) (v x0 x1 x2 x3 : Value)
    (hp : tmps.getD p undef = v) (hq : tmps.getD q undef = .pointer (some ⟨g, 0, none⟩)) (hg : Rt 74 w g #[x0, x1, x2, x3]) : (results fn tmps).run Tryd.prog w = .ok (.tuple #[v, .agg #[x0, x1, x2, x3]]) w := by
  have hq' : tmps[q]?.getD undef = .pointer (some ⟨g, 0, none⟩) := by simpa using hq
  have hp' : tmps[p]?.getD undef = v := by simpa using hp
  simp [results, h, hq', hp', asAddr, run_loadVar_row w g 74 74 _ (0, 0) _ hg Tryd.underlying74 rfl (by kernel_rfl)]

set_option maxHeartbeats 4000000 in
set_option maxRecDepth 100000 in
theorem find_nil (b : Nat) (w : World) :
    Calls Tryd.prog 49 #[.agg #[.pointer none], .func (.func 50) #[] #[.pointer (some ⟨b, 0, none⟩)]] w fun e w' => e = .returned (.tuple #[.int .i64 0, .agg #[.int .i64 0, .int .i64 0, .int .i64 0, .int .i64 0]]) ∧ Below w.heap.size w w' := by
  have b0 : Below w.heap.size w (((w.alloc (Obj.cells #[.pointer none] 61)).alloc (Obj.cells #[.int .i64 0, .int .i64 0, .int .i64 0, .int .i64 0] 74)).alloc (Obj.cells #[.int .i64 0, .int .i64 0, .int .i64 0, .int .i64 0] 74)) :=
    (((Below.refl _ _).alloc (Nat.le_refl _) _).alloc (by simp) _).alloc (by simp <;> omega) _
  have R1 : Hid (Rt 74 (((w.alloc (Obj.cells #[.pointer none] 61)).alloc (Obj.cells #[.int .i64 0, .int .i64 0, .int .i64 0, .int .i64 0] 74)).alloc (Obj.cells #[.int .i64 0, .int .i64 0, .int .i64 0, .int .i64 0] 74)) (w.heap.size + 1) #[.int .i64 0, .int .i64 0, .int .i64 0, .int .i64 0]) := (Rt.new' (by simp) _).alloc _
  have R2 : Hid (Rt 74 (((w.alloc (Obj.cells #[.pointer none] 61)).alloc (Obj.cells #[.int .i64 0, .int .i64 0, .int .i64 0, .int .i64 0] 74)).alloc (Obj.cells #[.int .i64 0, .int .i64 0, .int .i64 0, .int .i64 0] 74)) (w.heap.size + 1 + 1) #[.int .i64 0, .int .i64 0, .int .i64 0, .int .i64 0]) := Rt.new' (by simp) _
  go_enter Tryd.func49, Tryd.ntmps49
  go_wp2
  generalize (((w.alloc (Obj.cells #[.pointer none] 61)).alloc (Obj.cells #[.int .i64 0, .int .i64 0, .int .i64 0, .int .i64 0] 74)).alloc (Obj.cells #[.int .i64 0, .int .i64 0, .int .i64 0, .int .i64 0] 74)) = w1 at *
  have k0 := cell_regrown (R2.out.cell 0); have k1 := cell_regrown (R2.out.cell 1); have k2 := cell_regrown (R2.out.cell 2); have k3 := cell_regrown (R2.out.cell 3)
  refine wp_region_below_last (by kernel_rfl) (by kernel_rfl) (by kernel_rfl) ?_
  simp only [mute, idle, lastOf]
  repeat (go_big_quiet_step (fail))
  refine wpQuiet_nil ?_
  intro _ hw'
  obtain ⟨⟨dq, osq⟩, hw''⟩ := hw'
  subst hw''
  have bq := below_regrown w1 dq osq
  have R3 := Hid.mk4 (R1.out.later' bq)
  have b2 := b0.trans (bq.mono b0.size)
  clear k0 k1 k2 k3 bq R1 R2
  generalize grow (redrawn w1 dq) osq = w6 at *
  have c0 := R3.out.cell 0; have c1 := R3.out.cell 1; have c2 := R3.out.cell 2; have c3 := R3.out.cell 3; have fz := R3.out.fz
  have hlt := R3.out.lt
  go_wp2
  refine bodyPost_ret (results_int_counts rfl _ _ (w.heap.size + 1) _ _ _ _ _ rfl rfl (R3.out.set4 _ _ _ _)) rfl ⟨rfl, below_set4 b2 (by omega) _ _ _ _⟩

/-- Bytes of a row of texts. -/
def szs (ls : List ByteArray) : Nat := (ls.map ByteArray.size).sum
theorem szs_append (a b : List ByteArray) : szs (a ++ b) = szs a + szs b := by simp [szs]
theorem szs_nil : szs [] = 0 := rfl
theorem szs_cons (s : ByteArray) (r : List ByteArray) : szs (s :: r) = s.size + szs r := by simp [szs]
theorem NdA.cellsz {E : Env} {A : Nat → Prop} {w : World} {d g : Nat} {ls : List ByteArray} (h : NdA E A w d g ls) (hz : szs ls ≤ 1099511627776) : w.cell? ⟨g, 2, none⟩ = some (.int .i64 (szs ls : Nat)) ∧ ∃ x1 x2 x3, w.cell? ⟨g, 3, none⟩ = some (.int .i64 x1) ∧ w.cell? ⟨g, 4, none⟩ = some (.int .i64 x2) ∧ w.cell? ⟨g, 5, none⟩ = some (.int .i64 x3) := by
  obtain ⟨_, _, x0, x1, x2, x3, hk, h2, h3, h4, h5⟩ := h.cells
  have e := E.bytes hk
  have : x0 = (szs ls : Nat) := by rw [e]; unfold wrap64; change _ = ((szs ls : Nat) : Int); change (_ : Int) = _; unfold szs at hz ⊢; omega
  rw [this] at h2
  exact ⟨h2, x1, x2, x3, h3, h4, h5⟩
theorem take_szs_le (ks : List (Nat × List ByteArray)) (i : Nat) : szs ((ks.take i).flatMap Prod.snd) ≤ szs (ks.flatMap Prod.snd) := by
  conv => rhs; rw [← List.take_append_drop i ks, List.flatMap_append, szs_append]
  omega

set_option maxHeartbeats 8000000 in
set_option maxRecDepth 100000 in
/-- Find, of a tree that has leaves. -/
theorem find_nd (E : Env) (d0 g0 a b : Nat) (ls : List ByteArray) (w : World) (h : Nd E w d0 g0 ls) (hl : ls.length ≤ 1099511627776) (hz : szs ls ≤ 1099511627776) (ha : a ≤ szs ls) (hc : w.cell? ⟨b, 0, none⟩ = some (.int .i64 (a : Nat))) :
    Calls Tryd.prog 49 #[.agg #[.pointer (some ⟨g0, 0, none⟩)], .func (.func 50) #[] #[.pointer (some ⟨b, 0, none⟩)]] w fun e w' => ∃ (p : Nat) (x1 x2 x3 : Int), e = .returned (.tuple #[.int .i64 (p : Nat), .agg #[.int .i64 (szs (ls.take p) : Nat), .int .i64 x1, .int .i64 x2, .int .i64 x3]]) ∧ p < ls.length ∧ (p = 0 ∨ szs (ls.take p) < a) ∧ a ≤ szs (ls.take (p + 1)) ∧ Below w.heap.size w w' := by
  have b0 : Below w.heap.size w (((w.alloc (Obj.cells #[.pointer (some ⟨g0, 0, none⟩)] 61)).alloc (Obj.cells #[.int .i64 0, .int .i64 0, .int .i64 0, .int .i64 0] 74)).alloc (Obj.cells #[.int .i64 0, .int .i64 0, .int .i64 0, .int .i64 0] 74)) :=
    (((Below.refl _ _).alloc (Nat.le_refl _) _).alloc (by simp) _).alloc (by simp <;> omega) _
  have R1 : Hid (Rt 74 (((w.alloc (Obj.cells #[.pointer (some ⟨g0, 0, none⟩)] 61)).alloc (Obj.cells #[.int .i64 0, .int .i64 0, .int .i64 0, .int .i64 0] 74)).alloc (Obj.cells #[.int .i64 0, .int .i64 0, .int .i64 0, .int .i64 0] 74)) (w.heap.size + 1) #[.int .i64 0, .int .i64 0, .int .i64 0, .int .i64 0]) := (Rt.new' (by simp) _).alloc _
  have R2 : Hid (Rt 74 (((w.alloc (Obj.cells #[.pointer (some ⟨g0, 0, none⟩)] 61)).alloc (Obj.cells #[.int .i64 0, .int .i64 0, .int .i64 0, .int .i64 0] 74)).alloc (Obj.cells #[.int .i64 0, .int .i64 0, .int .i64 0, .int .i64 0] 74)) (w.heap.size + 1 + 1) #[.int .i64 0, .int .i64 0, .int .i64 0, .int .i64 0]) := Rt.new' (by simp) _
  have R0 : Hid (Rt 61 (((w.alloc (Obj.cells #[.pointer (some ⟨g0, 0, none⟩)] 61)).alloc (Obj.cells #[.int .i64 0, .int .i64 0, .int .i64 0, .int .i64 0] 74)).alloc (Obj.cells #[.int .i64 0, .int .i64 0, .int .i64 0, .int .i64 0] 74)) w.heap.size #[.pointer (some ⟨g0, 0, none⟩)]) := ((Rt.new _ w _).alloc _).alloc _
  obtain ⟨s2, y1, y2, y3, s3, s4, s5⟩ := h.cellsz hz
  have q2 := cell_after s2 b0; have q3 := cell_after s3 b0; have q4 := cell_after s4 b0; have q5 := cell_after s5 b0
  have HN := Hid.mk4 h
  have HC := Hid.mk4 hc
  have HA : Hid (∀ W x0 x1 x2 x3, Below w.heap.size w W → Calls Tryd.prog 50 #[.agg #[.int .i64 x0, .int .i64 x1, .int .i64 x2, .int .i64 x3], .pointer (some ⟨b, 0, none⟩)] W fun e w' => e = .returned (.bool (decide ((a : Int) ≤ x0))) ∧ Below W.heap.size W w') := fun W x0 x1 x2 x3 hW => above_any x0 x1 x2 x3 a b W (cell_after hc hW)
  have hdec : decide ((a : Int) ≤ ((szs ls : Nat) : Int)) = true := by simp; omega
  have HZ := Hid.mk4 hz
  have HAL := Hid.mk4 ha
  clear h hc s2 s3 s4 s5
  go_enter Tryd.func49, Tryd.ntmps49
  go_wp2_with fail
  refine (HA.out _ _ _ _ _ b0).mono ?_
  rintro e w1 ⟨rfl, b1⟩
  have g1 := b0.trans (b1.mono b0.size)
  have S0 := Hid.mk4 (R0.out.later' b1)
  have S1 := Hid.mk4 (R1.out.later' b1)
  have S2 := Hid.mk4 (R2.out.later' b1)
  have c0 := S0.out.cell 0
  clear R0 R1 R2 b0 b1 q2 q3 q4 q5
  rw [hdec]
  go_wp2
  go_loopw [6, 8] (fun at_ nn wr => ∃ (d g p : Nat) (pre l2 post : List ByteArray) (X1 X2 X3 : Int), at_ = .int .i64 (p : Nat) ∧ nn = .pointer (some ⟨g, 0, none⟩) ∧ Hid (Nd E w d g l2) ∧ Hid (ls = pre ++ (l2 ++ post)) ∧ Hid (pre.length = p) ∧ Hid (p = 0 ∨ szs pre < a) ∧ Hid (a ≤ szs pre + szs l2) ∧
      Hid (Rt 74 wr (w.heap.size + 1 + 1) #[.int .i64 (szs pre : Nat), .int .i64 X1, .int .i64 X2, .int .i64 X3]) ∧ Hid (Rt 74 wr (w.heap.size + 1) #[.int .i64 0, .int .i64 0, .int .i64 0, .int .i64 0]) ∧ Below w.heap.size w wr) (fun _ nn _ => dep w nn)
  case atStart => exact ⟨d0, g0, 0, [], ls, [], 0, 0, 0, rfl, rfl, HN.out, by show _ = _; simp, rfl, Or.inl rfl, by show _ ≤ _; rw [szs_nil]; have := HAL.out; omega, S2.out, S1.out, g1⟩
  case round =>
    obtain ⟨d, g, p, pre, l2, post, X1, X2, X3, rfl, rfl, HN2, HLS, HPL, HPA, HAS, T2, T1, hb⟩ := hrel
    clear c0 S0 S1 S2 g1
    have hbd : szs pre + szs l2 ≤ 1099511627776 ∧ p + l2.length ≤ 1099511627776 := by
      have h1 := congrArg szs HLS.out
      have h2 := congrArg List.length HLS.out
      rw [szs_append, szs_append] at h1
      rw [List.length_append, List.length_append, HPL.out] at h2
      have := HZ.out
      omega
    cases d with
    | zero =>
      obtain ⟨s, e, _, c7⟩ := NdA.leaf HN2.out
      have c7' := cell_after c7 hb
      clear c7
      go_wp2
      have k0 := cell_regrown (T2.out.cell 0); have k1 := cell_regrown (T2.out.cell 1); have k2 := cell_regrown (T2.out.cell 2); have k3 := cell_regrown (T2.out.cell 3)
      refine wp_region_below_last (by kernel_rfl) (by kernel_rfl) (by kernel_rfl) ?_
      simp only [mute, idle, lastOf]
      clear c7'
      repeat (go_big_quiet_step (fail))
      refine wpQuiet_nil ?_
      intro _ hw'
      obtain ⟨⟨dq, osq⟩, hw''⟩ := hw'
      subst hw''
      have bq := below_regrown wr dq osq
      have R3 := Hid.mk4 (T1.out.later' bq)
      have b2 := hb.trans (bq.mono hb.size)
      clear k0 k1 k2 k3 bq T1 T2
      generalize grow (redrawn wr dq) osq = w6 at *
      have c0 := R3.out.cell 0; have c1 := R3.out.cell 1; have c2 := R3.out.cell 2; have c3 := R3.out.cell 3; have fz := R3.out.fz
      have hlt := R3.out.lt
      go_wp2
      have hpre : ls.take p = pre := by rw [HLS.out, ← HPL.out, List.take_left]
      refine bodyPost_ret (results_int_counts rfl _ _ (w.heap.size + 1) _ _ _ _ _ rfl rfl (R3.out.set4 _ _ _ _)) rfl ⟨p, X1, X2, X3, by rw [hpre]; rfl, ?_, ?_, ?_, below_set4 b2 (by omega) _ _ _ _⟩
      · have h2 := congrArg List.length HLS.out
        rw [List.length_append, List.length_append, HPL.out, e] at h2
        simp at h2
        omega
      · rw [hpre]; exact HPA.out
      · have : ls.take (p + 1) = pre ++ l2 := by rw [HLS.out, e, ← HPL.out]; simp [List.take_append]; exact List.take_of_length_le (by omega)
        rw [this, szs_append]
        exact HAS.out
    | succ d =>
      have hdep : Hid (dep w (.pointer (some ⟨g, 0, none⟩)) = d + 1 + 1) := dep_of HN2.out
      obtain ⟨ks, kb, off, cap, hcp, h2, h3, hk, hfl, c7, hp⟩ := NdA.kids HN2.out
      obtain ⟨m, hm⟩ : ∃ m, ks.length = m + 1 := ⟨ks.length - 1, by omega⟩
      rw [hm] at c7 h2 h3
      have HM := Hid.mk4 hm
      have HK := Hid.mk4 hk
      have HP := Hid.mk4 hp
      have HF := Hid.mk4 hfl
      have C7 := Hid.mk4 c7
      have c7' := cell_after c7 hb
      clear hk hp hfl hm c7 hcp
      go_wp2
      have k7 := cell_regrown c7'
      refine wp_region_quiet_below (by kernel_rfl) (by kernel_rfl) ?_
      clear c7'
      repeat (go_big_quiet_step (fail))
      refine wpQuiet_nil ?_
      intro _ hw'
      obtain ⟨⟨dq, osq⟩, hw''⟩ := hw'
      subst hw''
      have bq := below_regrown wr dq osq
      have V1 := Hid.mk4 (T1.out.later' bq)
      have V2 := Hid.mk4 (T2.out.later' bq)
      have hb1 := hb.trans (bq.mono hb.size)
      clear k7 bq T1 T2 hb
      generalize grow (redrawn wr dq) osq = w3 at *
      go_wp2
      go_loopw [6, 9] (fun at_ ii wr => ∃ (i p2 : Nat) (Y1 Y2 Y3 : Int), ii = .int .i64 (i : Nat) ∧ i ≤ m ∧ at_ = .int .i64 (p2 : Nat) ∧ Hid (p2 = p + ((ks.take i).flatMap Prod.snd).length) ∧ Hid (p2 = 0 ∨ szs pre + szs ((ks.take i).flatMap Prod.snd) < a) ∧
          Hid (Rt 74 wr (w.heap.size + 1 + 1) #[.int .i64 ((szs pre + szs ((ks.take i).flatMap Prod.snd) : Nat) : Int), .int .i64 Y1, .int .i64 Y2, .int .i64 Y3]) ∧ Hid (Rt 74 wr (w.heap.size + 1) #[.int .i64 0, .int .i64 0, .int .i64 0, .int .i64 0]) ∧ Below w.heap.size w wr) (fun _ ii _ => m - (intOf ii).toNat)
      case atStart => exact ⟨0, p, X1, X2, X3, rfl, by omega, rfl, by show _ = _; simp, by have := HPA.out; show _ ∨ _; simpa [szs_nil] using this, by show Rt _ _ _ _; simpa [szs_nil] using V2.out, V1.out, hb1⟩
      case round =>
        obtain ⟨i, p2, Y1, Y2, Y3, rfl, him, rfl, HP2, HPA2, U2, U1, hb⟩ := hrel
        clear V1 V2 hb1
        have hik : i < ks.length := by have := HM.out; omega
        obtain ⟨k, hk⟩ : ∃ k, ks[i]? = some k := ⟨ks[i], List.getElem?_eq_getElem hik⟩
        have pk := cell_after (HP.out i k.1 (by simp [hk])) hb
        have c7w := cell_after C7.out hb
        have HTF := Hid.mk4 (take_flat hk)
        have hzk : szs pre + (szs ((ks.take i).flatMap Prod.snd) + szs k.2) ≤ 1099511627776 := by
          have := take_szs_le ks (i + 1)
          rw [HTF.out, szs_append, ← HF.out] at this
          omega
        have hlk : p + (((ks.take i).flatMap Prod.snd).length + k.2.length) ≤ 1099511627776 := by
          have := take_flat_le ks (i + 1)
          rw [HTF.out, List.length_append, ← HF.out] at this
          omega
        have nk : Nd E w d k.1 k.2 := HK.out k (List.mem_of_getElem? hk)
        have nk' := nk.later hb
        obtain ⟨s2, z1, z2, z3, s3, s4, s5⟩ := NdA.cellsz nk' (by omega)
        have s1 := nk'.cells.2.1
        have HNK := Hid.mk4 nk
        have HKI := Hid.mk4 hk
        obtain ⟨S, hS⟩ : ∃ S, S = szs pre + szs ((ks.take i).flatMap Prod.snd) := ⟨_, rfl⟩
        have HSS := Hid.mk4 hS
        rw [← hS] at U2 HPA2
        have hzk' : S + szs k.2 ≤ 1099511627776 := by omega
        have hp2 : p2 + k.2.length ≤ 1099511627776 := by have := HP2.out; omega
        -- what comes behind the inner loop
        have HNEXT : Hid (a ≤ S + szs k.2 → ∃ (pre' post' : List ByteArray), ls = pre' ++ (k.2 ++ post') ∧ pre'.length = p2 ∧ szs pre' = S ∧ a ≤ szs pre' + szs k.2) := by
          intro hle
          refine ⟨pre ++ (ks.take i).flatMap Prod.snd, (ks.drop (i + 1)).flatMap Prod.snd ++ post, ?_, ?_, ?_, ?_⟩
          · rw [HLS.out, HF.out]
            have hsp : ks = ks.take i ++ k :: ks.drop (i + 1) := by
              obtain ⟨hlt, rfl⟩ := List.getElem?_eq_some_iff.1 HKI.out
              rw [← List.drop_eq_getElem_cons hlt, List.take_append_drop]
            conv => lhs; rw [hsp]
            simp [List.flatMap_append]
          · rw [List.length_append, HPL.out, HP2.out]
          · rw [szs_append]; exact HSS.out.symm
          · rw [szs_append]; have := HSS.out; omega
        clear hk nk nk' hS hzk hlk
        by_cases him2 : i < m
        · -- the kid is asked
          have hm : ∀ w : World, (method 248 74 (.agg #[.int .i64 (S : Nat), .int .i64 Y1, .int .i64 Y2, .int .i64 Y3]) "Plus").run Tryd.prog w = .ok (105, .agg #[.int .i64 (S : Nat), .int .i64 Y1, .int .i64 Y2, .int .i64 Y3]) w := fun _ => by kernel_rfl
          have CP : Hid (∀ d os, Calls Tryd.prog 105 #[.agg #[.int .i64 (S : Nat), .int .i64 Y1, .int .i64 Y2, .int .i64 Y3], .agg #[.int .i64 (szs k.2 : Nat), .int .i64 z1, .int .i64 z2, .int .i64 z3]] (grow (redrawn wr d) os) fun e w'' => e = .returned (.agg #[.int .i64 ((S + szs k.2 : Nat) : Int), .int .i64 (wrap64 (Y1 + z1)), .int .i64 (wrap64 (Y2 + z2)), .int .i64 (wrap64 (Y3 + z3))]) ∧ ∃ p : Regrown, w'' = grow (redrawn wr p.d) p.os) := fun d os => by
            have := rplus_any (S : Nat) Y1 Y2 Y3 (szs k.2 : Nat) z1 z2 z3 (grow (redrawn wr d) os)
            rw [show wrap64 (((S : Nat) : Int) + ((szs k.2 : Nat) : Int)) = ((S + szs k.2 : Nat) : Int) from by unfold wrap64; omega] at this
            exact Calls.regrown_of this
          generalize wrap64 (Y1 + z1) = Z1 at *
          generalize wrap64 (Y2 + z2) = Z2 at *
          generalize wrap64 (Y3 + z3) = Z3 at *
          have hidx : i < m + 1 := by omega
          have him3 : (i : Int) < (m : Int) := by omega
          have k7 := cell_regrown c7w; have kk := cell_regrown pk
          have e0 := cell_regrown (U2.out.cell 0); have e1 := cell_regrown (U2.out.cell 1); have e2 := cell_regrown (U2.out.cell 2); have e3 := cell_regrown (U2.out.cell 3)
          have f2 := cell_regrown s2; have f3 := cell_regrown s3; have f4 := cell_regrown s4; have f5 := cell_regrown s5
          by_cases hq : a ≤ S + szs k.2
          · have CA : Hid (∀ d os, Calls Tryd.prog 50 #[.agg #[.int .i64 ((S + szs k.2 : Nat) : Int), .int .i64 Z1, .int .i64 Z2, .int .i64 Z3], .pointer (some ⟨b, 0, none⟩)] (grow (redrawn wr d) os) fun e w'' => e = .returned (.bool true) ∧ ∃ p : Regrown, w'' = grow (redrawn wr p.d) p.os) := fun d os => by
              have := HA.out (grow (redrawn wr d) os) ((S + szs k.2 : Nat) : Int) Z1 Z2 Z3 (hb.trans ((below_regrown wr d os).mono hb.size))
              rw [show decide ((a : Int) ≤ ((S + szs k.2 : Nat) : Int)) = true from by simp; omega] at this
              exact Calls.regrown_of this
            go_wp2
            refine wp_region_quiet_below (by kernel_rfl) (by kernel_rfl) ?_
            repeat (go_big_quiet_step (first | (go_at_call 105; exact CP.out _ _) | (go_at_call 50; exact CA.out _ _)))
            refine wpQuiet_nil ?_
            intro _ hw'
            obtain ⟨⟨dq, osq⟩, hw''⟩ := hw'
            subst hw''
            have bq := below_regrown wr dq osq
            have W1 := Hid.mk4 (U1.out.later' bq)
            have W2 := Hid.mk4 (U2.out.later' bq)
            have hb2 := hb.trans (bq.mono hb.size)
            have c7x := cell_after c7w bq
            have pkx := cell_after pk bq
            obtain ⟨pre', post', hl1, hl2, hl3, hl4⟩ := HNEXT.out hq
            have HL1 := Hid.mk4 hl1
            have HL2 := Hid.mk4 hl2
            have HL4 := Hid.mk4 hl4
            rw [← hl3] at W2 HPA2
            clear bq U1 U2 hb c7w pk hl1 hl2 hl3 hl4 CA CP hm k7 kk e0 e1 e2 e3 f2 f3 f4 f5 s1 s2 s3 s4 s5
            generalize grow (redrawn wr dq) osq = w5 at *
            go_wp2
            go_roundw
            case rel => exact ⟨d, k.1, p2, pre', k.2, post', Y1, Y2, Y3, rfl, rfl, HNK, HL1, HL2, HPA2, HL4, W2, W1, hb2⟩
            case measure => rw [dep_of HNK.out, hdep.out]; omega
          · have CA : Hid (∀ d os, Calls Tryd.prog 50 #[.agg #[.int .i64 ((S + szs k.2 : Nat) : Int), .int .i64 Z1, .int .i64 Z2, .int .i64 Z3], .pointer (some ⟨b, 0, none⟩)] (grow (redrawn wr d) os) fun e w'' => e = .returned (.bool false) ∧ ∃ p : Regrown, w'' = grow (redrawn wr p.d) p.os) := fun d os => by
              have := HA.out (grow (redrawn wr d) os) ((S + szs k.2 : Nat) : Int) Z1 Z2 Z3 (hb.trans ((below_regrown wr d os).mono hb.size))
              rw [show decide ((a : Int) ≤ ((S + szs k.2 : Nat) : Int)) = false from by simp; omega] at this
              exact Calls.regrown_of this
            go_wp2
            refine wp_region_quiet_below (by kernel_rfl) (by kernel_rfl) ?_
            repeat (go_big_quiet_step (first | (go_at_call 105; exact CP.out _ _) | (go_at_call 50; exact CA.out _ _)))
            refine wpQuiet_nil ?_
            intro _ hw'
            obtain ⟨⟨dq, osq⟩, hw''⟩ := hw'
            subst hw''
            have bq := below_regrown wr dq osq
            have W1 := Hid.mk4 (U1.out.later' bq)
            have W2 := Hid.mk4 (U2.out.later' bq)
            have hb2 := hb.trans (bq.mono hb.size)
            have c7x := cell_after c7w bq
            have pkx := cell_after pk bq
            have n1 := cell_after s1 bq
            have n2 := cell_after s2 bq; have n3 := cell_after s3 bq; have n4 := cell_after s4 bq; have n5 := cell_after s5 bq
            clear bq U1 U2 hb c7w pk CA CP k7 kk e0 e1 e2 e3 f2 f3 f4 f5 s1 s2 s3 s4 s5 HNEXT
            generalize grow (redrawn wr dq) osq = w5 at *
            go_wp2
            have CP : Hid (∀ d os, Calls Tryd.prog 105 #[.agg #[.int .i64 (S : Nat), .int .i64 Y1, .int .i64 Y2, .int .i64 Y3], .agg #[.int .i64 (szs k.2 : Nat), .int .i64 z1, .int .i64 z2, .int .i64 z3]] (grow (redrawn w5 d) os) fun e w'' => e = .returned (.agg #[.int .i64 ((S + szs k.2 : Nat) : Int), .int .i64 (wrap64 (Y1 + z1)), .int .i64 (wrap64 (Y2 + z2)), .int .i64 (wrap64 (Y3 + z3))]) ∧ ∃ p : Regrown, w'' = grow (redrawn w5 p.d) p.os) := fun d os => by
              have := rplus_any (S : Nat) Y1 Y2 Y3 (szs k.2 : Nat) z1 z2 z3 (grow (redrawn w5 d) os)
              rw [show wrap64 (((S : Nat) : Int) + ((szs k.2 : Nat) : Int)) = ((S + szs k.2 : Nat) : Int) from by unfold wrap64; omega] at this
              exact Calls.regrown_of this
            generalize wrap64 (Y1 + z1) = Q1 at *
            generalize wrap64 (Y2 + z2) = Q2 at *
            generalize wrap64 (Y3 + z3) = Q3 at *
            have k7 := cell_regrown c7x; have kk := cell_regrown pkx
            have e0 := cell_regrown (W2.out.cell 0); have e1 := cell_regrown (W2.out.cell 1); have e2 := cell_regrown (W2.out.cell 2); have e3 := cell_regrown (W2.out.cell 3)
            have f2 := cell_regrown n2; have f3 := cell_regrown n3; have f4 := cell_regrown n4; have f5 := cell_regrown n5
            refine wp_region_below_last (by kernel_rfl) (by kernel_rfl) (by kernel_rfl) ?_
            simp only [mute, idle, lastOf]
            repeat (go_big_quiet_step (first | (go_at_call 105; exact CP.out _ _)))
            refine wpQuiet_nil ?_
            intro _ hw'
            obtain ⟨⟨dq2, osq2⟩, hw''⟩ := hw'
            subst hw''
            have bq := below_regrown w5 dq2 osq2
            have X1 := Hid.mk4 (W1.out.later' bq)
            have X2 := Hid.mk4 (W2.out.later' bq)
            have hb3 := hb2.trans (bq.mono hb2.size)
            clear bq W1 W2 hb2 c7x pkx CP hm k7 kk e0 e1 e2 e3 f2 f3 f4 f5 n1 n2 n3 n4 n5
            generalize grow (redrawn w5 dq2) osq2 = w7 at *
            have c0 := X2.out.cell 0; have c1 := X2.out.cell 1; have c2 := X2.out.cell 2; have c3 := X2.out.cell 3; have fz := X2.out.fz
            have hlt := X2.out.lt
            go_wp2
            go_roundw
            case rel =>
              refine ⟨i + 1, p2 + k.2.length, Q1, Q2, Q3, by go_num, by omega, by go_num, ?_, ?_, ?_, ?_, below_set4 hb3 (by omega) _ _ _ _⟩
              · show _ = _
                rw [HTF.out, List.length_append, HP2.out]
                omega
              · show _ ∨ _
                rw [HTF.out, szs_append]
                have := HSS.out
                exact Or.inr (by omega)
              · show Rt _ _ _ _
                rw [HTF.out, szs_append, ← Nat.add_assoc, ← HSS.out]
                exact X2.out.set4 _ _ _ _
              · exact X1.out.other4 (by omega) _ _ _ _
            case measure => simp [intOf]; omega
        · have hq : a ≤ S + szs k.2 := by
            have h1 := HAS.out
            have h2 : ks.take (i + 1) = ks := List.take_of_length_le (by have := HM.out; omega)
            have h3 := HTF.out
            rw [h2, ← HF.out] at h3
            rw [h3, szs_append] at h1
            have := HSS.out
            omega
          have him4 : decide ((i : Int) < (m : Int)) = false := by simp; omega
          have him5 : decide (i < m) = false := by simp; omega
          clear him2
          go_wp2
          refine wp_region_quiet_below (by kernel_rfl) (by kernel_rfl) ?_
          repeat (go_big_quiet_step (fail))
          refine wpQuiet_nil ?_
          intro _ hw'
          obtain ⟨⟨dq, osq⟩, hw''⟩ := hw'
          subst hw''
          have bq := below_regrown wr dq osq
          have W1 := Hid.mk4 (U1.out.later' bq)
          have W2 := Hid.mk4 (U2.out.later' bq)
          have hb2 := hb.trans (bq.mono hb.size)
          have c7x := cell_after c7w bq
          have pkx := cell_after pk bq
          obtain ⟨pre', post', hl1, hl2, hl3, hl4⟩ := HNEXT.out hq
          have HL1 := Hid.mk4 hl1
          have HL2 := Hid.mk4 hl2
          have HL4 := Hid.mk4 hl4
          rw [← hl3] at W2 HPA2
          clear bq U1 U2 hb c7w pk hl1 hl2 hl3 hl4 s1 s2 s3 s4 s5
          generalize grow (redrawn wr dq) osq = w5 at *
          go_wp2
          go_roundw
          case rel => exact ⟨d, k.1, p2, pre', k.2, post', Y1, Y2, Y3, rfl, rfl, HNK, HL1, HL2, HPA2, HL4, W2, W1, hb2⟩
          case measure => rw [dep_of HNK.out, hdep.out]; omega
end Go.Proofs.YtfgefdkkjfjjjaaDoor
