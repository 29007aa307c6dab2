/- factor's Join. -/
import Derived.Test.YtalolaajcmndeaaDoorFacSplit
namespace Go.Proofs.YtalolaajcmndeaaDoor
open Go.RowKit Go.Sort
set_option linter.unusedSimpArgs false
set_option linter.unusedVariables false

theorem c3_cells {w : World} {g off : Nat} {es : List El} (h : ∀ i e, es[i]? = some e → w.cell? ⟨g, off + i * 3, none⟩ = some (.int .i64 e.1) ∧ w.cell? ⟨g, off + i * 3 + 1, none⟩ = some (.int .i64 e.2.1) ∧ w.cell? ⟨g, off + i * 3 + 2, none⟩ = some (.string (cacc e.2.2))) :
    ∀ j u, (c3 es)[j]? = some u → w.cell? ((⟨g, off, none⟩ : Addr).add j) = some u := by
  intro j u hu
  rw [addr_add7]
  have hj : j < (c3 es).length := (List.getElem?_eq_some_iff.1 hu).1
  rw [c3_length] at hj
  have hi : j / 3 < es.length := by omega
  obtain ⟨e1, e2, e3⟩ := c3_get (List.getElem?_eq_getElem hi)
  obtain ⟨f1, f2, f3⟩ := h _ _ (List.getElem?_eq_getElem hi)
  rcases (show j % 3 = 0 ∨ j % 3 = 1 ∨ j % 3 = 2 from by omega) with hm | hm | hm
  · have : j / 3 * 3 = j := by omega
    rw [this] at e1 f1
    rw [f1, ← e1, hu]
  · have : j / 3 * 3 + 1 = j := by omega
    rw [this] at e2
    rw [Nat.add_assoc, this] at f2
    rw [f2, ← e2, hu]
  · have : j / 3 * 3 + 2 = j := by omega
    rw [this] at e3
    rw [Nat.add_assoc, this] at f3
    rw [f3, ← e3, hu]
set_option maxHeartbeats 800000 in
set_option maxRecDepth 100000 in
theorem eclone_any {w : World} {v : Value} {es : List El} (h : ElAt w v es) (hl : es.length ≤ 1000000) :
    Calls Tryd.prog 48 #[v] w fun e w' => ∃ v', e = .returned v' ∧ OwnE w' w.heap.size v' es ∧ Below w.heap.size w w' := by
  obtain ⟨i0, hi, hz0, hz1, hz2⟩ := info_parts Tryd.info_el
  obtain ⟨a, cap, rfl, hcap, hnone, hcells⟩ := h
  cases a with
  | none =>
    obtain rfl : es = [] := by
      cases es with
      | nil => rfl
      | cons r rs => obtain ⟨_, _, e, _⟩ := hcells 0 r rfl; cases e
    obtain rfl := hnone rfl
    have hnn : ∀ w : World, (binOp .eql 22 (.slice none 0 0) (.slice none 0 0)).run Tryd.prog w = .ok (.bool true) w := fun _ => by kernel_rfl
    clear hcells hnone
    go_enter Tryd.func48, Tryd.ntmps48
    go_wp2
    go_ret
    exact ⟨_, rfl, OwnE.nil _ _, Below.refl _ _⟩
  | some ad =>
    have HC : Hid (∀ j u, (c3 es)[j]? = some u → w.cell? (ad.add j) = some u) := by
      intro j u hu
      cases hrs : es with
      | nil => rw [hrs] at hu; simp [c3] at hu
      | cons r0 rt =>
        obtain ⟨g, off, e, _⟩ := hcells 0 r0 (by rw [hrs]; rfl)
        cases e
        refine c3_cells (fun i r hr => ?_) j u hu
        obtain ⟨g', off', e', h1, h2⟩ := hcells i r hr
        cases e'
        exact ⟨h1, h2⟩
    have hnn : ∀ w : World, (binOp .eql 22 (.slice (some ad) es.length cap) (.slice none 0 0)).run Tryd.prog w = .ok (.bool false) w := fun _ => by kernel_rfl
    have b0 : Below w.heap.size w (w.alloc (Obj.cells #[] 70)) := (Below.refl _ _).alloc (Nat.le_refl _) _
    clear hcells hnone
    go_enter Tryd.func48, Tryd.ntmps48
    go_wp2_with (at_builtin; refine wpList_append_own _ rfl _ _ 22 rfl w.heap.size 70 i0 (.agg #[.int .i64 0, .int .i64 0, .string ⟨#[]⟩]) 3 32 Tryd.underlying22 hi hz0 hz1 hz2 rfl (by decide) _ _ _ rfl (own_empty7 w w.heap.size 70 3 (Nat.le_refl _)) ad es.length cap (c3 es) rfl (c3_length es) ?c1 c3_oneCell ?c3 ?c4 ?c5 ?_)
    case c1 => exact fun j u hu => cell_later7 b0 (Nat.le_refl _) (HC.out j u hu)
    case c3 => unfold maxLen; omega
    case c4 => omega
    case c5 => simp
    intro v' w2 hown' hgrow _
    have hown2 : OwnE w2 w.heap.size v' es := by unfold OwnE; simpa using hown'
    have hb3 : Below w.heap.size w w2 := b0.grown hgrow (by simp) (fun k hk => by simp [Value.ownBlock] at hk; omega)
    clear hown' hgrow HC b0
    go_wp2
    go_ret
    exact ⟨v', rfl, hown2, hb3⟩
/-- A copy of elements, to be gone through: block 1, if there are none. -/
theorem eclone_xl {w : World} {v : Value} {es : List El} (h : ElAt w v es) (hl : es.length ≤ 1000000) (h2 : 1 < w.heap.size) :
    Calls Tryd.prog 48 #[v] w fun e w' => ∃ v' g, e = .returned v' ∧ Xl w' w.heap.size g v' es ∧ g < w'.heap.size ∧ (g = 1 ∨ w.heap.size ≤ g) ∧ Below w.heap.size w w' := by
  refine (eclone_any h hl).mono ?_
  rintro e w' ⟨v', rfl, o, b⟩
  obtain ⟨a, cap, rfl, hc, hg⟩ := own_shapeE o
  by_cases hE : es = []
  · subst hE
    exact ⟨_, 1, rfl, ⟨fun h => absurd rfl h, fun _ => ⟨a, cap, rfl⟩⟩, Nat.lt_of_lt_of_le h2 b.size, Or.inl rfl, b⟩
  · obtain ⟨g, rfl⟩ := hg hE
    have t : Xk w' w.heap.size g (.slice (some ⟨g, 0, none⟩) es.length cap) es := ⟨es, 0, cap, _, o, hc, Nat.zero_le _, rfl, rfl, fun _ => rfl⟩
    exact ⟨_, g, rfl, xl_of t, t.lt.2, Or.inr t.lt.1, b⟩
theorem segs_tlF {w : World} {p : Value} {L : List Int} (h : Sub w p L) (hl : L.length ≤ 20000) :
    Calls Tryd.prog 49 #[p] w fun e w' => ∃ v g, e = .returned v ∧ Tl w' w.heap.size g v (rle L) ∧ g < w'.heap.size ∧ (g = 0 ∨ w.heap.size ≤ g) ∧ Below w.heap.size w w' := by
  have h0 : 0 < w.heap.size := by
    obtain ⟨b, v, _, hc, _⟩ := h
    have := World.block_lt_of_cell? w _ hc
    omega
  refine (segs_tl h hl).mono ?_
  rintro e w' ⟨v, g, rfl, t, hg, b⟩
  by_cases hL : L = []
  · subst hL
    exact ⟨v, 0, rfl, ⟨fun h => absurd rfl h, t.2⟩, Nat.lt_of_lt_of_le h0 b.size, Or.inl rfl, b⟩
  · have hr : rle L ≠ [] := fun e => hL (by rw [← xp_rle L, e]; rfl)
    exact ⟨v, g, rfl, t, hg hL, Or.inr (t.1 hr).lt.1, b⟩
theorem Rd.otherF {w : World} {g g' : Nat} {x y : Value} (h : Rd w g x y) (hne : g ≠ g') (a b : Value) : Rd ((w.setCell ⟨g', 0, none⟩ a).setCell ⟨g', 1, none⟩ b) g x y := by
  unfold Rd; rw [heap_setCell_other _ _ _ _ hne, heap_setCell_other _ _ _ _ hne]; exact h
set_option maxHeartbeats 2000000 in
set_option maxRecDepth 100000 in
theorem join_no {w : World} {v p : Value} {es : List El} (base : Int) (tb : Nat × Nat) (hi : isB base es = false) (hsm : Sm es 20000) (h : ElAt w v es) (hT : Tab w tb) :
    Calls Tryd.prog 21 #[.agg #[.int .i64 base, v], p] w fun e w' => e = .returned (.tuple #[.agg #[.int .i64 0, .slice none 0 0], .int .i64 12]) ∧ Below w.heap.size w w' := by
  have BX := below_newE (below_newE (Below.refl w.heap.size w) (.cells #[.int .i64 base, v] 24)) (.cells #[.int .i64 0, .slice none 0 0] 24)
  have RDX := (Rd.new w (.int .i64 base) v).alloc (.cells #[.int .i64 0, .slice none 0 0] 24)
  have RRX : Rd ((w.alloc (.cells #[.int .i64 base, v] 24)).alloc (.cells #[.int .i64 0, .slice none 0 0] 24)) (w.heap.size + 1) (.int .i64 0) (.slice none 0 0) := Rd.new' (by simp) _ _
  have VX := (h.alloc (.cells #[.int .i64 base, v] 24)).alloc (.cells #[.int .i64 0, .slice none 0 0] 24)
  have TX := (hT.nuF (.cells #[.int .i64 base, v] 24)).nuF (.cells #[.int .i64 0, .slice none 0 0] 24)
  have HB2 := Hid.mk7 BX
  have HR2 := Hid.mk7 RDX
  have HRR2 := Hid.mk7 RRX
  have HV2 := Hid.mk7 VX
  have HT2 := Hid.mk7 TX
  have HIV := Hid.mk7 (is_v hi hsm VX TX)
  have r0 := RDX.c0
  have r1 := RDX.c1
  clear BX RDX RRX VX TX h hT
  go_enter Tryd.func21, Tryd.ntmps21
  go_upto_region 1 with fail
  generalize hz1 : w.heap.size = z1 at *
  generalize (w.alloc (.cells #[.int .i64 base, v] 24)).alloc (.cells #[.int .i64 0, .slice none 0 0] 24) = W2 at *
  have hzz : z1 ≤ W2.heap.size := by rw [← hz1]; exact HB2.out.size
  go_wp2_with fail
  refine HIV.out.mono ?_
  rintro e w3 ⟨rfl, bz⟩
  have HR3 := Hid.mk7 (HR2.out.later bz)
  have HRR3 := Hid.mk7 (HRR2.out.later bz)
  have HV3 := Hid.mk7 (HV2.out.later bz)
  have HT3 := Hid.mk7 (HT2.out.later bz)
  have HB3 := Hid.mk7 (HB2.out.trans (bz.mono (by rw [← hz1]; exact HB2.out.size)))
  clear bz r0 r1 HR2 HRR2 HV2 HT2 HB2
  have r0 := HR3.out.c0
  have r1 := HR3.out.c1
  have q0 := HRR3.out.c0
  have q1 := HRR3.out.c1
  have fz := HRR3.out.fz
  go_wp2
  refine bodyPost_ret (results_del2 rfl _ _ (z1 + 1) _ _ _ rfl rfl (HRR3.out.set _ _)) rfl ⟨rfl, ?_⟩
  rw [hz1]
  exact below_set2 HB3.out (show z1 ≤ z1 + 1 from by omega) _ _
set_option maxHeartbeats 2000000 in
set_option maxRecDepth 100000 in
theorem join_drop {w : World} {v p : Value} {es : List El} (base : Int) (tb : Nat × Nat) (hi : isB base es = true) (hcp : cpS es ≠ base) (h : ElAt w v es) (hT : Tab w tb) :
    Calls Tryd.prog 21 #[.agg #[.int .i64 base, v], p] w fun e w' => e = .returned (.tuple #[.agg #[.int .i64 0, .slice none 0 0], .int .i64 12]) ∧ Below w.heap.size w w' := by
  have BX := below_newE (below_newE (Below.refl w.heap.size w) (.cells #[.int .i64 base, v] 24)) (.cells #[.int .i64 0, .slice none 0 0] 24)
  have RDX := (Rd.new w (.int .i64 base) v).alloc (.cells #[.int .i64 0, .slice none 0 0] 24)
  have RRX : Rd ((w.alloc (.cells #[.int .i64 base, v] 24)).alloc (.cells #[.int .i64 0, .slice none 0 0] 24)) (w.heap.size + 1) (.int .i64 0) (.slice none 0 0) := Rd.new' (by simp) _ _
  have VX := (h.alloc (.cells #[.int .i64 base, v] 24)).alloc (.cells #[.int .i64 0, .slice none 0 0] 24)
  have TX := (hT.nuF (.cells #[.int .i64 base, v] 24)).nuF (.cells #[.int .i64 0, .slice none 0 0] 24)
  have HB2 := Hid.mk7 BX
  have HR2 := Hid.mk7 RDX
  have HRR2 := Hid.mk7 RRX
  have HV2 := Hid.mk7 VX
  have HT2 := Hid.mk7 TX
  have hd := dl_of hi
  have HIV := Hid.mk7 (is_v hi hd.sm VX TX)
  have HDV : Hid (∀ W, ElAt W v es → Tab W tb → Calls Tryd.prog 28 #[.agg #[.int .i64 base, v]] W fun e w' => e = .returned (.int .i64 (base - cpS es)) ∧ Below W.heap.size W w') := fun W h t => drops_v hi rfl h t
  have hcp1 := hd.cp1
  have hpos : 0 < base - cpS es := by omega
  clear hd hcp hcp1 hi
  generalize base - cpS es = dr at *
  have r0 := RDX.c0
  have r1 := RDX.c1
  clear BX RDX RRX VX TX h hT
  go_enter Tryd.func21, Tryd.ntmps21
  go_upto_region 1 with fail
  generalize hz1 : w.heap.size = z1 at *
  generalize (w.alloc (.cells #[.int .i64 base, v] 24)).alloc (.cells #[.int .i64 0, .slice none 0 0] 24) = W2 at *
  have hzz : z1 ≤ W2.heap.size := by rw [← hz1]; exact HB2.out.size
  go_wp2_with fail
  refine HIV.out.mono ?_
  rintro e w3 ⟨rfl, bz⟩
  clear HIV
  have HR3 := Hid.mk7 (HR2.out.later bz)
  have HRR3 := Hid.mk7 (HRR2.out.later bz)
  have HV3 := Hid.mk7 (HV2.out.later bz)
  have HT3 := Hid.mk7 (HT2.out.later bz)
  have HB3 := Hid.mk7 (HB2.out.trans (bz.mono (by rw [← hz1]; exact HB2.out.size)))
  clear bz r0 r1 HR2 HRR2 HV2 HT2 HB2
  have r0 := HR3.out.c0
  have r1 := HR3.out.c1
  go_wp2_with fail
  refine (HDV.out _ HV3.out HT3.out).mono ?_
  rintro e w4 ⟨rfl, bz⟩
  clear HDV
  have HR4 := Hid.mk7 (HR3.out.later bz)
  have HRR4 := Hid.mk7 (HRR3.out.later bz)
  have HV4 := Hid.mk7 (HV3.out.later bz)
  have HT4 := Hid.mk7 (HT3.out.later bz)
  have HB4 := Hid.mk7 (HB3.out.trans (bz.mono (by rw [← hz1]; exact HB3.out.size)))
  clear bz r0 r1 HR3 HRR3 HV3 HT3 HB3
  have r0 := HR4.out.c0
  have r1 := HR4.out.c1
  have q0 := HRR4.out.c0
  have q1 := HRR4.out.c1
  have fz := HRR4.out.fz
  go_wp2
  refine bodyPost_ret (results_del2 rfl _ _ (z1 + 1) _ _ _ rfl rfl (HRR4.out.set _ _)) rfl ⟨rfl, ?_⟩
  rw [hz1]
  exact below_set2 HB4.out (show z1 ≤ z1 + 1 from by omega) _ _
set_option maxHeartbeats 8000000 in
set_option maxRecDepth 100000 in
theorem join_len {w : World} {v p : Value} {es : List El} {L : List Int} (base : Int) (tb : Nat × Nat) (hi : isB base es = true) (hcp : cpS es = base) (hs : Sub w p L) (hL : Ok8 L) (hrl : (rle L).length ≤ 600) (h : ElAt w v es) (hT : Tab w tb)
    (hlen : (L.length : Int) ≠ base) :
    Calls Tryd.prog 21 #[.agg #[.int .i64 base, v], p] w fun e w' => e = .returned (.tuple #[.agg #[.int .i64 0, .slice none 0 0], .int .i64 80]) ∧ Below w.heap.size w w' := by
  have BX := below_newE (below_newE (Below.refl w.heap.size w) (.cells #[.int .i64 base, v] 24)) (.cells #[.int .i64 0, .slice none 0 0] 24)
  have RDX := (Rd.new w (.int .i64 base) v).alloc (.cells #[.int .i64 0, .slice none 0 0] 24)
  have RRX : Rd ((w.alloc (.cells #[.int .i64 base, v] 24)).alloc (.cells #[.int .i64 0, .slice none 0 0] 24)) (w.heap.size + 1) (.int .i64 0) (.slice none 0 0) := Rd.new' (by simp) _ _
  have VX := (h.alloc (.cells #[.int .i64 base, v] 24)).alloc (.cells #[.int .i64 0, .slice none 0 0] 24)
  have TX := (hT.nuF (.cells #[.int .i64 base, v] 24)).nuF (.cells #[.int .i64 0, .slice none 0 0] 24)
  have HB2 := Hid.mk7 BX
  have HR2 := Hid.mk7 RDX
  have HRR2 := Hid.mk7 RRX
  have HV2 := Hid.mk7 VX
  have HT2 := Hid.mk7 TX
  have hd := dl_of hi
  have HIV := Hid.mk7 (is_v hi hd.sm VX TX)
  have HDV : Hid (∀ W, ElAt W v es → Tab W tb → Calls Tryd.prog 28 #[.agg #[.int .i64 base, v]] W fun e w' => e = .returned (.int .i64 0) ∧ Below W.heap.size W w') := fun W h t => drops_v hi (by omega) h t
  have hel := hd.len
  have hb00 := hd.b0
  have hb01 := hd.b1
  have hL1 := hL.1
  have HIS := Hid.mk7 hi
  have HCP := Hid.mk7 hcp
  have HOL := Hid.mk7 hL
  have HRL := Hid.mk7 hrl
  have hzr : w.heap.size < w.heap.size + 1 := Nat.lt_succ_self _
  have HS2 := Hid.mk7 (hs.later BX)
  obtain ⟨pb, pv, rfl, _, _⟩ := id hs
  clear hs
  have dL : (((L.length : Nat) : Int) != base) = true := by simp; omega
  have dL2 : decide (((L.length : Nat) : Int) = base) = false := decide_eq_false hlen
  have HLE := Hid.mk7 hlen
  clear hlen
  clear hd hi hcp hL hrl
  have r0 := RDX.c0
  have r1 := RDX.c1
  clear BX RDX RRX VX TX h hT
  go_enter Tryd.func21, Tryd.ntmps21
  go_upto_region 1 with fail
  generalize hz1 : w.heap.size = z1 at *
  generalize (w.alloc (.cells #[.int .i64 base, v] 24)).alloc (.cells #[.int .i64 0, .slice none 0 0] 24) = W2 at *
  have hzz : z1 ≤ W2.heap.size := by rw [← hz1]; exact HB2.out.size
  have hw2 : 1 < W2.heap.size := by have := HRR2.out.lt; omega
  go_wp2_with fail
  refine HIV.out.mono ?_
  rintro e w3 ⟨rfl, bz⟩
  clear HIV
  have HS3 := Hid.mk7 (HS2.out.later bz)
  clear HS2
  have hw3 := bz.size
  have HR3 := Hid.mk7 (HR2.out.later bz)
  have HRR3 := Hid.mk7 (HRR2.out.later bz)
  have HV3 := Hid.mk7 (HV2.out.later bz)
  have HT3 := Hid.mk7 (HT2.out.later bz)
  have HB3 := Hid.mk7 (HB2.out.trans (bz.mono (by rw [← hz1]; exact HB2.out.size)))
  clear bz r0 r1 HR2 HRR2 HV2 HT2 HB2
  have r0 := HR3.out.c0
  have r1 := HR3.out.c1
  go_wp2_with fail
  refine (HDV.out _ HV3.out HT3.out).mono ?_
  rintro e w4 ⟨rfl, bz⟩
  clear HDV
  have HS4 := Hid.mk7 (HS3.out.later bz)
  clear HS3
  have hw4 := bz.size
  have HR4 := Hid.mk7 (HR3.out.later bz)
  have HRR4 := Hid.mk7 (HRR3.out.later bz)
  have HV4 := Hid.mk7 (HV3.out.later bz)
  have HT4 := Hid.mk7 (HT3.out.later bz)
  have HB4 := Hid.mk7 (HB3.out.trans (bz.mono (by rw [← hz1]; exact HB3.out.size)))
  clear bz r0 r1 HR3 HRR3 HV3 HT3 HB3
  have r0 := HR4.out.c0
  have r1 := HR4.out.c1
  go_upto_region 5 with fail
  have HLC := Hid.mk7 (fun d os => Calls.regrown_of (len_any7 (HS4.out.later (below_regrown w4 d os)) (by omega)))
  have z0 := cell_regrown r0
  have z1' := cell_regrown r1
  clear r0 r1
  refine wp_region_quiet_below (by kernel_rfl) (by kernel_rfl) ?_
  repeat (go_big_quiet_step (exact HLC.out _ _))
  refine wpQuiet_nil ?_
  intro _ hw'
  obtain ⟨⟨dq, osq⟩, hw''⟩ := hw'
  subst hw''
  have bz := below_regrown w4 dq osq
  have RR5 := Hid.mk7 (HRR4.out.later bz)
  have HB := Hid.mk7 (HB4.out.trans (bz.mono (by rw [← hz1]; exact HB4.out.size)))
  clear bz HS4 HR4 HRR4 HV4 HT4 HB4 HLC z0 z1'
  generalize grow (redrawn w4 dq) osq = w5 at *
  have q0 := RR5.out.c0
  have q1 := RR5.out.c1
  have fz := RR5.out.fz
  go_wp2
  refine bodyPost_ret (results_del2 rfl _ _ (z1 + 1) _ _ _ rfl rfl (RR5.out.set _ _)) rfl ⟨rfl, ?_⟩
  rw [hz1]
  exact below_set2 HB.out (show z1 ≤ z1 + 1 from by omega) _ _
set_option maxHeartbeats 8000000 in
set_option maxRecDepth 100000 in
theorem join_gen {w : World} {v p : Value} {es ys : List El} {L : List Int} (base b1 er : Int) (tb : Nat × Nat) (hi : isB base es = true) (hcp : cpS es = base) (hs : Sub w p L) (hL : Ok8 L) (hrl : (rle L).length ≤ 600) (h : ElAt w v es) (hT : Tab w tb)
    (hlen : (L.length : Int) = base)
    (hbu : ∀ W u l, ElAt W u l → Chd base L es l → Tab W tb → Calls Tryd.prog 24 #[.int .i64 base, u] W fun e w' => ∃ v', e = .returned (.tuple #[.agg #[.int .i64 b1, v'], .int .i64 er]) ∧ ElAt w' v' ys ∧ Below W.heap.size W w') :
    Calls Tryd.prog 21 #[.agg #[.int .i64 base, v], p] w fun e w' => ∃ v', e = .returned (.tuple #[.agg #[.int .i64 b1, v'], .int .i64 er]) ∧ ElAt w' v' ys ∧ Below w.heap.size w w' := by
  have BX := below_newE (below_newE (Below.refl w.heap.size w) (.cells #[.int .i64 base, v] 24)) (.cells #[.int .i64 0, .slice none 0 0] 24)
  have RDX := (Rd.new w (.int .i64 base) v).alloc (.cells #[.int .i64 0, .slice none 0 0] 24)
  have RRX : Rd ((w.alloc (.cells #[.int .i64 base, v] 24)).alloc (.cells #[.int .i64 0, .slice none 0 0] 24)) (w.heap.size + 1) (.int .i64 0) (.slice none 0 0) := Rd.new' (by simp) _ _
  have VX := (h.alloc (.cells #[.int .i64 base, v] 24)).alloc (.cells #[.int .i64 0, .slice none 0 0] 24)
  have TX := (hT.nuF (.cells #[.int .i64 base, v] 24)).nuF (.cells #[.int .i64 0, .slice none 0 0] 24)
  have HB2 := Hid.mk7 BX
  have HR2 := Hid.mk7 RDX
  have HRR2 := Hid.mk7 RRX
  have HV2 := Hid.mk7 VX
  have HT2 := Hid.mk7 TX
  have hd := dl_of hi
  have HIV := Hid.mk7 (is_v hi hd.sm VX TX)
  have HDV : Hid (∀ W, ElAt W v es → Tab W tb → Calls Tryd.prog 28 #[.agg #[.int .i64 base, v]] W fun e w' => e = .returned (.int .i64 0) ∧ Below W.heap.size W w') := fun W h t => drops_v hi (by omega) h t
  have hel := hd.len
  have hb00 := hd.b0
  have hb01 := hd.b1
  have hL1 := hL.1
  have HIS := Hid.mk7 hi
  have HCP := Hid.mk7 hcp
  have HOL := Hid.mk7 hL
  have HRL := Hid.mk7 hrl
  have hzr : w.heap.size < w.heap.size + 1 := Nat.lt_succ_self _
  have HS2 := Hid.mk7 (hs.later BX)
  obtain ⟨pb, pv, rfl, _, _⟩ := id hs
  clear hs
  have HLE := Hid.mk7 hlen
  have HBU := Hid.mk7 hbu
  have dL : (((L.length : Nat) : Int) != base) = false := by simp; omega
  have dL2 : decide (((L.length : Nat) : Int) = base) = true := decide_eq_true hlen
  clear hbu hlen
  clear hd hi hcp hL hrl
  have r0 := RDX.c0
  have r1 := RDX.c1
  clear BX RDX RRX VX TX h hT
  go_enter Tryd.func21, Tryd.ntmps21
  go_upto_region 1 with fail
  generalize hz1 : w.heap.size = z1 at *
  generalize (w.alloc (.cells #[.int .i64 base, v] 24)).alloc (.cells #[.int .i64 0, .slice none 0 0] 24) = W2 at *
  have hzz : z1 ≤ W2.heap.size := by rw [← hz1]; exact HB2.out.size
  have hw2 : 1 < W2.heap.size := by have := HRR2.out.lt; omega
  go_wp2_with fail
  refine HIV.out.mono ?_
  rintro e w3 ⟨rfl, bz⟩
  clear HIV
  have HS3 := Hid.mk7 (HS2.out.later bz)
  clear HS2
  have hw3 := bz.size
  have HR3 := Hid.mk7 (HR2.out.later bz)
  have HRR3 := Hid.mk7 (HRR2.out.later bz)
  have HV3 := Hid.mk7 (HV2.out.later bz)
  have HT3 := Hid.mk7 (HT2.out.later bz)
  have HB3 := Hid.mk7 (HB2.out.trans (bz.mono (by rw [← hz1]; exact HB2.out.size)))
  clear bz r0 r1 HR2 HRR2 HV2 HT2 HB2
  have r0 := HR3.out.c0
  have r1 := HR3.out.c1
  go_wp2_with fail
  refine (HDV.out _ HV3.out HT3.out).mono ?_
  rintro e w4 ⟨rfl, bz⟩
  clear HDV
  have HS4 := Hid.mk7 (HS3.out.later bz)
  clear HS3
  have hw4 := bz.size
  have HR4 := Hid.mk7 (HR3.out.later bz)
  have HRR4 := Hid.mk7 (HRR3.out.later bz)
  have HV4 := Hid.mk7 (HV3.out.later bz)
  have HT4 := Hid.mk7 (HT3.out.later bz)
  have HB4 := Hid.mk7 (HB3.out.trans (bz.mono (by rw [← hz1]; exact HB3.out.size)))
  clear bz r0 r1 HR3 HRR3 HV3 HT3 HB3
  have r0 := HR4.out.c0
  have r1 := HR4.out.c1
  go_upto_region 5 with fail
  have HLC := Hid.mk7 (fun d os => Calls.regrown_of (len_any7 (HS4.out.later (below_regrown w4 d os)) (by omega)))
  have z0 := cell_regrown r0
  have z1' := cell_regrown r1
  clear r0 r1
  refine wp_region_quiet_below (by kernel_rfl) (by kernel_rfl) ?_
  repeat (go_big_quiet_step (exact HLC.out _ _))
  refine wpQuiet_nil ?_
  intro _ hw'
  obtain ⟨⟨dq, osq⟩, hw''⟩ := hw'
  subst hw''
  have bz := below_regrown w4 dq osq
  have hw5 := bz.size
  have HS := Hid.mk7 (HS4.out.later bz)
  have RD5 := Hid.mk7 (HR4.out.later bz)
  have RR5 := Hid.mk7 (HRR4.out.later bz)
  have HV := Hid.mk7 (HV4.out.later bz)
  have HT := Hid.mk7 (HT4.out.later bz)
  have HB := Hid.mk7 (HB4.out.trans (bz.mono (by rw [← hz1]; exact HB4.out.size)))
  clear bz HS4 HR4 HRR4 HV4 HT4 HB4 HLC z0 z1'
  generalize grow (redrawn w4 dq) osq = w5 at *
  have hzb : z1 ≤ w5.heap.size := by rw [← hz1]; exact HB.out.size
  have hw55 : 1 < w5.heap.size := by omega
  have r0 := RD5.out.c0
  have r1 := RD5.out.c1
  go_upto_region 7 with fail
  go_cut [5] from 24 to 35 (fun s5 wx => ∃ (yv : Value), s5 = .int .i64 er ∧ Hid (Rd wx (z1 + 1) (.int .i64 b1) yv) ∧ Hid (ElAt wx yv ys) ∧ Hid (Below z1 w wx))
  case first =>
    refine wp_region_turns (fun w' => ∃ q : (GW (fun W => Rd W z1 (.int .i64 base) v)), w' = q.w) [0, 1, 2, 3, 5] 12 8 (by kernel_rfl) (by kernel_rfl) (fun d => ⟨⟨redrawn w5 d, RD5.out.later (below_redrawnE w5 d)⟩, rfl⟩) ?_
    intro d
    have k0 : ∀ q : (GW (fun W => Rd W z1 (.int .i64 base) v)), q.w.cell? ⟨z1, 0, none⟩ = some (.int .i64 base) := fun q => q.h.c0
    have k1 : ∀ q : (GW (fun W => Rd W z1 (.int .i64 base) v)), q.w.cell? ⟨z1, 1, none⟩ = some v := fun q => q.h.c1
    simp only [pickAll, pickAt, List.nil_append, List.cons_append, List.append_nil]
    have hne : Nonempty (GW (fun W => Rd W z1 (.int .i64 base) v)) := ⟨⟨w5, RD5.out⟩⟩
    clear r0 r1
    repeat (go_big_quiet_step (fail))
    refine wpQuiet_nil ?_
    clear hne k0 k1
    have bb0 := Hid.mk7 (below_redrawnE w5 d)
    generalize redrawn w5 d = x0 at *
    refine anyC_pick1 4 (by kernel_rfl) (by kernel_rfl) ?_
    simp only [pickAll, pickAt, List.nil_append, List.cons_append, List.append_nil]
    have hs0 := bb0.out.size
    go_wp2_with fail
    refine (eclone_xl (HV.out.later bb0.out) (by omega) (by omega)).mono ?_
    rintro e x1 ⟨xv, gx, rfl, hx, lx, ox, bz⟩
    have X1 := Hid.mk7 hx
    have hszx := bz.size
    have bb1 : Hid (Below w5.heap.size w5 x1) := bb0.out.trans (bz.mono bb0.out.size)
    clear bz hx
    go_wp2
    refine anyNext_mk ⟨⟨_, RD5.out.later bb1.out⟩, rfl⟩ ?_
    refine anyC_pick1 6 (by kernel_rfl) (by kernel_rfl) ?_
    simp only [pickAll, pickAt, List.nil_append, List.cons_append, List.append_nil]
    go_wp2_with fail
    refine (segs_tlF (HS.out.later bb1.out) hL1).mono ?_
    rintro e x2 ⟨yv0, gy, rfl, hy, ly, oy, bz⟩
    have X2 := Hid.mk7 (X1.out.kept (grown_below bz none) (by simp))
    have YY2 := Hid.mk7 hy
    have hszy := bz.size
    have bb2 : Hid (Below w5.heap.size w5 x2) := bb1.out.trans (bz.mono bb1.out.size)
    clear bz hy
    go_wp2
    refine anyNext_mk ⟨⟨_, RD5.out.later bb2.out⟩, rfl⟩ ?_
    refine anyC_pick1 7 (by kernel_rfl) (by kernel_rfl) ?_
    simp only [pickAll, pickAt, List.nil_append, List.cons_append, List.append_nil]
    go_wp2_with fail
    refine (changes_any (w := w5) x0.heap.size x1.heap.size gx gy HIS.out HCP.out HOL.out HLE.out HRL.out X2.out YY2.out (by omega) (by omega) (by omega) (by omega) (by omega) bb2.out).mono ?_
    rintro e x3 ⟨lv, l, rfl, hl, hch, bz⟩
    have LL3 := Hid.mk7 hl
    have CH := Hid.mk7 hch
    have bb3 := Hid.mk7 bz
    clear bz hl hch lx ly ox oy
    go_wp2
    refine anyNext_mk ⟨⟨_, RD5.out.later bb3.out⟩, rfl⟩ ?_
    refine anyC_pick1 8 (by kernel_rfl) (by kernel_rfl) ?_
    simp only [pickAll, pickAt, List.nil_append, List.cons_append, List.append_nil]
    go_wp2_with fail
    refine (HBU.out _ _ _ LL3.out CH.out (HT.out.later bb3.out)).mono ?_
    rintro e x4 ⟨yv, rfl, hy, bz⟩
    obtain ⟨ya, yc, rfl, _, _, _⟩ := id hy
    have Y4 := Hid.mk7 hy
    have bb4 : Hid (Below w5.heap.size w5 x4) := bb3.out.trans (bz.mono bb3.out.size)
    clear bz hy
    go_wp2
    refine anyNext_mk ⟨⟨_, RD5.out.later bb4.out⟩, rfl⟩ ?_
    refine anyC_pick2 9 10 (by kernel_rfl) (by kernel_rfl) (by kernel_rfl) ?_ ?_
    · simp only [pickAll, pickAt, List.nil_append, List.cons_append, List.append_nil]
      go_wp2
      refine anyNext_mk ⟨⟨_, RD5.out.later bb4.out⟩, rfl⟩ ?_
      refine anyC_pick1 10 (by kernel_rfl) (by kernel_rfl) ?_
      simp only [pickAll, pickAt, List.nil_append, List.cons_append, List.append_nil]
      go_wp2
      refine anyNext_mk ⟨⟨_, RD5.out.later bb4.out⟩, rfl⟩ ?_
      refine anyC_pick1 11 (by kernel_rfl) (by kernel_rfl) ?_
      simp only [pickAll, pickAt, List.nil_append, List.cons_append, List.append_nil]
      have RR7 := RR5.out.later bb4.out
      have c0 := RR7.c0
      have c1 := RR7.c1
      have fz := RR7.fz
      have c2 : (x4.setCell ⟨z1 + 1, 0, none⟩ (.int .i64 b1)).cell? ⟨z1 + 1, 1, none⟩ = some (.slice none 0 0) := (RR7.set0 _).c1
      have fz2 := (RR7.set0 (.int .i64 b1)).fz
      have Y7 := Hid.mk7 (Y4.out.set_del RR7 (.int .i64 b1) (.slice ya ys.length yc))
      have Z7 := Hid.mk7 (RR7.set (.int .i64 b1) (.slice ya ys.length yc))
      have D7 := Hid.mk7 ((RD5.out.later bb4.out).otherF (show z1 ≠ z1 + 1 from by omega) (.int .i64 b1) (.slice ya ys.length yc))
      have BB7 : Hid (Below z1 w ((x4.setCell ⟨z1 + 1, 0, none⟩ (.int .i64 b1)).setCell ⟨z1 + 1, 1, none⟩ (.slice ya ys.length yc))) := below_set2 (HB.out.trans (bb4.out.mono hzb)) (show z1 ≤ z1 + 1 from by omega) _ _
      go_wp2
      clear c0 c1 c2 fz fz2 RR7
      generalize ((x4.setCell ⟨z1 + 1, 0, none⟩ (.int .i64 b1)).setCell ⟨z1 + 1, 1, none⟩ (.slice ya ys.length yc)) = x7 at *
      refine anyNext_mk ⟨⟨_, D7.out⟩, rfl⟩ ?_
      refine anyC_pick1 12 (by kernel_rfl) (by kernel_rfl) ?_
      simp only [pickAll, pickAt, List.nil_append, List.cons_append, List.append_nil]
      go_wp2
      refine anyNext_last (anyC_done (by kernel_rfl) ?_)
      go_wp2
      go_meet
      exact ⟨_, rfl, Z7, Y7, BB7⟩
    · simp only [pickAll, pickAt, List.nil_append, List.cons_append, List.append_nil]
      go_wp2
      refine anyNext_mk ⟨⟨_, RD5.out.later bb4.out⟩, rfl⟩ ?_
      refine anyC_pick1 9 (by kernel_rfl) (by kernel_rfl) ?_
      simp only [pickAll, pickAt, List.nil_append, List.cons_append, List.append_nil]
      go_wp2
      refine anyNext_mk ⟨⟨_, RD5.out.later bb4.out⟩, rfl⟩ ?_
      refine anyC_pick1 11 (by kernel_rfl) (by kernel_rfl) ?_
      simp only [pickAll, pickAt, List.nil_append, List.cons_append, List.append_nil]
      have RR11 := RR5.out.later bb4.out
      have c0 := RR11.c0
      have c1 := RR11.c1
      have fz := RR11.fz
      have c2 : (x4.setCell ⟨z1 + 1, 0, none⟩ (.int .i64 b1)).cell? ⟨z1 + 1, 1, none⟩ = some (.slice none 0 0) := (RR11.set0 _).c1
      have fz2 := (RR11.set0 (.int .i64 b1)).fz
      have Y11 := Hid.mk7 (Y4.out.set_del RR11 (.int .i64 b1) (.slice ya ys.length yc))
      have Z11 := Hid.mk7 (RR11.set (.int .i64 b1) (.slice ya ys.length yc))
      have D11 := Hid.mk7 ((RD5.out.later bb4.out).otherF (show z1 ≠ z1 + 1 from by omega) (.int .i64 b1) (.slice ya ys.length yc))
      have BB11 : Hid (Below z1 w ((x4.setCell ⟨z1 + 1, 0, none⟩ (.int .i64 b1)).setCell ⟨z1 + 1, 1, none⟩ (.slice ya ys.length yc))) := below_set2 (HB.out.trans (bb4.out.mono hzb)) (show z1 ≤ z1 + 1 from by omega) _ _
      go_wp2
      clear c0 c1 c2 fz fz2 RR11
      generalize ((x4.setCell ⟨z1 + 1, 0, none⟩ (.int .i64 b1)).setCell ⟨z1 + 1, 1, none⟩ (.slice ya ys.length yc)) = x11 at *
      refine anyNext_mk ⟨⟨_, D11.out⟩, rfl⟩ ?_
      refine anyC_pick1 12 (by kernel_rfl) (by kernel_rfl) ?_
      simp only [pickAll, pickAt, List.nil_append, List.cons_append, List.append_nil]
      go_wp2
      refine anyNext_last (anyC_done (by kernel_rfl) ?_)
      go_wp2
      go_meet
      exact ⟨_, rfl, Z11, Y11, BB11⟩
  case rest =>
    obtain ⟨yv, rfl, RZ, HY, BB⟩ := hcut
    clear RD5 RR5 HV HT HS HB r0 r1 HBU
    go_wp2
    refine bodyPost_ret (results_del2 rfl _ _ (z1 + 1) _ _ _ rfl rfl RZ.out) rfl ⟨_, rfl, HY.out, ?_⟩
    rw [hz1]
    exact BB.out
end Go.Proofs.YtalolaajcmndeaaDoor
