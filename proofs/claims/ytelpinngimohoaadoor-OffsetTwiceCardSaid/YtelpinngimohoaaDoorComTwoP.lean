/- compose's isValid, Two, Invert. -/
import Derived.Test.YtelpinngimohoaaDoorComThru
import Derived.Test.YtelpinngimohoaaDoorComChg
namespace Go.Proofs.YtelpinngimohoaaDoor
open Go.RowKit Go.Sort
set_option linter.unusedSimpArgs false
set_option linter.unusedVariables false

theorem other_cellF {w : World} {g g' j j' : Nat} {v x : Value} (x0 : x = x) (hne : g ≠ g') (h : w.cell? ⟨g, j, none⟩ = some v) : (w.setCell ⟨g', j', none⟩ x).cell? ⟨g, j, none⟩ = some v := by
  rw [← h]; unfold World.cell?; rw [heap_setCell_other _ _ _ _ hne]
/-- A delta's own cells aren't a row of elements. -/
theorem ElAt.ne_del {w : World} {v : Value} {es : List El} {g : Nat} {x : Value} {a : Option Addr} {n c : Nat} (h : ElAt w v es) (r : Rd w g x (.slice a n c)) :
    ∀ i e, es[i]? = some e → ∀ gg off, (w.cell? ⟨gg, off + i * 3, none⟩ = some (.int .i64 e.1) ∧ w.cell? ⟨gg, off + i * 3 + 1, none⟩ = some (.int .i64 e.2.1) ∧ w.cell? ⟨gg, off + i * 3 + 2, none⟩ = some (.string (cacc e.2.2))) → gg ≠ g := by
  rintro i e _ gg off ⟨_, h2, h3⟩ rfl
  have hc : ∀ j : Nat, 2 ≤ j → w.cell? ⟨gg, j, none⟩ = none := by
    intro j hj
    have hr : w.heap[gg]? = some (.cells #[x, .slice a n c] 24) := r
    unfold World.cell?
    rw [hr]
    simp; omega
  by_cases hj : 2 ≤ off + i * 3 + 1
  · rw [hc _ hj] at h2; cases h2
  · by_cases hj2 : off + i * 3 = 0
    · rw [hj2, r.c1] at h2; cases h2
    · rw [hc _ (by omega)] at h3; cases h3
theorem ElAt.set_del {w : World} {v : Value} {es : List El} {g : Nat} {x : Value} {a : Option Addr} {n c : Nat} (h : ElAt w v es) (r : Rd w g x (.slice a n c)) (x' y' : Value) : ElAt ((w.setCell ⟨g, 0, none⟩ x').setCell ⟨g, 1, none⟩ y') v es := by
  have hne := h.ne_del r
  obtain ⟨a', cap, e1, e2, e3, hh⟩ := h
  refine ⟨a', cap, e1, e2, e3, fun i e he => ?_⟩
  obtain ⟨gg, off, ea, hc⟩ := hh i e he
  have hn := hne i e he gg off hc
  refine ⟨gg, off, ea, ?_, ?_, ?_⟩
  · exact other_cellF rfl hn (other_cellF rfl hn hc.1)
  · exact other_cellF rfl hn (other_cellF rfl hn hc.2.1)
  · exact other_cellF rfl hn (other_cellF rfl hn hc.2.2)
/-- A copy of elements, to be gone through: block d, if there are none. -/
theorem eclone_xd (d : Nat) {w : World} {v : Value} {es : List El} (h : ElAt w v es) (hl : es.length ≤ 1000000) (h2 : d < w.heap.size) :
    Calls Tryd.prog 33 #[v] w fun e w' => ∃ v' g, e = .returned v' ∧ Xl w' w.heap.size g v' es ∧ g < w'.heap.size ∧ (g = d ∨ w.heap.size ≤ g) ∧ Below w.heap.size w w' := by
  refine (eclone_any h hl).mono ?_
  rintro e w' ⟨v', rfl, o, b⟩
  obtain ⟨a, cap, rfl, hc, hg⟩ := own_shapeE o
  by_cases hE : es = []
  · subst hE
    exact ⟨_, d, rfl, ⟨fun h => absurd rfl h, fun _ => ⟨a, cap, rfl⟩⟩, Nat.lt_of_lt_of_le h2 b.size, Or.inl rfl, b⟩
  · obtain ⟨g, rfl⟩ := hg hE
    have t : Xk w' w.heap.size g (.slice (some ⟨g, 0, none⟩) es.length cap) es := ⟨es, 0, cap, _, o, hc, Nat.zero_le _, rfl, rfl, fun _ => rfl⟩
    exact ⟨_, g, rfl, xl_of t, t.lt.2, Or.inr t.lt.1, b⟩
/-- What Build answers of changes that lie apart. -/
theorem build_rs {w : World} {v : Value} {base b1 er : Int} {cs : List Ce} {l E zs : List El} {tb : Nat × Nat} (hc : Cg base cs l) (hE : tld cs = E) (hr : Rs base E b1 zs er) (h : ElAt w v l) (hT : Tab w tb) :
    Calls Tryd.prog 19 #[.int .i64 base, v] w fun e w' => ∃ v', e = .returned (.tuple #[.agg #[.int .i64 b1, v'], .int .i64 er]) ∧ ElAt w' v' zs ∧ Below w.heap.size w w' := by
  have hl := hc.len
  have hin := hc.gq.ins
  have hsm := hc.gq.sm.mono (n := 281474976710656) (by omega)
  rcases gq_rs hc.gq (by rw [hc.eq]; exact hE) hr with ⟨rfl, h1, rfl, h3, rfl⟩ | ⟨rfl, h1, rfl, rfl⟩ | ⟨rfl, h1, h2, rfl, rfl⟩
  · exact build_good b1 h hsm (by omega) (by omega) tb hT h1 h3
  · refine (build_bad base h hsm (by omega) tb hT (by rw [h1]; omega)).mono ?_
    rintro e w' ⟨rfl, b⟩
    exact ⟨_, by rw [h1], ElAt.nil _, b⟩
  · refine (build_many base h hsm (by omega) (by omega) tb hT h1 h2).mono ?_
    rintro e w' ⟨rfl, b⟩
    exact ⟨_, rfl, ElAt.nil _, b⟩
/-- .. of a text alone, over nothing. -/
theorem build_text {W : World} {v : Value} {s : ByteArray} {tb : Nat × Nat} (hs : s.size ≤ 100000) (h : ElAt W v [(0, 0, s.data.toList)]) (hT : Tab W tb) :
    Calls Tryd.prog 19 #[.int .i64 0, v] W fun e w' => ∃ x a n c er, e = .returned (.tuple #[.agg #[.int .i64 x, .slice a n c], .int .i64 er]) ∧ (er != 12) = vld s.data.toList ∧ Below W.heap.size W w' := by
  have hl : s.data.toList.length = s.size := rfl
  have hsm : Sm [((0 : Int), (0 : Int), s.data.toList)] 100000 := by
    intro e he
    simp only [List.mem_singleton] at he
    subst he
    simp only; omega
  have hin : inS [((0 : Int), (0 : Int), s.data.toList)] ≤ 100000 := by simp [inS]; omega
  have hf : flt 0 [((0 : Int), (0 : Int), s.data.toList)] = if vld s.data.toList = false then 12 else if 20000 < (s.size : Int) then 13 else 0 := by
    have e1 : wthB 0 [((0 : Int), (0 : Int), s.data.toList)] = true := by simp [wthB, wthE]
    have e2 : ordB [((0 : Int), (0 : Int), s.data.toList)] = true := rfl
    have e3 : vldB [((0 : Int), (0 : Int), s.data.toList)] = vld s.data.toList := by simp [vldB]
    have e4 : sz8 0 [((0 : Int), (0 : Int), s.data.toList)] = (s.size : Int) := by simp [sz8, hl]
    unfold flt
    rw [e1, e2, e3, e4]
    simp
  have hg : (elG 0 [] 0 [((0 : Int), (0 : Int), s.data.toList)]).length ≤ 60 := by
    simp only [elG]
    split
    · simp [tx]
    · split
      · omega
      · simp [tx]; split <;> simp
  cases hv : vld s.data.toList with
  | false =>
    rw [hv, if_pos rfl] at hf
    refine (build_bad 0 h (hsm.mono (by omega)) (by simp) tb hT (by rw [hf]; omega)).mono ?_
    rintro e w' ⟨rfl, b⟩
    exact ⟨_, _, _, _, _, by rw [hf], rfl, b⟩
  | true =>
    rw [hv, if_neg (by simp)] at hf
    by_cases hz : 20000 < (s.size : Int)
    · rw [if_pos hz] at hf
      refine (build_bad 0 h (hsm.mono (by omega)) (by simp) tb hT (by rw [hf]; omega)).mono ?_
      rintro e w' ⟨rfl, b⟩
      exact ⟨_, _, _, _, _, by rw [hf], rfl, b⟩
    · rw [if_neg hz] at hf
      refine (build_good 0 h (hsm.mono (by omega)) (by simp) hin tb hT hf hg).mono ?_
      rintro e w' ⟨v', rfl, h1, b⟩
      obtain ⟨a, c, rfl, _⟩ := h1
      exact ⟨_, _, _, _, _, rfl, rfl, b⟩
set_option maxHeartbeats 8000000 in
set_option maxRecDepth 100000 in
theorem two_formA {w : World} {u v : Value} {ea eb : List El} {a b : Int} {tb : Nat × Nat} (ha : isB a ea = false) (hsa : Sm ea 20000) (h : ElAt w u ea) (k : ElAt w v eb) (hT : Tab w tb) :
    Calls Tryd.prog 22 #[.agg #[.int .i64 a, u], .agg #[.int .i64 b, v]] w fun e w' => e = .returned (.tuple #[.agg #[.int .i64 0, .slice none 0 0], .int .i64 12]) ∧ Below w.heap.size w w' := by
  have BX := (below_newE (below_newE (below_newE (Below.refl w.heap.size w) (.cells #[.int .i64 a, u] 24)) (.cells #[.int .i64 b, v] 24)) (.cells #[.int .i64 0, .slice none 0 0] 24))
  have RA0 := Hid.mk7 (((Rd.new w (.int .i64 a) (u)).alloc (.cells #[.int .i64 b, v] 24)).alloc (.cells #[.int .i64 0, .slice none 0 0] 24))
  have RB0 := Hid.mk7 ((Rd.new' (by simp) _ _ : Rd ((w.alloc (.cells #[.int .i64 a, u] 24)).alloc (.cells #[.int .i64 b, v] 24)) (w.heap.size + 1) (.int .i64 b) (v)).alloc (.cells #[.int .i64 0, .slice none 0 0] 24))
  have RR0 : Hid (Rd (((w.alloc (.cells #[.int .i64 a, u] 24)).alloc (.cells #[.int .i64 b, v] 24)).alloc (.cells #[.int .i64 0, .slice none 0 0] 24)) (w.heap.size + 2) (.int .i64 0) (.slice none 0 0)) := Rd.new' (by simp) _ _
  have E0 := Hid.mk7 (h.later BX)
  have K0 := Hid.mk7 (k.later BX)
  have T0 := Hid.mk7 (hT.later BX)
  have G0 := Hid.mk7 BX
  clear BX h hT k
  go_enter Tryd.func22, Tryd.ntmps22
  have RAc0 := RA0.out.c0
  have RAc1 := RA0.out.c1
  have RBc0 := RB0.out.c0
  have RBc1 := RB0.out.c1
  have RRc0 := RR0.out.c0
  have RRc1 := RR0.out.c1
  go_upto_region 1 with fail
  clear RAc0 RAc1 RBc0 RBc1 RRc0 RRc1
  generalize (((w.alloc (.cells #[.int .i64 a, u] 24)).alloc (.cells #[.int .i64 b, v] 24)).alloc (.cells #[.int .i64 0, .slice none 0 0] 24)) = W0 at *
  have RAc0 := RA0.out.c0
  have RAc1 := RA0.out.c1
  have RBc0 := RB0.out.c0
  have RBc1 := RB0.out.c1
  have RRc0 := RR0.out.c0
  have RRc1 := RR0.out.c1
  go_wp2_with fail
  refine (is_v ha hsa E0.out T0.out).mono ?_
  rintro e w11 ⟨rfl, bz⟩
  clear RAc0 RAc1 RBc0 RBc1 RRc0 RRc1
  have RA12 := Hid.mk7 (RA0.out.later bz)
  have RB12 := Hid.mk7 (RB0.out.later bz)
  have RR12 := Hid.mk7 (RR0.out.later bz)
  have E12 := Hid.mk7 (E0.out.later bz)
  have K12 := Hid.mk7 (K0.out.later bz)
  have T12 := Hid.mk7 (T0.out.later bz)
  have G12 := Hid.mk7 (G0.out.trans (bz.mono G0.out.size))
  clear RA0 RB0 RR0 E0 K0 T0 G0 bz
  have RAc0 := RA12.out.c0
  have RAc1 := RA12.out.c1
  have RBc0 := RB12.out.c0
  have RBc1 := RB12.out.c1
  have RRc0 := RR12.out.c0
  have RRc1 := RR12.out.c1
  have fz := RR12.out.fz
  have hlt := RR12.out.lt
  go_wp2
  exact bodyPost_ret (results_del2 rfl _ _ (w.heap.size + 2) _ _ _ rfl rfl (RR12.out.set _ _)) rfl ⟨rfl, below_set2 G12.out (by omega) _ _⟩
set_option maxHeartbeats 8000000 in
set_option maxRecDepth 100000 in
theorem two_formB {w : World} {u v : Value} {ea eb : List El} {a b : Int} {tb : Nat × Nat} (ha : isB a ea = true) (hb : isB b eb = false) (hsb : Sm eb 20000) (h : ElAt w u ea) (k : ElAt w v eb) (hT : Tab w tb) :
    Calls Tryd.prog 22 #[.agg #[.int .i64 a, u], .agg #[.int .i64 b, v]] w fun e w' => e = .returned (.tuple #[.agg #[.int .i64 0, .slice none 0 0], .int .i64 12]) ∧ Below w.heap.size w w' := by
  have hsa := (dl_of ha).sm
  have BX := (below_newE (below_newE (below_newE (Below.refl w.heap.size w) (.cells #[.int .i64 a, u] 24)) (.cells #[.int .i64 b, v] 24)) (.cells #[.int .i64 0, .slice none 0 0] 24))
  have RA0 := Hid.mk7 (((Rd.new w (.int .i64 a) (u)).alloc (.cells #[.int .i64 b, v] 24)).alloc (.cells #[.int .i64 0, .slice none 0 0] 24))
  have RB0 := Hid.mk7 ((Rd.new' (by simp) _ _ : Rd ((w.alloc (.cells #[.int .i64 a, u] 24)).alloc (.cells #[.int .i64 b, v] 24)) (w.heap.size + 1) (.int .i64 b) (v)).alloc (.cells #[.int .i64 0, .slice none 0 0] 24))
  have RR0 : Hid (Rd (((w.alloc (.cells #[.int .i64 a, u] 24)).alloc (.cells #[.int .i64 b, v] 24)).alloc (.cells #[.int .i64 0, .slice none 0 0] 24)) (w.heap.size + 2) (.int .i64 0) (.slice none 0 0)) := Rd.new' (by simp) _ _
  have E0 := Hid.mk7 (h.later BX)
  have K0 := Hid.mk7 (k.later BX)
  have T0 := Hid.mk7 (hT.later BX)
  have G0 := Hid.mk7 BX
  clear BX h hT k
  go_enter Tryd.func22, Tryd.ntmps22
  have RAc0 := RA0.out.c0
  have RAc1 := RA0.out.c1
  have RBc0 := RB0.out.c0
  have RBc1 := RB0.out.c1
  have RRc0 := RR0.out.c0
  have RRc1 := RR0.out.c1
  go_upto_region 1 with fail
  clear RAc0 RAc1 RBc0 RBc1 RRc0 RRc1
  generalize (((w.alloc (.cells #[.int .i64 a, u] 24)).alloc (.cells #[.int .i64 b, v] 24)).alloc (.cells #[.int .i64 0, .slice none 0 0] 24)) = W0 at *
  have RAc0 := RA0.out.c0
  have RAc1 := RA0.out.c1
  have RBc0 := RB0.out.c0
  have RBc1 := RB0.out.c1
  have RRc0 := RR0.out.c0
  have RRc1 := RR0.out.c1
  go_wp2_with fail
  refine (is_v ha hsa E0.out T0.out).mono ?_
  rintro e w11 ⟨rfl, bz⟩
  clear RAc0 RAc1 RBc0 RBc1 RRc0 RRc1
  have RA12 := Hid.mk7 (RA0.out.later bz)
  have RB12 := Hid.mk7 (RB0.out.later bz)
  have RR12 := Hid.mk7 (RR0.out.later bz)
  have E12 := Hid.mk7 (E0.out.later bz)
  have K12 := Hid.mk7 (K0.out.later bz)
  have T12 := Hid.mk7 (T0.out.later bz)
  have G12 := Hid.mk7 (G0.out.trans (bz.mono G0.out.size))
  clear RA0 RB0 RR0 E0 K0 T0 G0 bz
  have RAc0 := RA12.out.c0
  have RAc1 := RA12.out.c1
  have RBc0 := RB12.out.c0
  have RBc1 := RB12.out.c1
  have RRc0 := RR12.out.c0
  have RRc1 := RR12.out.c1
  go_wp2_with fail
  refine (is_v hb hsb K12.out T12.out).mono ?_
  rintro e w13 ⟨rfl, bz⟩
  clear RAc0 RAc1 RBc0 RBc1 RRc0 RRc1
  have RA14 := Hid.mk7 (RA12.out.later bz)
  have RB14 := Hid.mk7 (RB12.out.later bz)
  have RR14 := Hid.mk7 (RR12.out.later bz)
  have E14 := Hid.mk7 (E12.out.later bz)
  have K14 := Hid.mk7 (K12.out.later bz)
  have T14 := Hid.mk7 (T12.out.later bz)
  have G14 := Hid.mk7 (G12.out.trans (bz.mono G12.out.size))
  clear RA12 RB12 RR12 E12 K12 T12 G12 bz
  have RAc0 := RA14.out.c0
  have RAc1 := RA14.out.c1
  have RBc0 := RB14.out.c0
  have RBc1 := RB14.out.c1
  have RRc0 := RR14.out.c0
  have RRc1 := RR14.out.c1
  have fz := RR14.out.fz
  have hlt := RR14.out.lt
  go_wp2
  exact bodyPost_ret (results_del2 rfl _ _ (w.heap.size + 2) _ _ _ rfl rfl (RR14.out.set _ _)) rfl ⟨rfl, below_set2 G14.out (by omega) _ _⟩
set_option maxHeartbeats 8000000 in
set_option maxRecDepth 100000 in
theorem two_len {w : World} {u v : Value} {ea eb : List El} {a b z : Int} {tb : Nat × Nat} (ha : isB a ea = true) (hb : isB b eb = true) (hz : szE ea = z) (hl : b ≠ z) (h : ElAt w u ea) (k : ElAt w v eb) (hT : Tab w tb) :
    Calls Tryd.prog 22 #[.agg #[.int .i64 a, u], .agg #[.int .i64 b, v]] w fun e w' => e = .returned (.tuple #[.agg #[.int .i64 0, .slice none 0 0], .int .i64 80]) ∧ Below w.heap.size w w' := by
  have hsa := (dl_of ha).sm
  have hsb := (dl_of hb).sm
  have d1 : (b != z) = true := by simpa using hl
  have d2 : decide (b = z) = false := decide_eq_false hl
  have BX := (below_newE (below_newE (below_newE (Below.refl w.heap.size w) (.cells #[.int .i64 a, u] 24)) (.cells #[.int .i64 b, v] 24)) (.cells #[.int .i64 0, .slice none 0 0] 24))
  have RA0 := Hid.mk7 (((Rd.new w (.int .i64 a) (u)).alloc (.cells #[.int .i64 b, v] 24)).alloc (.cells #[.int .i64 0, .slice none 0 0] 24))
  have RB0 := Hid.mk7 ((Rd.new' (by simp) _ _ : Rd ((w.alloc (.cells #[.int .i64 a, u] 24)).alloc (.cells #[.int .i64 b, v] 24)) (w.heap.size + 1) (.int .i64 b) (v)).alloc (.cells #[.int .i64 0, .slice none 0 0] 24))
  have RR0 : Hid (Rd (((w.alloc (.cells #[.int .i64 a, u] 24)).alloc (.cells #[.int .i64 b, v] 24)).alloc (.cells #[.int .i64 0, .slice none 0 0] 24)) (w.heap.size + 2) (.int .i64 0) (.slice none 0 0)) := Rd.new' (by simp) _ _
  have E0 := Hid.mk7 (h.later BX)
  have K0 := Hid.mk7 (k.later BX)
  have T0 := Hid.mk7 (hT.later BX)
  have G0 := Hid.mk7 BX
  clear BX h hT k
  go_enter Tryd.func22, Tryd.ntmps22
  have RAc0 := RA0.out.c0
  have RAc1 := RA0.out.c1
  have RBc0 := RB0.out.c0
  have RBc1 := RB0.out.c1
  have RRc0 := RR0.out.c0
  have RRc1 := RR0.out.c1
  go_upto_region 1 with fail
  clear RAc0 RAc1 RBc0 RBc1 RRc0 RRc1
  generalize (((w.alloc (.cells #[.int .i64 a, u] 24)).alloc (.cells #[.int .i64 b, v] 24)).alloc (.cells #[.int .i64 0, .slice none 0 0] 24)) = W0 at *
  have RAc0 := RA0.out.c0
  have RAc1 := RA0.out.c1
  have RBc0 := RB0.out.c0
  have RBc1 := RB0.out.c1
  have RRc0 := RR0.out.c0
  have RRc1 := RR0.out.c1
  go_wp2_with fail
  refine (is_v ha hsa E0.out T0.out).mono ?_
  rintro e w11 ⟨rfl, bz⟩
  clear RAc0 RAc1 RBc0 RBc1 RRc0 RRc1
  have RA12 := Hid.mk7 (RA0.out.later bz)
  have RB12 := Hid.mk7 (RB0.out.later bz)
  have RR12 := Hid.mk7 (RR0.out.later bz)
  have E12 := Hid.mk7 (E0.out.later bz)
  have K12 := Hid.mk7 (K0.out.later bz)
  have T12 := Hid.mk7 (T0.out.later bz)
  have G12 := Hid.mk7 (G0.out.trans (bz.mono G0.out.size))
  clear RA0 RB0 RR0 E0 K0 T0 G0 bz
  have RAc0 := RA12.out.c0
  have RAc1 := RA12.out.c1
  have RBc0 := RB12.out.c0
  have RBc1 := RB12.out.c1
  have RRc0 := RR12.out.c0
  have RRc1 := RR12.out.c1
  go_wp2_with fail
  refine (is_v hb hsb K12.out T12.out).mono ?_
  rintro e w13 ⟨rfl, bz⟩
  clear RAc0 RAc1 RBc0 RBc1 RRc0 RRc1
  have RA14 := Hid.mk7 (RA12.out.later bz)
  have RB14 := Hid.mk7 (RB12.out.later bz)
  have RR14 := Hid.mk7 (RR12.out.later bz)
  have E14 := Hid.mk7 (E12.out.later bz)
  have K14 := Hid.mk7 (K12.out.later bz)
  have T14 := Hid.mk7 (T12.out.later bz)
  have G14 := Hid.mk7 (G12.out.trans (bz.mono G12.out.size))
  clear RA12 RB12 RR12 E12 K12 T12 G12 bz
  have RAc0 := RA14.out.c0
  have RAc1 := RA14.out.c1
  have RBc0 := RB14.out.c0
  have RBc1 := RB14.out.c1
  have RRc0 := RR14.out.c0
  have RRc1 := RR14.out.c1
  go_upto_region 3 with fail
  have HLC := Hid.mk7 (fun d os => Calls.regrown_of (size_v ha hz (E14.out.later (below_regrown w13 d os)) (T14.out.later (below_regrown w13 d os))))
  have z0 := cell_regrown RAc0
  have z1 := cell_regrown RAc1
  have z2 := cell_regrown RBc0
  have z3 := cell_regrown RBc1
  have z4 := cell_regrown RRc0
  have z5 := cell_regrown RRc1
  clear RAc0 RAc1 RBc0 RBc1 RRc0 RRc1
  refine wp_region_quiet_below (by kernel_rfl) (by kernel_rfl) ?_
  repeat (go_big_quiet_step (exact HLC.out _ _))
  refine wpQuiet_nil ?_
  intro _ hw'
  obtain ⟨⟨dq, osq⟩, hw''⟩ := hw'
  subst hw''
  have bz := below_regrown w13 dq osq
  clear z0 z1 z2 z3 z4 z5 HLC
  have RA15 := Hid.mk7 (RA14.out.later bz)
  have RB15 := Hid.mk7 (RB14.out.later bz)
  have RR15 := Hid.mk7 (RR14.out.later bz)
  have E15 := Hid.mk7 (E14.out.later bz)
  have K15 := Hid.mk7 (K14.out.later bz)
  have T15 := Hid.mk7 (T14.out.later bz)
  have G15 := Hid.mk7 (G14.out.trans (bz.mono G14.out.size))
  clear RA14 RB14 RR14 E14 K14 T14 G14 bz
  generalize grow (redrawn w13 dq) osq = y15 at *
  have RAc0 := RA15.out.c0
  have RAc1 := RA15.out.c1
  have RBc0 := RB15.out.c0
  have RBc1 := RB15.out.c1
  have RRc0 := RR15.out.c0
  have RRc1 := RR15.out.c1
  have fz := RR15.out.fz
  have hlt := RR15.out.lt
  go_wp2
  exact bodyPost_ret (results_del2 rfl _ _ (w.heap.size + 2) _ _ _ rfl rfl (RR15.out.set _ _)) rfl ⟨rfl, below_set2 G15.out (by omega) _ _⟩
set_option maxHeartbeats 8000000 in
set_option maxRecDepth 100000 in
theorem two_rs {w : World} {u v : Value} {ea eb zs : List El} {a b b1 er : Int} {tb : Nat × Nat} (ha : isB a ea = true) (hb : isB b eb = true) (hl : b = ((cel ea).length : Nat)) (hr : Rs a (tld (twoC (cel ea) (cel eb))) b1 zs er) (h : ElAt w u ea) (k : ElAt w v eb) (hT : Tab w tb) :
    Calls Tryd.prog 22 #[.agg #[.int .i64 a, u], .agg #[.int .i64 b, v]] w fun e w' => ∃ v', e = .returned (.tuple #[.agg #[.int .i64 b1, v'], .int .i64 er]) ∧ ElAt w' v' zs ∧ Below w.heap.size w w' := by
  have hsa := (dl_of ha).sm
  have hsb := (dl_of hb).sm
  have hz : szE ea = b := by rw [hl]; exact (cel_size ea 0 0 (dl_of ha).nm).symm
  have hla := (dl_of ha).len
  have hlb := (dl_of hb).len
  have HTR := Hid.mk7 (fun (w W : World) (uv vv : Value) (B1 B2 gx gy : Nat) (hx : Xl W B1 gx uv ea) (hy : Xl W B2 gy vv eb) (h1 : w.heap.size ≤ B1) (h2 : w.heap.size ≤ B2) (h3 : gx < W.heap.size) (h4 : gy < W.heap.size) (h5 : gx ≠ gy) (h6 : Below w.heap.size w W) => through_any B1 B2 gx gy ha hb hl hx hy h1 h2 h3 h4 h5 h6)
  have HBU := Hid.mk7 (fun (W : World) (v : Value) (l : List El) (hc : Cg a (twoC (cel ea) (cel eb)) l) (h : ElAt W v l) (t : Tab W tb) => build_rs hc rfl hr h t)
  clear hr hl
  have BX := (below_newE (below_newE (below_newE (Below.refl w.heap.size w) (.cells #[.int .i64 a, u] 24)) (.cells #[.int .i64 b, v] 24)) (.cells #[.int .i64 0, .slice none 0 0] 24))
  have RA0 := Hid.mk7 (((Rd.new w (.int .i64 a) (u)).alloc (.cells #[.int .i64 b, v] 24)).alloc (.cells #[.int .i64 0, .slice none 0 0] 24))
  have RB0 := Hid.mk7 ((Rd.new' (by simp) _ _ : Rd ((w.alloc (.cells #[.int .i64 a, u] 24)).alloc (.cells #[.int .i64 b, v] 24)) (w.heap.size + 1) (.int .i64 b) (v)).alloc (.cells #[.int .i64 0, .slice none 0 0] 24))
  have RR0 : Hid (Rd (((w.alloc (.cells #[.int .i64 a, u] 24)).alloc (.cells #[.int .i64 b, v] 24)).alloc (.cells #[.int .i64 0, .slice none 0 0] 24)) (w.heap.size + 2) (.int .i64 0) (.slice none 0 0)) := Rd.new' (by simp) _ _
  have E0 := Hid.mk7 (h.later BX)
  have K0 := Hid.mk7 (k.later BX)
  have T0 := Hid.mk7 (hT.later BX)
  have G0 := Hid.mk7 BX
  clear BX h hT k
  go_enter Tryd.func22, Tryd.ntmps22
  have RAc0 := RA0.out.c0
  have RAc1 := RA0.out.c1
  have RBc0 := RB0.out.c0
  have RBc1 := RB0.out.c1
  have RRc0 := RR0.out.c0
  have RRc1 := RR0.out.c1
  go_upto_region 1 with fail
  clear RAc0 RAc1 RBc0 RBc1 RRc0 RRc1
  generalize (((w.alloc (.cells #[.int .i64 a, u] 24)).alloc (.cells #[.int .i64 b, v] 24)).alloc (.cells #[.int .i64 0, .slice none 0 0] 24)) = W0 at *
  have RAc0 := RA0.out.c0
  have RAc1 := RA0.out.c1
  have RBc0 := RB0.out.c0
  have RBc1 := RB0.out.c1
  have RRc0 := RR0.out.c0
  have RRc1 := RR0.out.c1
  go_wp2_with fail
  refine (is_v ha hsa E0.out T0.out).mono ?_
  rintro e w11 ⟨rfl, bz⟩
  clear RAc0 RAc1 RBc0 RBc1 RRc0 RRc1
  have RA12 := Hid.mk7 (RA0.out.later bz)
  have RB12 := Hid.mk7 (RB0.out.later bz)
  have RR12 := Hid.mk7 (RR0.out.later bz)
  have E12 := Hid.mk7 (E0.out.later bz)
  have K12 := Hid.mk7 (K0.out.later bz)
  have T12 := Hid.mk7 (T0.out.later bz)
  have G12 := Hid.mk7 (G0.out.trans (bz.mono G0.out.size))
  clear RA0 RB0 RR0 E0 K0 T0 G0 bz
  have RAc0 := RA12.out.c0
  have RAc1 := RA12.out.c1
  have RBc0 := RB12.out.c0
  have RBc1 := RB12.out.c1
  have RRc0 := RR12.out.c0
  have RRc1 := RR12.out.c1
  go_wp2_with fail
  refine (is_v hb hsb K12.out T12.out).mono ?_
  rintro e w13 ⟨rfl, bz⟩
  clear RAc0 RAc1 RBc0 RBc1 RRc0 RRc1
  have RA14 := Hid.mk7 (RA12.out.later bz)
  have RB14 := Hid.mk7 (RB12.out.later bz)
  have RR14 := Hid.mk7 (RR12.out.later bz)
  have E14 := Hid.mk7 (E12.out.later bz)
  have K14 := Hid.mk7 (K12.out.later bz)
  have T14 := Hid.mk7 (T12.out.later bz)
  have G14 := Hid.mk7 (G12.out.trans (bz.mono G12.out.size))
  clear RA12 RB12 RR12 E12 K12 T12 G12 bz
  have RAc0 := RA14.out.c0
  have RAc1 := RA14.out.c1
  have RBc0 := RB14.out.c0
  have RBc1 := RB14.out.c1
  have RRc0 := RR14.out.c0
  have RRc1 := RR14.out.c1
  go_upto_region 3 with fail
  have HLC := Hid.mk7 (fun d os => Calls.regrown_of (size_v ha hz (E14.out.later (below_regrown w13 d os)) (T14.out.later (below_regrown w13 d os))))
  have z0 := cell_regrown RAc0
  have z1 := cell_regrown RAc1
  have z2 := cell_regrown RBc0
  have z3 := cell_regrown RBc1
  have z4 := cell_regrown RRc0
  have z5 := cell_regrown RRc1
  clear RAc0 RAc1 RBc0 RBc1 RRc0 RRc1
  refine wp_region_quiet_below (by kernel_rfl) (by kernel_rfl) ?_
  repeat (go_big_quiet_step (exact HLC.out _ _))
  refine wpQuiet_nil ?_
  intro _ hw'
  obtain ⟨⟨dq, osq⟩, hw''⟩ := hw'
  subst hw''
  have bz := below_regrown w13 dq osq
  clear z0 z1 z2 z3 z4 z5 HLC
  have RA15 := Hid.mk7 (RA14.out.later bz)
  have RB15 := Hid.mk7 (RB14.out.later bz)
  have RR15 := Hid.mk7 (RR14.out.later bz)
  have E15 := Hid.mk7 (E14.out.later bz)
  have K15 := Hid.mk7 (K14.out.later bz)
  have T15 := Hid.mk7 (T14.out.later bz)
  have G15 := Hid.mk7 (G14.out.trans (bz.mono G14.out.size))
  clear RA14 RB14 RR14 E14 K14 T14 G14 bz
  generalize grow (redrawn w13 dq) osq = y15 at *
  obtain ⟨CS, hCS⟩ : ∃ CS, twoC (cel ea) (cel eb) = CS := ⟨_, rfl⟩
  rw [hCS] at HTR HBU
  clear hCS
  have RAc0 := RA15.out.c0
  have RAc1 := RA15.out.c1
  have RBc0 := RB15.out.c0
  have RBc1 := RB15.out.c1
  have RRc0 := RR15.out.c0
  have RRc1 := RR15.out.c1
  have hlt2 := RR15.out.lt
  go_upto_region 5 with fail
  have z0 := cell_regrown RAc0
  have z1 := cell_regrown RAc1
  have z2 := cell_regrown RBc0
  have z3 := cell_regrown RBc1
  have z4 := cell_regrown RRc0
  have z5 := cell_regrown RRc1
  clear RAc0 RAc1 RBc0 RBc1 RRc0 RRc1
  refine wp_region_mixP [([0, 1, 3, 4], [2]), ([], [5]), ([], [6]), ([7], [])] (by kernel_rfl) (by kernel_rfl) ?_
  rintro x0 ⟨d0, rfl⟩
  have m0 := below_redrawnE y15 d0
  refine wpPlan_cons ?_
  simp only [pickAll, pickAt, List.nil_append, List.cons_append, List.append_nil]
  repeat (go_big_quiet_step (fail))
  refine wpQuiet_nil ?_
  have s0 := m0.size
  go_wp2_with fail
  refine (eclone_xd 0 (E15.out.later m0) (by omega) (by omega)).mono ?_
  rintro e x1 ⟨xv, gx, rfl, hx1, lx1, ox1, b1'⟩
  have m1 := m0.trans (b1'.mono m0.size)
  have s1 := b1'.size
  go_wp2
  refine mixNext_belowE m1 ?_
  refine wpPlan_cons ?_
  simp only [pickAll, pickAt, List.nil_append, List.cons_append, List.append_nil]
  repeat (go_big_quiet_step (fail))
  refine wpQuiet_nil ?_
  go_wp2_with fail
  refine (eclone_xd 1 (K15.out.later m1) (by omega) (by omega)).mono ?_
  rintro e x2 ⟨yv, gy, rfl, hy2, ly2, oy2, b2'⟩
  have m2 := m1.trans (b2'.mono m1.size)
  have s2 := b2'.size
  have hx2 := hx1.kept (grown_below b2' none) (by simp)
  go_wp2
  refine mixNext_belowE m2 ?_
  refine wpPlan_cons ?_
  simp only [pickAll, pickAt, List.nil_append, List.cons_append, List.append_nil]
  repeat (go_big_quiet_step (fail))
  refine wpQuiet_nil ?_
  go_wp2_with fail
  refine (HTR.out y15 x2 xv yv _ _ gx gy hx2 hy2 (by omega) (by omega) (by omega) ly2 (by omega) m2).mono ?_
  rintro e x3 ⟨pv, ps, rfl, hps, htg, m3⟩
  go_wp2
  refine mixNext_belowE m3 ?_
  refine wpPlan_cons ?_
  simp only [pickAll, pickAt, List.nil_append, List.cons_append, List.append_nil]
  repeat (go_big_quiet_step (fail))
  refine wpQuiet_nil ?_
  refine mixNext_belowE m3 (wpPlan_nil ?_)
  have HTG := Hid.mk7 htg
  clear z0 z1 z2 z3 z4 z5 m0 m1 m2 b1' b2' hx1 hx2 hy2 s0 s1 s2 lx1 ox1 ly2 oy2 hlt2 htg HTR
  have RA16 := Hid.mk7 (RA15.out.later m3)
  have RB16 := Hid.mk7 (RB15.out.later m3)
  have RR16 := Hid.mk7 (RR15.out.later m3)
  have E16 := Hid.mk7 (E15.out.later m3)
  have K16 := Hid.mk7 (K15.out.later m3)
  have T16 := Hid.mk7 (T15.out.later m3)
  have G16 := Hid.mk7 (G15.out.trans (m3.mono G15.out.size))
  clear RA15 RB15 RR15 E15 K15 T15 G15 m3
  have HPS := Hid.mk7 hps
  clear hps
  have RAc0 := RA16.out.c0
  have RAc1 := RA16.out.c1
  have RBc0 := RB16.out.c0
  have RBc1 := RB16.out.c1
  have RRc0 := RR16.out.c0
  have RRc1 := RR16.out.c1
  go_upto_region 6 with fail
  refine wp_region_turns (fun w' => ∃ q : (GW (fun W => Rd W w.heap.size (.int .i64 a) u)), w' = q.w) [0, 1, 2, 3, 4] 10 6 (by kernel_rfl) (by kernel_rfl) (fun d => ⟨⟨redrawn x3 d, RA16.out.later (below_redrawnE x3 d)⟩, rfl⟩) ?_
  intro d
  have k0 : ∀ q : (GW (fun W => Rd W w.heap.size (.int .i64 a) u)), q.w.cell? ⟨w.heap.size, 0, none⟩ = some _ := fun q => q.h.c0
  have k1 : ∀ q : (GW (fun W => Rd W w.heap.size (.int .i64 a) u)), q.w.cell? ⟨w.heap.size, 1, none⟩ = some _ := fun q => q.h.c1
  simp only [pickAll, pickAt, List.nil_append, List.cons_append, List.append_nil]
  have hne : Nonempty (GW (fun W => Rd W w.heap.size (.int .i64 a) u)) := ⟨⟨x3, RA16.out⟩⟩
  clear RAc0 RAc1 RBc0 RBc1 RRc0 RRc1
  repeat (go_big_quiet_step (fail))
  refine wpQuiet_nil ?_
  clear hne k0 k1
  have bz := below_redrawnE x3 d
  have RA17 := Hid.mk7 (RA16.out.later bz)
  have RB17 := Hid.mk7 (RB16.out.later bz)
  have RR17 := Hid.mk7 (RR16.out.later bz)
  have E17 := Hid.mk7 (E16.out.later bz)
  have K17 := Hid.mk7 (K16.out.later bz)
  have T17 := Hid.mk7 (T16.out.later bz)
  have G17 := Hid.mk7 (G16.out.trans (bz.mono G16.out.size))
  have P17 := Hid.mk7 (HPS.out.later bz)
  clear RA16 RB16 RR16 E16 K16 T16 G16 HPS bz
  generalize redrawn x3 d = y17 at *
  refine anyC_pick1 5 (by kernel_rfl) (by kernel_rfl) ?_
  simp only [pickAll, pickAt, List.nil_append, List.cons_append, List.append_nil]
  have RAc0 := RA17.out.c0
  have RAc1 := RA17.out.c1
  have RBc0 := RB17.out.c0
  have RBc1 := RB17.out.c1
  have RRc0 := RR17.out.c0
  have RRc1 := RR17.out.c1
  go_wp2_with fail
  refine (cchanges_any HTG.out P17.out).mono ?_
  rintro e w18 ⟨lv, l, rfl, hl5, hcg, bz⟩
  clear RAc0 RAc1 RBc0 RBc1 RRc0 RRc1
  have RA19 := Hid.mk7 (RA17.out.later bz)
  have RB19 := Hid.mk7 (RB17.out.later bz)
  have RR19 := Hid.mk7 (RR17.out.later bz)
  have E19 := Hid.mk7 (E17.out.later bz)
  have K19 := Hid.mk7 (K17.out.later bz)
  have T19 := Hid.mk7 (T17.out.later bz)
  have G19 := Hid.mk7 (G17.out.trans (bz.mono G17.out.size))
  have P19 := Hid.mk7 (P17.out.later bz)
  clear RA17 RB17 RR17 E17 K17 T17 G17 P17 bz
  have L20 := Hid.mk7 (hl5)
  clear hl5
  go_wp2
  refine anyNext_mk ⟨⟨_, RA19.out⟩, rfl⟩ ?_
  refine anyC_pick1 6 (by kernel_rfl) (by kernel_rfl) ?_
  simp only [pickAll, pickAt, List.nil_append, List.cons_append, List.append_nil]
  have RAc0 := RA19.out.c0
  have RAc1 := RA19.out.c1
  have RBc0 := RB19.out.c0
  have RBc1 := RB19.out.c1
  have RRc0 := RR19.out.c0
  have RRc1 := RR19.out.c1
  go_wp2_with fail
  refine (HBU.out _ _ _ hcg L20.out T19.out).mono ?_
  rintro e w21 ⟨yv9, rfl, hy9, bz⟩
  clear RAc0 RAc1 RBc0 RBc1 RRc0 RRc1
  obtain ⟨ya, yc, rfl, _, _, _⟩ := id hy9
  have RA22 := Hid.mk7 (RA19.out.later bz)
  have RB22 := Hid.mk7 (RB19.out.later bz)
  have RR22 := Hid.mk7 (RR19.out.later bz)
  have E22 := Hid.mk7 (E19.out.later bz)
  have K22 := Hid.mk7 (K19.out.later bz)
  have T22 := Hid.mk7 (T19.out.later bz)
  have G22 := Hid.mk7 (G19.out.trans (bz.mono G19.out.size))
  have P22 := Hid.mk7 (P19.out.later bz)
  have L22 := Hid.mk7 (L20.out.later bz)
  clear RA19 RB19 RR19 E19 K19 T19 G19 P19 L20 bz
  have Y23 := Hid.mk7 (hy9)
  clear hy9
  go_wp2
  refine anyNext_mk ⟨⟨_, RA22.out⟩, rfl⟩ ?_
  refine anyC_pick2 7 8 (by kernel_rfl) (by kernel_rfl) (by kernel_rfl) ?_ ?_
  · simp only [pickAll, pickAt, List.nil_append, List.cons_append, List.append_nil]
    go_wp2
    refine anyNext_mk ⟨⟨_, RA22.out⟩, rfl⟩ ?_
    refine anyC_pick1 8 (by kernel_rfl) (by kernel_rfl) ?_
    simp only [pickAll, pickAt, List.nil_append, List.cons_append, List.append_nil]
    go_wp2
    refine anyNext_mk ⟨⟨_, RA22.out⟩, rfl⟩ ?_
    refine anyC_pick1 9 (by kernel_rfl) (by kernel_rfl) ?_
    simp only [pickAll, pickAt, List.nil_append, List.cons_append, List.append_nil]
    have hltz := RR22.out.lt
    have c0 := RR22.out.c0
    have c1 := RR22.out.c1
    have fz := RR22.out.fz
    have c2 : (w21.setCell ⟨w.heap.size + 2, 0, none⟩ (.int .i64 b1)).cell? ⟨w.heap.size + 2, 1, none⟩ = some (.slice none 0 0) := (RR22.out.set0 _).c1
    have fz2 := (RR22.out.set0 (.int .i64 b1)).fz
    have YY := Hid.mk7 (Y23.out.set_del RR22.out (.int .i64 b1) (.slice ya zs.length yc))
    have ZZ := Hid.mk7 (RR22.out.set (.int .i64 b1) (.slice ya zs.length yc))
    have AA := Hid.mk7 (RA22.out.otherF (g' := w.heap.size + 2) (by omega) (.int .i64 b1) (.slice ya zs.length yc))
    have GG := Hid.mk7 (below_set2 (g := w.heap.size + 2) G22.out (by omega) (.int .i64 b1) (.slice ya zs.length yc))
    go_wp2
    clear c0 c1 c2 fz fz2
    generalize ((w21.setCell ⟨w.heap.size + 2, 0, none⟩ (.int .i64 b1)).setCell ⟨w.heap.size + 2, 1, none⟩ (.slice ya zs.length yc)) = yy at *
    refine anyNext_mk ⟨⟨_, AA.out⟩, rfl⟩ ?_
    refine anyC_pick1 10 (by kernel_rfl) (by kernel_rfl) ?_
    simp only [pickAll, pickAt, List.nil_append, List.cons_append, List.append_nil]
    go_wp2
    refine anyNext_last (anyC_done (by kernel_rfl) ?_)
    go_wp2
    exact bodyPost_ret (results_del2 rfl _ _ (w.heap.size + 2) _ _ _ rfl rfl ZZ.out) rfl ⟨_, rfl, YY.out, GG.out⟩
  · simp only [pickAll, pickAt, List.nil_append, List.cons_append, List.append_nil]
    go_wp2
    refine anyNext_mk ⟨⟨_, RA22.out⟩, rfl⟩ ?_
    refine anyC_pick1 7 (by kernel_rfl) (by kernel_rfl) ?_
    simp only [pickAll, pickAt, List.nil_append, List.cons_append, List.append_nil]
    go_wp2
    refine anyNext_mk ⟨⟨_, RA22.out⟩, rfl⟩ ?_
    refine anyC_pick1 9 (by kernel_rfl) (by kernel_rfl) ?_
    simp only [pickAll, pickAt, List.nil_append, List.cons_append, List.append_nil]
    have hltz := RR22.out.lt
    have c0 := RR22.out.c0
    have c1 := RR22.out.c1
    have fz := RR22.out.fz
    have c2 : (w21.setCell ⟨w.heap.size + 2, 0, none⟩ (.int .i64 b1)).cell? ⟨w.heap.size + 2, 1, none⟩ = some (.slice none 0 0) := (RR22.out.set0 _).c1
    have fz2 := (RR22.out.set0 (.int .i64 b1)).fz
    have YY := Hid.mk7 (Y23.out.set_del RR22.out (.int .i64 b1) (.slice ya zs.length yc))
    have ZZ := Hid.mk7 (RR22.out.set (.int .i64 b1) (.slice ya zs.length yc))
    have AA := Hid.mk7 (RA22.out.otherF (g' := w.heap.size + 2) (by omega) (.int .i64 b1) (.slice ya zs.length yc))
    have GG := Hid.mk7 (below_set2 (g := w.heap.size + 2) G22.out (by omega) (.int .i64 b1) (.slice ya zs.length yc))
    go_wp2
    clear c0 c1 c2 fz fz2
    generalize ((w21.setCell ⟨w.heap.size + 2, 0, none⟩ (.int .i64 b1)).setCell ⟨w.heap.size + 2, 1, none⟩ (.slice ya zs.length yc)) = yy at *
    refine anyNext_mk ⟨⟨_, AA.out⟩, rfl⟩ ?_
    refine anyC_pick1 10 (by kernel_rfl) (by kernel_rfl) ?_
    simp only [pickAll, pickAt, List.nil_append, List.cons_append, List.append_nil]
    go_wp2
    refine anyNext_last (anyC_done (by kernel_rfl) ?_)
    go_wp2
    exact bodyPost_ret (results_del2 rfl _ _ (w.heap.size + 2) _ _ _ rfl rfl ZZ.out) rfl ⟨_, rfl, YY.out, GG.out⟩
end Go.Proofs.YtelpinngimohoaaDoor
