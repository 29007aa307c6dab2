/- BreaksRows walked. -/
import Derived.Test.YtafhogfbjklboaaDoorBrkMany
import Derived.Test.YtafhogfbjklboaaDoorBrkLaid
namespace Go.Proofs.YtafhogfbjklboaaDoor
open Go.RowKit Go.Sort
set_option linter.unusedSimpArgs false
set_option linter.unusedVariables false

/-- A row of sixty-four Bools in a block of its own: place k bears F k. -/
def Bls (w : World) (g : Nat) (F : Nat → Bool) : Prop := ∃ (zs : Array Value) (e : TypeId), w.heap[g]? = some (.cells zs e (0, 0)) ∧ zs.size = 64 ∧ ∀ k, k < 64 → zs[k]? = some (.bool (F k))
theorem Bls.lt {w : World} {g : Nat} {F : Nat → Bool} (h : Bls w g F) : g < w.heap.size := by obtain ⟨zs, e, h, _⟩ := h; exact (Array.getElem?_eq_some_iff.1 h).1
theorem Bls.later {w w' : World} {g : Nat} {F : Nat → Bool} (h : Bls w g F) (hb : Below w.heap.size w w') : Bls w' g F := by
  have hl := h.lt
  obtain ⟨zs, e, h, hz⟩ := h
  exact ⟨zs, e, (hb.block g hl).trans h, hz⟩
theorem Bls.cell {w : World} {g : Nat} {F : Nat → Bool} (h : Bls w g F) {k : Nat} (hk : k < 64) : w.cell? ⟨g, k, none⟩ = some (.bool (F k)) := by
  obtain ⟨zs, e, h, _, hz⟩ := h
  rw [cell_of_row w g k zs e _ h]; exact hz k hk
theorem Bls.frz {w : World} {g : Nat} {F : Nat → Bool} (h : Bls w g F) (k : Nat) : w.frozen? ⟨g, k, none⟩ = false := by
  obtain ⟨zs, e, h, _, hz⟩ := h
  exact frozen_of_row w g k zs e h
theorem Bls.set {w : World} {g : Nat} {F G : Nat → Bool} (h : Bls w g F) {k : Nat} (hk : k < 64) (b : Bool) (hG : ∀ j, j < 64 → G j = if j = k then b else F j) : Bls (w.setCell ⟨g, k, none⟩ (.bool b)) g G := by
  obtain ⟨zs, e, h, hs, hz⟩ := h
  refine ⟨_, e, heap_setCell_same w g k zs e _ h, by simpa using hs, fun j hj => ?_⟩
  rw [hG j hj, Array.getElem?_setIfInBounds]
  by_cases ej : j = k
  · subst ej
    rw [if_pos rfl, if_pos (by omega), if_pos rfl]
  · rw [if_neg (fun h => ej h.symm), if_neg ej]
    exact hz j hj
/-- A row of numbers shares no block with it. -/
theorem NAt.bls {w : World} {g : Nat} {F : Nat → Bool} {v : Value} {L : List Int} (h : NAt w v L) (hB : Bls w g F) (k : Nat) (x : Value) : NAt (w.setCell ⟨g, k, none⟩ x) v L := by
  obtain ⟨a, cap, e, hc, hn, h⟩ := h
  refine ⟨a, cap, e, hc, hn, fun i r hr => ?_⟩
  obtain ⟨g', off, ea, h1⟩ := h i r hr
  refine ⟨g', off, ea, ?_⟩
  have hne : g' ≠ g := by
    intro e
    subst e
    by_cases hk : off + i < 64
    · rw [hB.cell hk] at h1; cases h1
    · obtain ⟨zs, t, hh, hs, _⟩ := hB
      rw [cell_of_row w g' _ zs t _ hh, Array.getElem?_eq_none (by omega)] at h1
      cases h1
  exact (World.cell?_setCell_other _ _ _ _ (by intro e'; simp only [Addr.mk.injEq] at e'; omega)).trans h1
theorem zv64 : ∃ zs : Array Value, (∀ w, Sem.run Tryd.prog (zeroValue 46) w = .ok (.agg zs) w) ∧ ¬ zs = #[] ∧ zs.size = 64 ∧ ∀ k, k < 64 → zs[k]? = some (.bool false) :=
  ⟨Array.replicate 64 (.bool false), fun w => by kernel_rfl, by decide, by simp, fun k hk => by simp [hk]⟩
theorem Bls.new {w : World} {zs : Array Value} (e : TypeId) (hs : zs.size = 64) (h : ∀ k, k < 64 → zs[k]? = some (.bool false)) : Bls (w.alloc (.cells zs e)) w.heap.size (fun _ => false) :=
  ⟨zs, e, heap_alloc_new w _, hs, h⟩
theorem ris_len {m : Int} : ∀ {l : List Int} {a : Int}, Ris m a l → a < m → (l.length : Int) ≤ m - a - 1
  | [], a, _, h => by simp; omega
  | x :: l, a, ⟨⟨h1, h2⟩, h3⟩, h => by have := ris_len h3 h2; simp; omega
theorem cnt_mem {m y : Int} : ∀ {l : List Int} {a : Int}, Ris m a l → y ∈ l → l[cntL y l]? = some y ∧ cntL (y + 1) l = cntL y l + 1
  | [], _, _, h => by cases h
  | x :: l, a, ⟨⟨h1, h2⟩, h3⟩, h => by
    by_cases e : y = x
    · subst e
      have z0 : cntL y l = 0 := cntL_none h3 (Int.le_refl _)
      have z1 : cntL (y + 1) l = 0 := by
        unfold cntL
        rw [List.countP_eq_zero]
        intro z hz
        have := ris_mem h3 hz
        simp; omega
      unfold cntL at *
      rw [List.countP_cons, List.countP_cons, z0, z1]
      simp
      omega
    · have hy : y ∈ l := by
        rcases List.mem_cons.1 h with h | h
        · exact absurd h e
        · exact h
      have hlt := (ris_mem h3 hy).1
      obtain ⟨e1, e2⟩ := cnt_mem h3 hy
      have c1 : cntL y (x :: l) = cntL y l + 1 := by unfold cntL; rw [List.countP_cons]; simp [hlt]
      have c2 : cntL (y + 1) (x :: l) = cntL (y + 1) l + 1 := by unfold cntL; rw [List.countP_cons]; simp; omega
      rw [c1, c2, e2]
      exact ⟨by simpa using e1, rfl⟩
theorem cnt_not {y : Int} {l : List Int} (h : ¬ y ∈ l) : cntL (y + 1) l = cntL y l := by
  unfold cntL
  apply List.countP_congr
  intro x hx
  have hne : x ≠ y := fun e => h (by rw [← e]; exact hx)
  simp; omega
theorem ln_cnt (y : Int) (l : List Int) : lnK y l = cntL (y + 1) l := by
  unfold lnK cntL
  apply List.countP_congr
  intro x hx
  simp; omega
theorem cnt_all {m y : Int} {l : List Int} {a : Int} (h : Ris m a l) (hy : m ≤ y) : cntL y l = l.length := by
  unfold cntL
  rw [List.countP_eq_length]
  intro x hx
  have := ris_mem h hx
  simp; omega
theorem cnt_zero {m y : Int} {l : List Int} {a : Int} (h : Ris m a l) (hy : y ≤ a) : cntL y l = 0 := cntL_none h hy
/-- One more among few. -/
theorem put_few {M : List Int} {y : Int} (h : Ris 51 0 M) (h1 : 1 ≤ y) (h2 : y ≤ 50) : pbE y M = 0 ∧ Ris 51 0 (pbL y M) ∧ ∀ z, z ∈ pbL y M ↔ z = y ∨ z ∈ M := by
  have hl := ris_len h (by omega)
  have hk : isK 20000 M = true ∧ 1 ≤ y ∧ y < 20000 := ⟨isK_spec.2 ⟨by omega, h.mono (by omega)⟩, h1, by omega⟩
  by_cases hm : y ∈ M
  · obtain ⟨e1, e2⟩ := pb_there hk hm
    rw [e2]
    exact ⟨e1, h, fun z => ⟨fun hz => Or.inr hz, fun hz => by rcases hz with rfl | hz; exact hm; exact hz⟩⟩
  · obtain ⟨e1, e2⟩ := pb_new hk hm (by omega)
    rw [e2]
    exact ⟨e1, insK_ris h (by omega) (by omega) hm, fun z => insK_mem⟩
set_option maxHeartbeats 8000000 in
set_option maxRecDepth 100000 in
theorem rows_any16 {w : World} {v : Value} {L : List Int} (hl : L.length ≤ maxLen) (hL : ∀ z ∈ L, 0 ≤ z ∧ z ≤ 255) (hU : UT w) (h : UAt w v L) :
    Calls Tryd.prog 6 #[v] w fun e w' => e = .returned (.bool true) ∧ Below w.heap.size w w' := by
  have HK := Hid.mk7 (known16_any w hU)
  have HV := Hid.mk7 h
  have HBD := Hid.mk7 hL
  obtain ⟨a, cap, rfl⟩ := h.shape
  unfold maxLen at hl
  clear h hU hL
  by_cases hlong : 100 < L.length
  · have d1 : decide ((100 : Int) < (L.length : Nat)) = true := decide_eq_true (by omega)
    have d2 : decide (100 < L.length) = true := decide_eq_true (by omega)
    go_enter Tryd.func6, Tryd.ntmps6
    go_wp2_with fail
    refine HK.out.mono ?_
    rintro e w0 ⟨rfl, b0⟩
    go_wp2
    go_ret
    exact ⟨rfl, b0⟩
  have dl1 : decide ((100 : Int) < (L.length : Nat)) = false := decide_eq_false (by omega)
  have dl2 : decide (100 < L.length) = false := decide_eq_false (by omega)
  go_enter Tryd.func6, Tryd.ntmps6
  go_wp2_with fail
  refine HK.out.mono ?_
  rintro e w1 ⟨rfl, b1⟩
  have H1 := Hid.mk7 (HV.out.later b1)
  have G1 := Hid.mk7 b1
  clear b1 HV HK
  obtain ⟨zs, hz31, hzne, hzsz, hzk⟩ := zv64
  have B1 : Hid (Bls (w1.alloc (.cells zs 46)) w1.heap.size (fun k => decide ((k : Int) ∈ ([] : List Int)))) := by
    have := Bls.new (w := w1) 46 hzsz hzk
    show Bls _ _ _
    simpa using this
  have G2 : Hid (Below w1.heap.size w1 (w1.alloc (.cells zs 46))) := (Below.refl _ _).alloc (Nat.le_refl _) _
  clear hzk
  go_wp2
  generalize hgg : w1.heap.size = g at *
  generalize w1.alloc (.cells zs 46) = w2 at *
  clear hz31 hzne hzsz
  have hwg : w.heap.size ≤ g := by have := G1.out.size; omega
  go_loopw [4, 5] (fun mv iv wr => ∃ (i : Nat) (M : List Int), i ≤ L.length ∧ iv = .int .i64 (i : Nat) ∧ Hid (NAt wr mv M) ∧ Hid (Ris 51 0 M) ∧ Hid (Bls wr g (fun k => decide ((k : Int) ∈ M))) ∧ Hid (Below g w1 wr)) (fun _ iv _ => L.length - (intOf iv).toNat)
  case atStart => exact ⟨0, [], Nat.zero_le _, rfl, nat_nil _, trivial, B1, G2⟩
  case round =>
    clear B1 G2
    obtain ⟨i, M, hi, rfl, HM, HR, HA, HB⟩ := hrel
    by_cases hlt : i < L.length
    · obtain ⟨x, hr⟩ : ∃ r, L[i]? = some r := ⟨L[i], List.getElem?_eq_getElem hlt⟩
      have hx := HBD.out x (List.mem_of_getElem? hr)
      obtain ⟨g1, o1, rfl, q0⟩ := H1.out.cell hr
      have c0 := cell_later7 HB.out (by omega) q0
      have hml := ris_len HR.out (by omega)
      obtain ⟨k, hk⟩ : ∃ k : Nat, x % 50 + 1 = (k : Int) := ⟨(x % 50 + 1).toNat, by omega⟩
      have hk1 : 1 ≤ k ∧ k ≤ 50 := by omega
      have hk64 : k < 64 := by omega
      have hg1 : w1.heap.size ≤ wr.heap.size := by have := HB.out.size; omega
      clear q0 hr
      by_cases ht : x / 50 % 3 = 2
      · have t2 : (x / 50 % 3 == 2) = true := by simpa using ht
        have HT := Hid.mk7 (take_any16 (k : Int) HM.out (by omega))
        by_cases hm : (k : Int) ∈ M
        · have e1 : tkE (k : Int) M = 0 := if_pos hm
          have e2 : tkL (k : Int) M = M.erase (k : Int) := if_pos hm
          rw [e1, e2] at HT
          have HR2 := Hid.mk7 (erase_ris (y := (k : Int)) HR.out)
          have HME := Hid.mk7 (fun z => erase_mem (y := (k : Int)) (z := z) HR.out)
          have hdk : decide ((k : Int) ∈ M) = true := decide_eq_true hm
          clear e1 e2 ht
          generalize M.erase (k : Int) = M2 at *
          go_wp2_with fail
          refine HT.out.mono ?_
          rintro e w3 ⟨v3, rfl, n3, b3⟩
          have HM3 := Hid.mk7 n3
          have HA3 := Hid.mk7 (HA.out.later b3)
          have HB3 := Hid.mk7 (HB.out.trans (b3.mono (Nat.le_of_lt HA.out.lt)))
          have f0 := HA3.out.cell hk64
          have fz := HA3.out.frz k
          rw [hdk] at f0
          have HA4 : Hid (Bls (w3.setCell ⟨g, k, none⟩ (.bool false)) g (fun j => decide ((j : Int) ∈ M2))) := HA3.out.set hk64 false fun j hj => by
            by_cases ej : j = k
            · rw [if_pos ej]; exact decide_eq_false (fun h => ((HME.out _).1 h).1 (by rw [ej]))
            · rw [if_neg ej]
              exact decide_eq_decide.2 ⟨fun h => ((HME.out _).1 h).2, fun h => (HME.out _).2 ⟨by omega, h⟩⟩
          have HM4 := Hid.mk7 (HM3.out.bls HA3.out k (.bool false))
          have HB4 := Hid.mk7 (HB3.out.setCell (p := ⟨g, k, none⟩) (Nat.le_refl _) (.bool false))
          clear b3 n3 HT HM HA HB HM3 HA3 HB3 HME hm hdk c0 HR
          go_wp2_with fail
          go_roundw
          case rel => exact ⟨i + 1, M2, by omega, by go_num, HM4, HR2, HA4, HB4⟩
          case measure => simp [intOf]; omega
        · have e1 : tkE (k : Int) M = 10 := if_neg hm
          rw [e1] at HT
          have hdk : decide ((k : Int) ∈ M) = false := decide_eq_false hm
          clear e1 ht
          go_wp2_with fail
          refine HT.out.mono ?_
          rintro e w3 ⟨v3, rfl, n3, b3⟩
          have HM3 := Hid.mk7 (HM.out.later b3)
          have HA3 := Hid.mk7 (HA.out.later b3)
          have HB3 := Hid.mk7 (HB.out.trans (b3.mono (Nat.le_of_lt HA.out.lt)))
          have f0 := HA3.out.cell hk64
          have fz := HA3.out.frz k
          rw [hdk] at f0
          have HA4 : Hid (Bls (w3.setCell ⟨g, k, none⟩ (.bool false)) g (fun j => decide ((j : Int) ∈ M))) := HA3.out.set hk64 false fun j hj => by
            by_cases ej : j = k
            · rw [if_pos ej, ej]; exact decide_eq_false hm
            · rw [if_neg ej]
          have HM4 := Hid.mk7 (HM3.out.bls HA3.out k (.bool false))
          have HB4 := Hid.mk7 (HB3.out.setCell (p := ⟨g, k, none⟩) (Nat.le_refl _) (.bool false))
          clear b3 n3 HT HM HA HB HM3 HA3 HB3 hm hdk c0
          go_wp2_with fail
          go_roundw
          case rel => exact ⟨i + 1, M, by omega, by go_num, HM4, HR, HA4, HB4⟩
          case measure => simp [intOf]; omega
      · have t2 : (x / 50 % 3 == 2) = false := by simpa using ht
        obtain ⟨e1, e2, e3⟩ := put_few (y := (k : Int)) HR.out (by omega) (by omega)
        have HT := Hid.mk7 (put_any16 (k : Int) HM.out (by omega))
        rw [e1] at HT
        have HR2 := Hid.mk7 e2
        have HME := Hid.mk7 e3
        clear e1 e2 e3 ht
        generalize pbL (k : Int) M = M2 at *
        go_wp2_with fail
        refine HT.out.mono ?_
        rintro e w3 ⟨v3, rfl, n3, b3⟩
        have HM3 := Hid.mk7 n3
        have HA3 := Hid.mk7 (HA.out.later b3)
        have HB3 := Hid.mk7 (HB.out.trans (b3.mono (Nat.le_of_lt HA.out.lt)))
        have f0 := HA3.out.cell hk64
        have fz := HA3.out.frz k
        have HA4 : Hid (Bls (w3.setCell ⟨g, k, none⟩ (.bool true)) g (fun j => decide ((j : Int) ∈ M2))) := HA3.out.set hk64 true fun j hj => by
          by_cases ej : j = k
          · rw [if_pos ej]; exact decide_eq_true ((HME.out _).2 (Or.inl (by rw [ej])))
          · rw [if_neg ej]
            exact decide_eq_decide.2 ⟨fun h => by rcases (HME.out _).1 h with h | h; exact absurd h (by omega); exact h, fun h => (HME.out _).2 (Or.inr h)⟩
        have HM4 := Hid.mk7 (HM3.out.bls HA3.out k (.bool true))
        have HB4 := Hid.mk7 (HB3.out.setCell (p := ⟨g, k, none⟩) (Nat.le_refl _) (.bool true))
        clear b3 n3 HT HM HA HB HM3 HA3 HB3 HME c0 HR
        go_wp2_with fail
        go_roundw
        case rel => exact ⟨i + 1, M2, by omega, by go_num, HM4, HR2, HA4, HB4⟩
        case measure => simp [intOf]; omega
    · obtain rfl : i = L.length := by omega
      have GB : Hid (Below w.heap.size w wr) := G1.out.trans (HB.out.mono hwg)
      have hml := ris_len HR.out (by omega)
      have HC0 : Hid (cntL ((0 : Nat) : Int) M = 0) := cnt_zero HR.out (Int.le_refl _)
      obtain ⟨ma, mc, hsh⟩ := nat_shape HM.out
      subst hsh
      clear H1 G1 HB
      generalize wr = wa at *
      go_wp2
      go_loopw [11, 12] (fun nv iv wr => ∃ (q c : Nat), q ≤ 64 ∧ c ≤ M.length ∧ nv = .int .i64 (c : Nat) ∧ iv = .int .i64 (q : Nat) ∧ Hid (cntL (q : Int) M = c) ∧ wr = wa) (fun _ iv _ => 64 - (intOf iv).toNat)
      case atStart => exact ⟨0, 0, Nat.zero_le _, Nat.zero_le _, rfl, rfl, HC0, rfl⟩
      case round =>
        obtain ⟨q, c, hq, hc, rfl, rfl, HC, rfl⟩ := hrel
        by_cases hqq : q < 64
        · have HLN := Hid.mk7 (line_any16 (q : Int) HM.out (by omega))
          rw [ln_cnt] at HLN
          have f0 := HA.out.cell hqq
          by_cases hm : (q : Int) ∈ M
          · have hdk : decide ((q : Int) ∈ M) = true := decide_eq_true hm
            rw [hdk] at f0
            obtain ⟨e1, e2⟩ := cnt_mem HR.out hm
            rw [HC.out] at e1 e2
            rw [e2] at HLN
            have hcl : c < M.length := (List.getElem?_eq_some_iff.1 e1).1
            obtain ⟨gm, om, hga, c0⟩ := nat_cell HM.out e1
            subst hga
            have s1 : decide ((M.length : Int) ≤ (c : Int)) = false := decide_eq_false (by omega)
            have s2 : decide (M.length ≤ c) = false := decide_eq_false (by omega)
            have HC2 : Hid (cntL ((q + 1 : Nat) : Int) M = c + 1) := by show _ = _; rw [← e2]; rfl
            clear e1 e2 hm hdk HC
            go_wp2_with fail
            refine HLN.out.mono ?_
            rintro e w3 ⟨rfl, rfl⟩
            go_wp2
            go_roundw
            case rel => exact ⟨q + 1, c + 1, by omega, by omega, by go_num, by go_num, HC2, trivial⟩
            case measure => simp [intOf]; omega
          · have hdk : decide ((q : Int) ∈ M) = false := decide_eq_false hm
            rw [hdk] at f0
            have e2 := cnt_not hm
            rw [HC.out] at e2
            rw [e2] at HLN
            have HC2 : Hid (cntL ((q + 1 : Nat) : Int) M = c) := by show _ = _; rw [← e2]; rfl
            clear e2 hm hdk HC
            go_wp2_with fail
            refine HLN.out.mono ?_
            rintro e w3 ⟨rfl, rfl⟩
            go_wp2
            go_roundw
            case rel => exact ⟨q + 1, c, by omega, by omega, rfl, by go_num, HC2, trivial⟩
            case measure => simp [intOf]; omega
        · obtain rfl : q = 64 := by omega
          have hcl : c = M.length := by rw [← HC.out]; exact cnt_all HR.out (by omega)
          subst hcl
          have HIS := Hid.mk7 (is_any16 52 HM.out (by omega))
          have e1 : isK 52 M = true := isK_spec.2 ⟨by omega, HR.out.mono (by omega)⟩
          rw [e1] at HIS
          clear e1 HC
          go_wp2_with fail
          refine HIS.out.mono ?_
          rintro e w3 ⟨rfl, rfl⟩
          go_wp2
          go_ret
          exact ⟨rfl, GB.out⟩
end Go.Proofs.YtafhogfbjklboaaDoor
