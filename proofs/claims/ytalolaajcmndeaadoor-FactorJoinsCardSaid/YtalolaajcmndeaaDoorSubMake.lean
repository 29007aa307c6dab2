/- slices.Clone and Equal of runs; Segs, Same; formed, tooLong, Of, New, With. -/
import Derived.Test.YtalolaajcmndeaaDoorSubRead
namespace Go.Proofs.YtalolaajcmndeaaDoor
open Go.RowKit Go.Sort
set_option linter.unusedSimpArgs false
set_option linter.unusedVariables false

theorem own_empty7 (w : World) (B : Nat) (e : TypeId) (size : Nat) (hB : B ≤ w.heap.size) : (w.alloc (.cells #[] e)).ownsRow B e size (.slice (some ⟨w.heap.size, 0, none⟩) 0 0) 0 [] :=
  ⟨by simp, Or.inr ⟨w.heap.size, 0, #[], rfl, hB, heap_alloc_new w _, Nat.le_refl _, by decide, by simp, by simp⟩⟩
theorem cs_cells {w : World} {g off : Nat} {rs : List Sg} (h : ∀ i r, rs[i]? = some r → w.cell? ⟨g, off + i * 2, none⟩ = some (.int .i64 r.1) ∧ w.cell? ⟨g, off + i * 2 + 1, none⟩ = some (.int .i64 r.2)) :
    ∀ j u, (cs rs)[j]? = some u → w.cell? ((⟨g, off, none⟩ : Addr).add j) = some u := by
  intro j u hu
  have hj : j < rs.length * 2 := by rw [← cs_length]; exact (List.getElem?_eq_some_iff.1 hu).1
  obtain ⟨r, hr⟩ : ∃ r, rs[j / 2]? = some r := ⟨rs[j / 2]'(by omega), List.getElem?_eq_getElem (by omega)⟩
  obtain ⟨e1, e2⟩ := cs_get hr
  obtain ⟨f1, f2⟩ := h _ _ hr
  rw [addr_add7]
  rcases Nat.mod_two_eq_zero_or_one j with hm | hm
  · have : j / 2 * 2 = j := by omega
    rw [this] at e1 f1
    rw [f1, ← e1, hu]
  · have : j / 2 * 2 + 1 = j := by omega
    rw [this] at e2
    rw [Nat.add_assoc, this] at f2
    rw [f2, ← e2, hu]

set_option maxHeartbeats 800000 in
set_option maxRecDepth 100000 in
theorem clone_any7 {w : World} {v : Value} {rs : List Sg} (h : SgAt w v rs) (hl : rs.length ≤ 1073741824) :
    Calls Tryd.prog 46 #[v] w fun e w' => ∃ v', e = .returned v' ∧ Own w' w.heap.size v' rs ∧ Below w.heap.size w w' := by
  obtain ⟨i0, hi, hz0, hz1, hz2⟩ := info_parts Tryd.info_seg
  obtain ⟨a, cap, rfl, hcap, hnone, hcells⟩ := h
  cases a with
  | none =>
    obtain rfl : rs = [] := by
      cases rs with
      | nil => rfl
      | cons r rs => obtain ⟨_, _, e, _⟩ := hcells 0 r rfl; cases e
    obtain rfl := hnone rfl
    have hnn : ∀ w : World, (binOp .eql 46 (.slice none 0 0) (.slice none 0 0)).run Tryd.prog w = .ok (.bool true) w := fun _ => by kernel_rfl
    clear hcells hnone
    go_enter Tryd.func46, Tryd.ntmps46
    go_wp2
    go_ret
    exact ⟨_, rfl, Own.nil _ _, Below.refl _ _⟩
  | some ad =>
    have HC : Hid (∀ j u, (cs rs)[j]? = some u → w.cell? (ad.add j) = some u) := by
      intro j u hu
      cases hrs : rs with
      | nil => rw [hrs] at hu; simp [cs] at hu
      | cons r0 rt =>
        obtain ⟨g, off, e, _⟩ := hcells 0 r0 (by rw [hrs]; rfl)
        cases e
        refine cs_cells (fun i r hr => ?_) j u hu
        obtain ⟨g', off', e', h1, h2⟩ := hcells i r hr
        cases e'
        exact ⟨h1, h2⟩
    have hnn : ∀ w : World, (binOp .eql 46 (.slice (some ad) rs.length cap) (.slice none 0 0)).run Tryd.prog w = .ok (.bool false) w := fun _ => by kernel_rfl
    have b0 : Below w.heap.size w (w.alloc (Obj.cells #[] 79)) := (Below.refl _ _).alloc (Nat.le_refl _) _
    clear hcells hnone
    go_enter Tryd.func46, Tryd.ntmps46
    go_wp2_with (at_builtin; refine wpList_append_own _ rfl _ _ 46 rfl w.heap.size 79 i0 (.agg #[.int .i64 0, .int .i64 0]) 2 16 Tryd.underlying46 hi hz0 hz1 hz2 rfl (by decide) _ _ _ rfl (own_empty7 w w.heap.size 79 2 (Nat.le_refl _)) ad rs.length cap (cs rs) rfl (cs_length rs) ?c1 cs_oneCell ?c3 ?c4 ?c5 ?_)
    case c1 => exact fun j u hu => cell_later7 b0 (Nat.le_refl _) (HC.out j u hu)
    case c3 => unfold maxLen; omega
    case c4 => omega
    case c5 => simp
    intro v' w2 hown' hgrow _
    have hown2 : Own w2 w.heap.size v' rs := by unfold Own; simpa using hown'
    have hb3 : Below w.heap.size w w2 := b0.grown hgrow (by simp) (fun k hk => by simp [Value.ownBlock] at hk; omega)
    clear hown' hgrow HC b0
    go_wp2
    go_ret
    exact ⟨v', rfl, hown2, hb3⟩

set_option maxHeartbeats 800000 in
theorem segs_any {w : World} {p : Value} {L : List Int} (h : Sub w p L) (hl : L.length ≤ 1073741824) :
    Calls Tryd.prog 49 #[p] w fun e w' => ∃ v, e = .returned v ∧ SgAt w' v (rle L) ∧ Below w.heap.size w w' := by
  obtain ⟨b, v, rfl, hp, hrow⟩ := h
  have HC := Hid.mk7 (clone_any7 hrow (Nat.le_trans (rle_len L) hl))
  clear hrow
  go_enter Tryd.func49, Tryd.ntmps49
  go_wp2_with fail
  refine HC.out.mono ?_
  rintro e w1 ⟨v1, rfl, o1, b1⟩
  have H1 := Hid.mk7 o1.row
  clear o1
  go_wp2
  go_ret
  exact ⟨v1, rfl, H1.out, b1⟩

theorem two_eq (a b c d : Int) : ((a, b) : Sg) = (c, d) ↔ a = c ∧ b = d := by simp
set_option maxHeartbeats 800000 in
set_option maxRecDepth 100000 in
theorem equal_any7 {w : World} {u v : Value} {rs qs : List Sg} (h1 : SgAt w u rs) (h2 : SgAt w v qs) (hl : rs.length ≤ 1073741824) (hl2 : qs.length ≤ 1073741824) :
    Calls Tryd.prog 57 #[u, v] w fun e w' => e = .returned (.bool (decide (rs = qs))) ∧ Below w.heap.size w w' := by
  obtain ⟨a, cap, rfl, hcap, _, hcells⟩ := h1
  obtain ⟨a2, cap2, rfl, hcap2, _, hcells2⟩ := h2
  by_cases hlen : rs.length = qs.length
  · have HC1 := Hid.mk7 hcells
    have HC2 := Hid.mk7 hcells2
    have HLEN := Hid.mk7 hlen
    rw [← hlen] at hcap2 hl2 ⊢
    clear hcells hcells2 hlen
    go_enter Tryd.func57, Tryd.ntmps57
    go_wp2
    go_loopw [13] (fun iv wr => ∃ k : Nat, k ≤ rs.length ∧ iv = .int .i64 (k : Nat) ∧ Hid (rs.take k = qs.take k) ∧ Below w.heap.size w wr) (fun iv _ => rs.length - (intOf iv).toNat)
    case atStart => exact ⟨0, Nat.zero_le _, rfl, by show _ = _; simp, Below.refl _ _⟩
    case round =>
      obtain ⟨k, hk, rfl, HT, hb⟩ := hrel
      by_cases hlt : k < rs.length
      · obtain ⟨⟨n, c⟩, hr⟩ : ∃ r, rs[k]? = some r := ⟨rs[k], List.getElem?_eq_getElem hlt⟩
        obtain ⟨⟨m, d⟩, hq⟩ : ∃ r, qs[k]? = some r := ⟨qs[k]'(by rw [← HLEN.out]; exact hlt), List.getElem?_eq_getElem _⟩
        obtain ⟨g, off, rfl, q0, q1⟩ := HC1.out k _ hr
        obtain ⟨g2, off2, rfl, q2, q3⟩ := HC2.out k _ hq
        have c0 := cell_later7 hb (Nat.le_refl _) q0
        have c1 := cell_later7 hb (Nat.le_refl _) q1
        have c2 := cell_later7 hb (Nat.le_refl _) q2
        have c3 := cell_later7 hb (Nat.le_refl _) q3
        simp only at c0 c1 c2 c3
        by_cases he : ((n, c) : Sg) = (m, d)
        · cases he
          have HT2 : Hid (rs.take (k + 1) = qs.take (k + 1)) := by show _ = _; rw [take_snoc7 hr, take_snoc7 hq, HT.out]
          clear q0 q1 q2 q3 hr hq
          go_wp2
          go_quiet (fail)
          go_wp2
          go_roundw
          case rel => exact ⟨k + 1, by omega, by go_num, HT2, below_drewN hb nq⟩
          case measure => simp [intOf]; omega
        · have HF : Hid (decide (rs = qs) = false) := by
            show _ = _
            rw [decide_eq_false_iff_not]
            intro e
            rw [e, hq] at hr
            exact he (Option.some.inj hr).symm
          clear q0 q1 q2 q3 hr hq
          by_cases hn : n = m
          · subst hn
            have hc : (c == d) = false := by simp; intro e; exact he (by rw [e])
            have hc1 : decide (c = d) = false := by simp; intro e; exact he (by rw [e])
            clear he
            go_wp2
            go_quiet (fail)
            go_wp2
            go_ret
            exact ⟨ret_bool7 HF.out.symm, below_drewN hb nq⟩
          · have hc : (n == m) = false := by simpa using hn
            have hc1 : decide (n = m) = false := by simpa using hn
            clear he
            go_wp2
            go_quiet (fail)
            go_wp2
            go_ret
            exact ⟨ret_bool7 HF.out.symm, below_drewN hb nq⟩
      · obtain rfl : k = rs.length := by omega
        have HF : Hid (decide (rs = qs) = true) := by
          have := HT.out
          rw [List.take_length, HLEN.out, List.take_length] at this
          exact decide_eq_true this
        go_wp2
        go_ret
        exact ⟨ret_bool7 HF.out.symm, hb⟩
  · have hne : ((rs.length : Int) != (qs.length : Int)) = true := by simp; omega
    have hne2 : (rs.length != qs.length) = true := by simpa using hlen
    have HF : Hid (decide (rs = qs) = false) := by
      show _ = _
      rw [decide_eq_false_iff_not]
      intro e
      exact hlen (by rw [e])
    clear hcells hcells2 hlen
    go_enter Tryd.func57, Tryd.ntmps57
    go_wp2
    go_ret
    exact ⟨ret_bool7 HF.out.symm, Below.refl _ _⟩

theorem rle_eq_iff (L M : List Int) : rle L = rle M ↔ L = M := ⟨rle_inj, fun h => by rw [h]⟩
set_option maxHeartbeats 800000 in
set_option maxRecDepth 100000 in
theorem same_any7 {w : World} {p q : Value} {L M : List Int} (h : Sub w p L) (h2 : Sub w q M) (hl : L.length ≤ 1073741824) (hl2 : M.length ≤ 1073741824) :
    Calls Tryd.prog 29 #[p, q] w fun e w' => e = .returned (.bool (decide (L = M))) ∧ Below w.heap.size w w' := by
  obtain ⟨b, v, rfl, hp, hrow⟩ := h
  obtain ⟨b2, v2, rfl, hp2, hrow2⟩ := h2
  have HC : Hid (∀ d os, Calls Tryd.prog 57 #[v, v2] (grow (redrawn w d) os) fun e w'' => e = .returned (.bool (decide (L = M))) ∧ ∃ p : Regrown, w'' = grow (redrawn w p.d) p.os) := fun d os => by
    have := equal_any7 (hrow.later (below_regrown w d os)) (hrow2.later (below_regrown w d os)) (Nat.le_trans (rle_len L) hl) (Nat.le_trans (rle_len M) hl2)
    rw [decide_eq_decide.2 (rle_eq_iff L M)] at this
    exact Calls.regrown_of this
  have z0 := cell_regrown hp
  have z1 := cell_regrown hp2
  have hnn : ∀ w : World, (binOp .eql 27 (.pointer (some ⟨b2, 0, none⟩)) (.pointer none)).run Tryd.prog w = .ok (.bool false) w := fun _ => by kernel_rfl
  clear hrow hrow2 hp hp2
  go_enter Tryd.func29, Tryd.ntmps29
  go_wp2
  refine wp_region_quiet_below (by kernel_rfl) (by kernel_rfl) ?_
  repeat (go_big_quiet_step ((go_at_call 57; exact HC.out _ _)))
  refine wpQuiet_nil ?_
  intro _ hw'
  obtain ⟨⟨dq, osq⟩, hw''⟩ := hw'
  subst hw''
  go_wp2
  go_ret
  exact ⟨rfl, below_regrown w dq osq⟩

/-- A run that may stand at this place. -/
def okAt (rs : List Sg) (i : Nat) : Prop := ∀ r, rs[i]? = some r → 1 ≤ r.1 ∧ 0 ≤ r.2 ∧ r.2 ≤ 100 ∧ ∀ q, 0 < i → rs[i - 1]? = some q → q.2 ≠ r.2
/-- Runs as few as there can be, with counts that there can be. -/
def Fm (rs : List Sg) : Prop := Cn rs ∧ ∀ r ∈ rs, 0 ≤ r.2 ∧ r.2 ≤ 100
theorem cn_of_ok : ∀ {rs : List Sg}, (∀ (i : Nat) (r : Sg), rs[i]? = some r → 1 ≤ r.1 ∧ ∀ q, 0 < i → rs[i - 1]? = some q → q.2 ≠ r.2) → Cn rs
  | [], _ => trivial
  | r :: rs, h => by
    refine ⟨(h 0 r rfl).1, fun q hq => ?_, cn_of_ok fun i s hs => ⟨(h (i + 1) s (by simpa using hs)).1, fun q hi hq => (h (i + 1) s (by simpa using hs)).2 q (by omega) ?_⟩⟩
    · have := (h 1 q (by rw [List.head?_eq_getElem?] at hq; simpa using hq)).2 r (by omega) rfl
      exact fun e => this e.symm
    · obtain ⟨j, rfl⟩ : ∃ j, i = j + 1 := ⟨i - 1, by omega⟩
      simpa using hq
theorem ok_of_cn : ∀ {rs : List Sg}, Cn rs → ∀ (i : Nat) (r : Sg), rs[i]? = some r → 1 ≤ r.1 ∧ ∀ q, 0 < i → rs[i - 1]? = some q → q.2 ≠ r.2
  | r :: rs, h, 0, s, hs => by simp at hs; subst hs; exact ⟨h.1, fun q hi => by omega⟩
  | r :: rs, h, 1, s, hs => by
    refine ⟨cn_mem h.2.2 s (List.mem_of_getElem? (by simpa using hs)), fun q _ hq => ?_⟩
    simp at hq
    subst hq
    exact fun e => h.2.1 s (by rw [List.head?_eq_getElem?]; simpa using hs) e.symm
  | r :: rs, h, i + 2, s, hs => by
    have ih := ok_of_cn h.2.2 (i + 1) s (by simpa using hs)
    refine ⟨ih.1, fun q hi hq => ih.2 q (by omega) (by simpa using hq)⟩
theorem fm_iff (rs : List Sg) : Fm rs ↔ ∀ i, okAt rs i := by
  constructor
  · rintro ⟨h1, h2⟩ i r hr
    have := ok_of_cn h1 i r hr
    have h3 := h2 r (List.mem_of_getElem? hr)
    exact ⟨this.1, h3.1, h3.2, this.2⟩
  · intro h
    refine ⟨cn_of_ok fun i r hr => ⟨(h i r hr).1, (h i r hr).2.2.2⟩, fun r hr => ?_⟩
    obtain ⟨i, hi⟩ := List.mem_iff_getElem?.1 hr
    exact ⟨(h i r hi).2.1, (h i r hi).2.2.1⟩
theorem ok_step {rs : List Sg} {k : Nat} (h : ∀ i, i < k → okAt rs i) (hk : okAt rs k) : ∀ i, i < k + 1 → okAt rs i := by
  intro i hi
  by_cases e : i = k
  · subst e; exact hk
  · exact h i (by omega)

set_option maxHeartbeats 800000 in
set_option maxRecDepth 100000 in
theorem formed_any {w : World} {v : Value} {rs : List Sg} (h : SgAt w v rs) (hl : rs.length ≤ 17592186044416) (P : Bool) (hP : P = true ↔ Fm rs) :
    Calls Tryd.prog 44 #[v] w fun e w' => e = .returned (.bool P) ∧ Below w.heap.size w w' := by
  obtain ⟨a, cap, rfl, hcap, _, hcells⟩ := h
  have HC := Hid.mk7 hcells
  have HFM : Hid (P = true ↔ ∀ i, okAt rs i) := hP.trans (fm_iff rs)
  clear hcells hP
  go_enter Tryd.func44, Tryd.ntmps44
  go_wp2
  go_loopw [7] (fun iv wr => ∃ k : Nat, k ≤ rs.length ∧ iv = .int .i64 (k : Nat) ∧ Hid (∀ i, i < k → okAt rs i) ∧ Below w.heap.size w wr) (fun iv _ => rs.length - (intOf iv).toNat)
  case atStart => exact ⟨0, Nat.zero_le _, rfl, fun i hi => by omega, Below.refl _ _⟩
  case round =>
    obtain ⟨k, hk, rfl, HOK, hb⟩ := hrel
    by_cases hlt : k < rs.length
    · obtain ⟨⟨n, c⟩, hr⟩ : ∃ r, rs[k]? = some r := ⟨rs[k], List.getElem?_eq_getElem hlt⟩
      obtain ⟨g, off, rfl, q0, q1⟩ := HC.out k _ hr
      have c0 := cell_later7 hb (Nat.le_refl _) q0
      have c1 := cell_later7 hb (Nat.le_refl _) q1
      simp only at c0 c1
      have HBAD : Hid (¬ okAt rs k → P = false) := fun hn => by cases hP2 : P with | false => rfl | true => exact absurd ((HFM.out.1 hP2) k) hn
      have HR := Hid.mk7 hr
      have hb2 := below_new7 hb (.cells #[.int .i64 n, .int .i64 c] 79)
      clear q0 q1 hr
      by_cases h1 : n < 1
      · go_wp2
        go_ret
        exact ⟨ret_bool7 (HBAD.out (fun h => by have := (h _ HR.out).1; simp only at this; omega)).symm, hb2⟩
      · have d1 : decide (n < 1) = false := by simpa using h1
        by_cases h2 : c < 0 ∨ 100 < c
        · have HI : Hid (∀ W, Calls Tryd.prog 64 #[.int .i64 c] W fun e w' => e = .returned (.bool false) ∧ w' = W) := fun W => isCount_no c W h2
          have HB2 : Hid (¬ okAt rs k) := fun h => by have := h _ HR.out; simp only at this; omega
          clear h2
          go_wp2_with (go_at_call 64; refine (HI.out _).mono ?_; rintro e w' ⟨rfl, rfl⟩)
          go_ret
          exact ⟨ret_bool7 (HBAD.out HB2.out).symm, hb2⟩
        · have hc0 : 0 ≤ c := by omega
          have hc1 : c ≤ 100 := by omega
          have HI : Hid (∀ W, Calls Tryd.prog 64 #[.int .i64 c] W fun e w' => e = .returned (.bool true) ∧ w' = W) := fun W => isCount_yes c W hc0 hc1
          clear h2
          by_cases hk0 : k = 0
          · have HGOOD : Hid (okAt rs k) := fun r hr => by
              rw [HR.out] at hr
              cases hr
              exact ⟨by simp only; omega, hc0, hc1, fun q hq => by omega⟩
            have dk : decide (0 < (k : Int)) = false := by simp; omega
            have dk2 : decide (0 < k) = false := by simp; omega
            clear hk0
            go_wp2_with (go_at_call 64; refine (HI.out _).mono ?_; rintro e w' ⟨rfl, rfl⟩)
            go_quiet (fail)
            go_wp2
            go_roundw
            case rel => exact ⟨k + 1, by omega, by go_num, ok_step HOK.out HGOOD.out, below_drewN hb2 nq⟩
            case measure => simp [intOf]; omega
          · obtain ⟨⟨m, d⟩, hq⟩ : ∃ r, rs[k - 1]? = some r := ⟨rs[k - 1], List.getElem?_eq_getElem (by omega)⟩
            obtain ⟨g', off', e', q2, q3⟩ := HC.out (k - 1) _ hq
            cases e'
            obtain ⟨j, rfl⟩ : ∃ j, k = j + 1 := ⟨k - 1, by omega⟩
            rw [Nat.add_sub_cancel] at hq q2 q3
            have c2 := cell_later7 hb (Nat.le_refl _) q3
            simp only at c2
            have hgl : g < wr.heap.size := World.block_lt_of_cell? wr ⟨g, _, none⟩ c2
            have HQ := Hid.mk7 hq
            have hjl : j < rs.length := by omega
            clear q2 q3 hq hk0
            by_cases hdc : d = c
            · subst hdc
              have dk : decide (0 < (j : Int) + 1) = true := decide_eq_true (by omega)
              have HB2 : Hid (¬ okAt rs (j + 1)) := fun h => (h _ HR.out).2.2.2 (m, d) (by omega) (by rw [Nat.add_sub_cancel]; exact HQ.out) rfl
              go_wp2_with (go_at_call 64; refine (HI.out _).mono ?_; rintro e w' ⟨rfl, rfl⟩)
              go_quiet (fail)
              go_wp2
              go_ret
              exact ⟨ret_bool7 (HBAD.out HB2.out).symm, below_drewN hb2 nq⟩
            · have HGOOD : Hid (okAt rs (j + 1)) := fun r hr => by
                rw [HR.out] at hr
                cases hr
                refine ⟨by simp only; omega, hc0, hc1, fun q _ hq => ?_⟩
                rw [Nat.add_sub_cancel, HQ.out] at hq
                cases hq
                exact hdc
              have e1 : (d == c) = false := by simpa using hdc
              have e2 : decide (d = c) = false := by simpa using hdc
              have dk : decide (0 < (j : Int) + 1) = true := decide_eq_true (by omega)
              clear hdc
              go_wp2_with (go_at_call 64; refine (HI.out _).mono ?_; rintro e w' ⟨rfl, rfl⟩)
              go_quiet (fail)
              go_wp2
              go_roundw
              case rel => exact ⟨j + 1 + 1, by omega, by go_num, ok_step HOK.out HGOOD.out, below_drewN hb2 nq⟩
              case measure => simp [intOf]; omega
    · obtain rfl : k = rs.length := by omega
      have HF : Hid (P = true) := HFM.out.2 fun i => by
        by_cases hi : i < rs.length
        · exact HOK.out i hi
        · intro r hr
          rw [List.getElem?_eq_none (by omega)] at hr
          exact absurd hr (by simp)
      go_wp2
      go_ret
      exact ⟨ret_bool7 HF.out.symm, hb⟩

set_option maxHeartbeats 800000 in
set_option maxRecDepth 100000 in
theorem tooLong_any {w : World} {v : Value} {rs : List Sg} (h : SgAt w v rs) (hl : rs.length ≤ 17592186044416) (hp : ∀ r ∈ rs, 1 ≤ r.1) :
    Calls Tryd.prog 45 #[v] w fun e w' => e = .returned (.bool (decide (20000 < (xp rs).length))) ∧ Below w.heap.size w w' := by
  obtain ⟨a, cap, rfl, hcap, _, hcells⟩ := h
  have HC := Hid.mk7 hcells
  have HP := Hid.mk7 hp
  clear hcells hp
  go_enter Tryd.func45, Tryd.ntmps45
  go_wp2
  go_loopw [3, 8] (fun nv iv wr => ∃ k P : Nat, k ≤ rs.length ∧ iv = .int .i64 (k : Nat) ∧ Hid (P = (xp (rs.take k)).length) ∧ P ≤ 20000 ∧ nv = .int .i64 (20000 - (P : Int)) ∧ Below w.heap.size w wr) (fun _ iv _ => rs.length - (intOf iv).toNat)
  case atStart => exact ⟨0, 0, Nat.zero_le _, rfl, by show _ = _; simp [xp], by omega, by simp, Below.refl _ _⟩
  case round =>
    obtain ⟨k, P, hk, rfl, HPX, hP, rfl, hb⟩ := hrel
    by_cases hlt : k < rs.length
    · obtain ⟨⟨n, c⟩, hr⟩ : ∃ r, rs[k]? = some r := ⟨rs[k], List.getElem?_eq_getElem hlt⟩
      obtain ⟨g, off, rfl, q0, q1⟩ := HC.out k _ hr
      have c0 := cell_later7 hb (Nat.le_refl _) q0
      have c1 := cell_later7 hb (Nat.le_refl _) q1
      simp only at c0 c1
      have hn := HP.out _ (List.mem_of_getElem? hr)
      simp only at hn
      have hx := xp_take_le2 hr
      simp only at hx
      rw [← HPX.out] at hx
      have HX := Hid.mk7 hx
      have HXL : Hid ((xp (rs.take (k + 1))).length = P + n.toNat) := by show _ = _; rw [xp_take hr, HPX.out]; simp
      have hb2 := below_new7 hb (.cells #[.int .i64 n, .int .i64 c] 79)
      clear q0 q1 hr hx
      by_cases hgt : 20000 - (P : Int) < n
      · have HF : Hid (decide (20000 < (xp rs).length) = true) := decide_eq_true (by have := HX.out; omega)
        go_wp2
        go_ret
        exact ⟨ret_bool7 HF.out.symm, hb2⟩
      · go_wp2
        go_roundw
        case rel => exact ⟨k + 1, P + n.toNat, by omega, by go_num, HXL.out.symm, by omega, by simp; omega, hb2⟩
        case measure => simp [intOf]; omega
    · obtain rfl : k = rs.length := by omega
      have HF : Hid (decide (20000 < (xp rs).length) = false) := decide_eq_false (by have := HPX.out; rw [List.take_length] at this; omega)
      go_wp2
      go_ret
      exact ⟨ret_bool7 HF.out.symm, hb⟩
end Go.Proofs.YtalolaajcmndeaaDoor
