/- few, the reference's Segs, Told, equal. -/
import Derived.Test.YtgdolopggocleaaSubLawA
import Derived.Laws.AppendOwnNone
namespace Go.Proofs.Ytgdolopggocleaa
open Go.RowKit Go.Sort
set_option linter.unusedSimpArgs false
set_option linter.unusedVariables false

theorem Try.info_int7 : (Try.prog.info? 3).map (fun i => (i.zero, i.size, i.bytes)) = some (some (.int .i64 0), 1, 8) := by kernel_rfl
/-- A row of one's own, of these numbers. -/
def OwnI (w : World) (B : Nat) (v : Value) (L : List Int) : Prop := w.ownsRow B 3 1 v L.length (L.map (Value.int .i64))
theorem OwnI.nil (w : World) (B : Nat) : OwnI w B (.slice none 0 0) [] := World.ownsRow_nil _ _ _ _
theorem OwnI.num {w : World} {B : Nat} {v : Value} {L : List Int} (h : OwnI w B v L) : NumAt .i64 w v L := by
  rcases h.2 with ⟨h1, h2⟩ | ⟨g, cap, cur, h1, _, h3, h4, _⟩
  · obtain rfl : L = [] := List.eq_nil_of_length_eq_zero h2
    exact ⟨none, 0, h1, Nat.le_refl _, fun i z hz => by simp at hz⟩
  · refine ⟨some ⟨g, 0, none⟩, cap, h1, h4, fun i z hz => ⟨g, 0, rfl, ?_⟩⟩
    have hg := World.ownsRow.cells h (g := g) (by rw [h1]; rfl) i (.int .i64 z) (by simp [hz])
    rw [addr_add7] at hg
    exact hg
theorem OwnI.later {w w' : World} {B : Nat} {v : Value} {L : List Int} (h : OwnI w B v L) (hb : Below w.heap.size w w') : OwnI w' B v L := by
  refine ⟨h.1, h.2.imp id ?_⟩
  rintro ⟨g, cap, cur, h1, h2, h3, h4⟩
  exact ⟨g, cap, cur, h1, h2, (hb.block g (Array.getElem?_eq_some_iff.1 h3).1).trans h3, h4⟩

/-- Few runs, of few places. -/
def Few (rs : List Sg) : Prop := (∀ r ∈ rs, r.1 ≤ 300) ∧ (xp rs).length ≤ 600 ∧ rs.length ≤ 250
set_option maxHeartbeats 1000000 in
set_option maxRecDepth 100000 in
theorem few_any {w : World} {v : Value} {rs : List Sg} (h : SgAt w v rs) (hl : rs.length ≤ 8796093022208) :
    Calls Try.prog 9 #[v] w fun e w' => (e = .returned (.bool true) ∧ Few rs ∨ e = .returned (.bool false)) ∧ w' = w := by
  obtain ⟨a, cap, rfl, hcap, _, hcells⟩ := h
  have HC := Hid.mk7 hcells
  clear hcells
  go_enter Try.func9, Try.ntmps9
  go_wp2
  go_loopw [3, 4] (fun nv iv wr => ∃ k P : Nat, k ≤ rs.length ∧ iv = .int .i64 (k : Nat) ∧ nv = .int .i64 (P : Nat) ∧ P ≤ 300 * k ∧ Hid (P = (xp (rs.take k)).length) ∧ Hid (∀ r ∈ rs.take k, r.1 ≤ 300) ∧ wr = w) (fun _ iv _ => rs.length - (intOf iv).toNat)
  case atStart => exact ⟨0, 0, Nat.zero_le _, rfl, rfl, by omega, rfl, fun r hr => by simp at hr, rfl⟩
  case round =>
    obtain ⟨k, P, hk, rfl, rfl, hP, HPX, HR, rfl⟩ := hrel
    by_cases hlt : k < rs.length
    · obtain ⟨⟨n, c⟩, hr⟩ : ∃ r, rs[k]? = some r := ⟨rs[k], List.getElem?_eq_getElem hlt⟩
      obtain ⟨g, off, rfl, c0, c1⟩ := HC.out k _ hr
      simp only at c0 c1
      have HXL : Hid (P + n.toNat = (xp (rs.take (k + 1))).length) := by show _ = _; rw [xp_take hr, HPX.out]; simp
      have HR2 : Hid (n ≤ 300 → ∀ r ∈ rs.take (k + 1), r.1 ≤ 300) := fun h r hm => by
        rw [take_snoc7 hr] at hm
        rcases List.mem_append.1 hm with hm | hm
        · exact HR.out r hm
        · simp at hm; subst hm; exact h
      clear hr
      by_cases h3 : 300 < n
      · go_wp2
        go_ret
        exact ⟨Or.inr rfl, rfl⟩
      · by_cases h0 : 0 < n
        · obtain ⟨N, rfl⟩ : ∃ N : Nat, n = (N : Int) := ⟨n.toNat, by omega⟩
          rw [Int.toNat_natCast] at HXL
          go_wp2
          go_roundw
          case rel => exact ⟨k + 1, P + N, by omega, by go_num, by go_num, by omega, HXL, HR2.out (by omega), trivial⟩
          case measure => simp [intOf]; omega
        · have hz : n.toNat = 0 := by omega
          rw [hz, Nat.add_zero] at HXL
          clear hz
          go_wp2
          go_roundw
          case rel => exact ⟨k + 1, P, by omega, by go_num, by go_num, by omega, HXL, HR2.out (by omega), trivial⟩
          case measure => simp [intOf]; omega
    · obtain rfl : k = rs.length := by omega
      rw [List.take_length] at HPX HR
      by_cases h6 : P ≤ 600
      · by_cases h2 : rs.length ≤ 250
        · have HF : Hid (Few rs) := ⟨HR.out, by rw [← HPX.out]; exact h6, h2⟩
          have d2 : decide (rs.length ≤ 250) = true := decide_eq_true h2
          have d3 : decide ((rs.length : Int) ≤ 250) = true := decide_eq_true (by omega)
          go_wp2
          go_ret
          exact ⟨Or.inl ⟨rfl, HF.out⟩, rfl⟩
        · have d2 : decide (rs.length ≤ 250) = false := decide_eq_false h2
          have d3 : decide ((rs.length : Int) ≤ 250) = false := decide_eq_false (by omega)
          go_wp2
          go_ret
          exact ⟨Or.inr rfl, rfl⟩
      · have d2 : decide (P ≤ 600) = false := decide_eq_false h6
        have d3 : decide ((P : Int) ≤ 600) = false := decide_eq_false (by omega)
        go_wp2
        go_ret
        exact ⟨Or.inr rfl, rfl⟩

set_option maxHeartbeats 1000000 in
set_option maxRecDepth 100000 in
theorem equal_nums {w : World} {u v : Value} {A B : List Int} (h1 : NumAt .i64 w u A) (h2 : NumAt .i64 w v B) (hl : A.length = B.length) (hs : A.length ≤ 1073741824) :
    Calls Try.prog 16 #[u, v] w fun e w' => e = .returned (.bool (decide (A = B))) ∧ Below w.heap.size w w' := by
  obtain ⟨a, cap, rfl, hcap, hcells⟩ := h1
  obtain ⟨a2, cap2, rfl, hcap2, hcells2⟩ := h2
  have HC1 := Hid.mk7 hcells
  have HC2 := Hid.mk7 hcells2
  have HLEN := Hid.mk7 hl
  rw [← hl] at hcap2 ⊢
  clear hcells hcells2 hl
  go_enter Try.func16, Try.ntmps16
  go_wp2
  go_loopw [5] (fun iv wr => ∃ k : Nat, k ≤ A.length ∧ iv = .int .i64 (k : Nat) ∧ Hid (A.take k = B.take k) ∧ Below w.heap.size w wr) (fun iv _ => A.length - (intOf iv).toNat)
  case atStart => exact ⟨0, Nat.zero_le _, rfl, by show _ = _; simp, Below.refl _ _⟩
  case round =>
    obtain ⟨k, hk, rfl, HT, hb⟩ := hrel
    by_cases hlt : k < A.length
    · obtain ⟨n, hr⟩ : ∃ r, A[k]? = some r := ⟨A[k], List.getElem?_eq_getElem hlt⟩
      obtain ⟨m, hq⟩ : ∃ r, B[k]? = some r := ⟨B[k]'(by rw [← HLEN.out]; exact hlt), List.getElem?_eq_getElem _⟩
      obtain ⟨g, off, rfl, q0⟩ := HC1.out k _ hr
      obtain ⟨g2, off2, rfl, q2⟩ := HC2.out k _ hq
      have c0 := cell_later7 hb (Nat.le_refl _) q0
      have c2 := cell_later7 hb (Nat.le_refl _) q2
      by_cases he : n = m
      · subst he
        have HT2 : Hid (A.take (k + 1) = B.take (k + 1)) := by show _ = _; rw [take_snoc7 hr, take_snoc7 hq, HT.out]
        clear q0 q2 hr hq
        go_wp2
        go_quiet (fail)
        go_wp2
        go_roundw
        case rel => exact ⟨k + 1, by omega, by go_num, HT2, below_drewN hb nq⟩
        case measure => simp [intOf]; omega
      · have HF : Hid (decide (A = B) = false) := by
          show _ = _
          rw [decide_eq_false_iff_not]
          intro e
          rw [e, hq] at hr
          exact he (Option.some.inj hr).symm
        have hc : (n != m) = true := by simpa using he
        clear q0 q2 hr hq he
        go_wp2
        go_quiet (fail)
        go_wp2
        go_ret
        exact ⟨ret_bool7 HF.out.symm, below_drewN hb nq⟩
    · obtain rfl : k = A.length := by omega
      have HF : Hid (decide (A = B) = true) := by
        have := HT.out
        rw [List.take_length, HLEN.out, List.take_length] at this
        exact decide_eq_true this
      go_wp2
      go_ret
      exact ⟨ret_bool7 HF.out.symm, hb⟩

theorem rle_one_same {A : List Int} {rs : List Sg} {m c : Int} (h : rle A = rs ++ [(m, c)]) : rle (A ++ [c]) = rs ++ [(m + 1, c)] := add_same (n := 1) h (by omega)
theorem rle_one_other {A : List Int} {c : Int} (h : ∀ x, (rle A).getLast? = some x → c ≠ x.2) : rle (A ++ [c]) = rle A ++ [(1, c)] := add_other (n := 1) h (by omega)
theorem rle_last_le {A : List Int} {rs : List Sg} {m c : Int} (h : rle A = rs ++ [(m, c)]) : 1 ≤ m ∧ m ≤ A.length ∧ rs.length + 1 ≤ A.length := by
  have hm : (m, c) ∈ rle A := by rw [h]; simp
  have hm1 := rle_pos hm
  have e := congrArg List.length (congrArg xp h)
  rw [xp_rle, xp_append, xp_one, List.length_append, List.length_replicate] at e
  have hl := rle_len A
  rw [h, List.length_append] at hl
  simp only [List.length_singleton] at e hl hm1
  exact ⟨hm1, by omega, hl⟩
set_option maxHeartbeats 2000000 in
set_option maxRecDepth 100000 in
/-- The reference's Segs. -/
theorem refsegs_any {w : World} {v : Value} {L : List Int} (h : NumAt .i64 w v L) (hl : L.length ≤ 1073741824) :
    Calls Try.prog 27 #[v] w fun e w' => ∃ v', e = .returned v' ∧ Own w' w.heap.size v' (rle L) ∧ Below w.heap.size w w' := by
  obtain ⟨i0, hi, hz0, hz1, hz2⟩ := info_parts Try.info_seg
  obtain ⟨a, cap, rfl, hcap, hcells⟩ := h
  have HC := Hid.mk7 hcells
  clear hcells
  go_enter Try.func27, Try.ntmps27
  go_wp2
  go_loopw [3, 4] (fun ov iv wr => ∃ k : Nat, k ≤ L.length ∧ iv = .int .i64 (k : Nat) ∧ Hid (Own wr w.heap.size ov (rle (L.take k))) ∧ Below w.heap.size w wr) (fun _ iv _ => L.length - (intOf iv).toNat)
  case atStart => exact ⟨0, Nat.zero_le _, rfl, Own.nil _ _, Below.refl _ _⟩
  case round =>
    obtain ⟨k, hk, rfl, HO, hb⟩ := hrel
    by_cases hlt : k < L.length
    · obtain ⟨z, hz⟩ : ∃ r, L[k]? = some r := ⟨L[k], List.getElem?_eq_getElem hlt⟩
      obtain ⟨g, off, rfl, q0⟩ := HC.out k _ hz
      have c0 := cell_later7 hb (Nat.le_refl _) q0
      have HT : Hid (L.take (k + 1) = L.take k ++ [z]) := take_snoc7 hz
      have hgl : g < w.heap.size := World.block_lt_of_cell? w ⟨g, _, none⟩ q0
      have hsz := hb.size
      have hTk : (L.take k).length = k := by simp; omega
      clear q0 hz
      rcases List.eq_nil_or_concat (rle (L.take k)) with hr | ⟨rs, ⟨m, d⟩, hr⟩
      · have HN : Hid (rle (L.take (k + 1)) = [(1, z)]) := by show _ = _; rw [HT.out, rle_one_other (by rw [hr]; simp), hr]; rfl
        rw [hr] at HO
        obtain ⟨a1, cap1, rfl, _, _⟩ := own_shape HO.out
        have HO1 : Hid (wr.ownsRow w.heap.size 43 2 (.slice a1 0 cap1) 0 []) := HO.out
        have c0' : (wr.drewN 0).cell? ⟨g, off + k, none⟩ = some (.int .i64 z) := c0
        clear hr hTk c0'
        go_wp2
        go_quiet (fail)
        have HO2 : Hid ((wr.drewN nq).ownsRow w.heap.size 43 2 (.slice a1 0 cap1) 0 []) := HO1.out
        have c1 : (wr.drewN nq).cell? ⟨g, off + k, none⟩ = some (.int .i64 z) := c0
        have hb2 : Below w.heap.size w (wr.drewN nq) := below_drewN hb nq
        have hsz2 := hb2.size
        clear HO1 HO c0 hb hsz
        generalize wr.drewN nq = W at *
        go_wp2_with (at_builtin; refine wpList_append_own _ rfl _ _ 22 rfl w.heap.size 43 i0 (.agg #[.int .i64 0, .int .i64 0]) 2 16 Try.underlying22 hi hz0 hz1 hz2 rfl (by decide) _ _ _ rfl (World.ownsRow.alloc HO2.out _) ⟨_, 0, none⟩ 1 1 [.int .i64 1, .int .i64 z] rfl rfl (two_new7 _ _ _ _) (fun u hu => by simp at hu; rcases hu with rfl | rfl <;> rfl) (by decide) (by decide) (by simp; omega) ?_)
        intro v' w3 hown' hgrow _
        have hb3 : Below w.heap.size w w3 := (hb2.alloc hb2.size _).grown hgrow (by simp; omega) (fun j hj => (HO2.out.lt _ hj).1)
        have HO3 : Hid (Own w3 w.heap.size v' (rle (L.take (k + 1)))) := by show Own _ _ _ _; rw [HN.out]; exact hown'
        clear hown' hgrow HO2 hb2 c1
        go_wp2
        go_roundw
        case rel => exact ⟨k + 1, by omega, by go_num, HO3, hb3⟩
        case measure => simp [intOf]; omega
      · rw [List.concat_eq_append] at hr
        obtain ⟨hm1, hm2, hrl⟩ := rle_last_le hr
        rw [hTk] at hm2 hrl
        rw [hr] at HO
        have hlen : (rs ++ [(m, d)]).length = rs.length + 1 := by simp
        obtain ⟨a1, cap1, rfl, hcap1, hg1⟩ := own_shape HO.out
        obtain ⟨g1, rfl⟩ := hg1 (by simp)
        rw [hlen] at hcap1
        have HO1 : Hid (wr.ownsRow w.heap.size 43 2 (.slice (some ⟨g1, 0, none⟩) (rs.length + 1) cap1) (rs.length + 1) (cs (rs ++ [(m, d)]))) := by
          have := HO.out
          unfold Own at this
          rw [hlen] at this
          exact this
        rw [hlen]
        have hget : (rs ++ [(m, d)])[rs.length]? = some (m, d) := by simp
        have o0 : wr.cell? ⟨g1, rs.length * 2, none⟩ = some (.int .i64 m) := by rw [HO1.out.cellAt _ (by omega)]; exact (cs_get hget).1
        have o1 : wr.cell? ⟨g1, rs.length * 2 + 1, none⟩ = some (.int .i64 d) := by rw [HO1.out.cellAt _ (by omega)]; exact (cs_get hget).2
        have hg1l : g1 < wr.heap.size := (HO1.out.lt g1 rfl).2
        have dk : decide (0 < (rs.length : Int) + 1) = true := decide_eq_true (by omega)
        have HLS : Hid (∀ x, (rle (L.take k)).getLast? = some x → x = (m, d)) := fun x hx => by rw [hr] at hx; simpa using hx.symm
        have HR := Hid.mk7 hr
        clear hlen hget hg1 HO hTk hr
        by_cases hd : d = z
        · subst hd
          have HN : Hid (rle (L.take (k + 1)) = rs ++ [(m + 1, d)]) := by show _ = _; rw [HT.out, rle_one_same HR.out]
          go_wp2
          go_quiet (fail)
          have HO2 : Hid ((wr.drewN nq).ownsRow w.heap.size 43 2 (.slice (some ⟨g1, 0, none⟩) (rs.length + 1) cap1) (rs.length + 1) (cs (rs ++ [(m, d)]))) := HO1.out
          have e0 : (wr.drewN nq).cell? ⟨g1, rs.length * 2, none⟩ = some (.int .i64 m) := o0
          have hb2 : Below w.heap.size w (wr.drewN nq) := below_drewN hb nq
          clear HO1 o0 o1 c0 hb hsz
          generalize wr.drewN nq = W at *
          have fz := fun j => HO2.out.frozenAt j
          go_wp2
          obtain ⟨h1, h2⟩ := HO2.out.stored (rs.length * 2) (.int .i64 (m + 1))
          have e : (cs (rs ++ [(m, d)])).set (rs.length * 2) (.int .i64 (m + 1)) = cs (rs ++ [(m + 1, d)]) := by
            rw [cs_append, cs_append, List.set_append_right _ _ (by rw [cs_length]; omega), cs_length, cs_one, cs_one]
            simp
          rw [e] at h1
          have hb3 := hb2.grown h2 hb2.size (fun j hj => (HO2.out.lt _ hj).1)
          have HO3 : Hid (Own (W.setCell ⟨g1, rs.length * 2, none⟩ (.int .i64 (m + 1))) w.heap.size (.slice (some ⟨g1, 0, none⟩) (rs.length + 1) cap1) (rle (L.take (k + 1)))) := by
            show Own _ _ _ _
            rw [HN.out]
            unfold Own
            rw [List.length_append]
            exact h1
          clear h1 h2 e HO2 fz e0 hb2
          go_roundw
          case rel => exact ⟨k + 1, by omega, by go_num, HO3, hb3⟩
          case measure => simp [intOf]; omega
        · have HN : Hid (rle (L.take (k + 1)) = rs ++ [(m, d)] ++ [(1, z)]) := by
            show _ = _
            rw [HT.out, rle_one_other (fun x hx => by rw [HLS.out x hx]; exact fun e => hd e.symm), HR.out]
          have e1 : (d == z) = false := by simpa using hd
          have e2 : decide (d = z) = false := by simpa using hd
          clear hd
          go_wp2
          go_quiet (fail)
          have HO2 : Hid ((wr.drewN nq).ownsRow w.heap.size 43 2 (.slice (some ⟨g1, 0, none⟩) (rs.length + 1) cap1) (rs.length + 1) (cs (rs ++ [(m, d)]))) := HO1.out
          have c1 : (wr.drewN nq).cell? ⟨g, off + k, none⟩ = some (.int .i64 z) := c0
          have hb2 : Below w.heap.size w (wr.drewN nq) := below_drewN hb nq
          have hsz2 := hb2.size
          clear HO1 o0 o1 c0 hb hsz
          generalize wr.drewN nq = W at *
          go_wp2_with (at_builtin; refine wpList_append_own _ rfl _ _ 22 rfl w.heap.size 43 i0 (.agg #[.int .i64 0, .int .i64 0]) 2 16 Try.underlying22 hi hz0 hz1 hz2 rfl (by decide) _ _ _ rfl (World.ownsRow.alloc HO2.out _) ⟨_, 0, none⟩ 1 1 [.int .i64 1, .int .i64 z] rfl rfl (two_new7 _ _ _ _) (fun u hu => by simp at hu; rcases hu with rfl | rfl <;> rfl) (by unfold maxLen; omega) (by omega) (by simp; omega) ?_)
          intro v' w3 hown' hgrow _
          have hb3 : Below w.heap.size w w3 := (hb2.alloc hb2.size _).grown hgrow (by simp; omega) (fun j hj => (HO2.out.lt _ hj).1)
          have HO3 : Hid (Own w3 w.heap.size v' (rle (L.take (k + 1)))) := by
            show Own _ _ _ _
            rw [HN.out]
            unfold Own
            rw [cs_append (rs ++ [(m, d)]), cs_one]
            simpa using hown'
          clear hown' hgrow HO2 hb2 c1
          go_wp2
          go_roundw
          case rel => exact ⟨k + 1, by omega, by go_num, HO3, hb3⟩
          case measure => simp [intOf]; omega
    · obtain rfl : k = L.length := by omega
      rw [List.take_length] at HO
      go_wp2
      go_ret
      exact ⟨u3, rfl, HO.out, hb⟩

set_option maxHeartbeats 1000000 in
theorem told_any {w : World} {v : Value} {L : List Int} (h : NumAt .i64 w v L) (hl : L.length ≤ 1073741824) :
    Calls Try.prog 12 #[v] w fun e w' => (200 < (rle L).length ∧ e = .returned (.tuple #[.slice none 0 0, .int .i64 70]) ∨ (rle L).length ≤ 200 ∧ e = .returned (.tuple #[v, .int .i64 0])) ∧ Below w.heap.size w w' := by
  have HS := Hid.mk7 (refsegs_any h hl)
  have hrl := Nat.le_trans (rle_len L) hl
  clear h
  go_enter Try.func12, Try.ntmps12
  go_wp2_with fail
  refine HS.out.mono ?_
  rintro e w1 ⟨v1, rfl, o1, b1⟩
  obtain ⟨a1, cap1, rfl, _⟩ := own_shape o1
  clear HS o1
  generalize hm' : (rle L).length = m at *
  have HM := Hid.mk7 hm'
  clear hm'
  by_cases hm : 200 < m
  · go_wp2
    go_ret2
    exact ⟨Or.inl ⟨by rw [HM.out]; exact hm, rfl⟩, b1⟩
  · go_wp2
    go_ret2
    exact ⟨Or.inr ⟨by rw [HM.out]; omega, rfl⟩, b1⟩
end Go.Proofs.Ytgdolopggocleaa
