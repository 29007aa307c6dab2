/- The reference's Segs. -/
import Derived.Test.YtalolaajcmndeaaDoorSubWithO
import Derived.Laws.AppendOwnNone
namespace Go.Proofs.YtalolaajcmndeaaDoor
open Go.RowKit Go.Sort
set_option linter.unusedSimpArgs false
set_option linter.unusedVariables false

theorem Tryd.info_int7 : (Tryd.prog.info? 3).map (fun i => (i.zero, i.size, i.bytes)) = some (some (.int .i64 0), 1, 8) := by kernel_rfl
/-- A row of one's own, of these numbers. -/
def OwnI (w : World) (B : Nat) (v : Value) (L : List Int) : Prop := w.ownsRow B 3 1 v L.length (L.map (Value.int .i64))
theorem OwnI.nil (w : World) (B : Nat) : OwnI w B (.slice none 0 0) [] := World.ownsRow_nil _ _ _ _
theorem OwnI.num {w : World} {B : Nat} {v : Value} {L : List Int} (h : OwnI w B v L) : NumAt .i64 w v L := by
  rcases h.2 with ⟨h1, h2⟩ | ⟨g, cap, cur, h1, _, h3, h4, _⟩
  · obtain rfl : L = [] := List.eq_nil_of_length_eq_zero h2
    exact ⟨none, 0, h1, Nat.le_refl _, fun i z hz => by simp at hz⟩
  · refine ⟨some ⟨g, 0, none⟩, cap, h1, h4, fun i z hz => ⟨g, 0, rfl, ?_⟩⟩
    have hg := World.ownsRow.cells h (g := g) (by rw [h1]; rfl) i (.int .i64 z) (by simp [hz])
    rw [addr_add7] at hg
    exact hg
theorem OwnI.later {w w' : World} {B : Nat} {v : Value} {L : List Int} (h : OwnI w B v L) (hb : Below w.heap.size w w') : OwnI w' B v L := by
  refine ⟨h.1, h.2.imp id ?_⟩
  rintro ⟨g, cap, cur, h1, h2, h3, h4⟩
  exact ⟨g, cap, cur, h1, h2, (hb.block g (Array.getElem?_eq_some_iff.1 h3).1).trans h3, h4⟩

theorem rle_one_same {A : List Int} {rs : List Sg} {m c : Int} (h : rle A = rs ++ [(m, c)]) : rle (A ++ [c]) = rs ++ [(m + 1, c)] := add_same (n := 1) h (by omega)
theorem rle_one_other {A : List Int} {c : Int} (h : ∀ x, (rle A).getLast? = some x → c ≠ x.2) : rle (A ++ [c]) = rle A ++ [(1, c)] := add_other (n := 1) h (by omega)
theorem rle_last_le {A : List Int} {rs : List Sg} {m c : Int} (h : rle A = rs ++ [(m, c)]) : 1 ≤ m ∧ m ≤ A.length ∧ rs.length + 1 ≤ A.length := by
  have hm : (m, c) ∈ rle A := by rw [h]; simp
  have hm1 := rle_pos hm
  have e := congrArg List.length (congrArg xp h)
  rw [xp_rle, xp_append, xp_one, List.length_append, List.length_replicate] at e
  have hl := rle_len A
  rw [h, List.length_append] at hl
  simp only [List.length_singleton] at e hl hm1
  exact ⟨hm1, by omega, hl⟩
set_option maxHeartbeats 2000000 in
set_option maxRecDepth 100000 in
/-- The reference's Segs. -/
theorem refsegs_any {w : World} {v : Value} {L : List Int} (h : NumAt .i64 w v L) (hl : L.length ≤ 1073741824) :
    Calls Tryd.prog 20 #[v] w fun e w' => ∃ v', e = .returned v' ∧ Own w' w.heap.size v' (rle L) ∧ Below w.heap.size w w' := by
  obtain ⟨i0, hi, hz0, hz1, hz2⟩ := info_parts Tryd.info_seg
  obtain ⟨a, cap, rfl, hcap, hcells⟩ := h
  have HC := Hid.mk7 hcells
  clear hcells
  go_enter Tryd.func20, Tryd.ntmps20
  go_wp2
  go_loopw [3, 4] (fun ov iv wr => ∃ k : Nat, k ≤ L.length ∧ iv = .int .i64 (k : Nat) ∧ Hid (Own wr w.heap.size ov (rle (L.take k))) ∧ Below w.heap.size w wr) (fun _ iv _ => L.length - (intOf iv).toNat)
  case atStart => exact ⟨0, Nat.zero_le _, rfl, Own.nil _ _, Below.refl _ _⟩
  case round =>
    obtain ⟨k, hk, rfl, HO, hb⟩ := hrel
    by_cases hlt : k < L.length
    · obtain ⟨z, hz⟩ : ∃ r, L[k]? = some r := ⟨L[k], List.getElem?_eq_getElem hlt⟩
      obtain ⟨g, off, rfl, q0⟩ := HC.out k _ hz
      have c0 := cell_later7 hb (Nat.le_refl _) q0
      have HT : Hid (L.take (k + 1) = L.take k ++ [z]) := take_snoc7 hz
      have hgl : g < w.heap.size := World.block_lt_of_cell? w ⟨g, _, none⟩ q0
      have hsz := hb.size
      have hTk : (L.take k).length = k := by simp; omega
      clear q0 hz
      rcases List.eq_nil_or_concat (rle (L.take k)) with hr | ⟨rs, ⟨m, d⟩, hr⟩
      · have HN : Hid (rle (L.take (k + 1)) = [(1, z)]) := by show _ = _; rw [HT.out, rle_one_other (by rw [hr]; simp), hr]; rfl
        rw [hr] at HO
        obtain ⟨a1, cap1, rfl, _, _⟩ := own_shape HO.out
        have HO1 : Hid (wr.ownsRow w.heap.size 79 2 (.slice a1 0 cap1) 0 []) := HO.out
        have c0' : (wr.drewN 0).cell? ⟨g, off + k, none⟩ = some (.int .i64 z) := c0
        clear hr hTk c0'
        go_wp2
        go_quiet (fail)
        have HO2 : Hid ((wr.drewN nq).ownsRow w.heap.size 79 2 (.slice a1 0 cap1) 0 []) := HO1.out
        have c1 : (wr.drewN nq).cell? ⟨g, off + k, none⟩ = some (.int .i64 z) := c0
        have hb2 : Below w.heap.size w (wr.drewN nq) := below_drewN hb nq
        have hsz2 := hb2.size
        clear HO1 HO c0 hb hsz
        generalize wr.drewN nq = W at *
        go_wp2_with (at_builtin; refine wpList_append_own _ rfl _ _ 46 rfl w.heap.size 79 i0 (.agg #[.int .i64 0, .int .i64 0]) 2 16 Tryd.underlying46 hi hz0 hz1 hz2 rfl (by decide) _ _ _ rfl (World.ownsRow.alloc HO2.out _) ⟨_, 0, none⟩ 1 1 [.int .i64 1, .int .i64 z] rfl rfl (two_new7 _ _ _ _) (fun u hu => by simp at hu; rcases hu with rfl | rfl <;> rfl) (by decide) (by decide) (by simp; omega) ?_)
        intro v' w3 hown' hgrow _
        have hb3 : Below w.heap.size w w3 := (hb2.alloc hb2.size _).grown hgrow (by simp; omega) (fun j hj => (HO2.out.lt _ hj).1)
        have HO3 : Hid (Own w3 w.heap.size v' (rle (L.take (k + 1)))) := by show Own _ _ _ _; rw [HN.out]; exact hown'
        clear hown' hgrow HO2 hb2 c1
        go_wp2
        go_roundw
        case rel => exact ⟨k + 1, by omega, by go_num, HO3, hb3⟩
        case measure => simp [intOf]; omega
      · rw [List.concat_eq_append] at hr
        obtain ⟨hm1, hm2, hrl⟩ := rle_last_le hr
        rw [hTk] at hm2 hrl
        rw [hr] at HO
        have hlen : (rs ++ [(m, d)]).length = rs.length + 1 := by simp
        obtain ⟨a1, cap1, rfl, hcap1, hg1⟩ := own_shape HO.out
        obtain ⟨g1, rfl⟩ := hg1 (by simp)
        rw [hlen] at hcap1
        have HO1 : Hid (wr.ownsRow w.heap.size 79 2 (.slice (some ⟨g1, 0, none⟩) (rs.length + 1) cap1) (rs.length + 1) (cs (rs ++ [(m, d)]))) := by
          have := HO.out
          unfold Own at this
          rw [hlen] at this
          exact this
        rw [hlen]
        have hget : (rs ++ [(m, d)])[rs.length]? = some (m, d) := by simp
        have o0 : wr.cell? ⟨g1, rs.length * 2, none⟩ = some (.int .i64 m) := by rw [HO1.out.cellAt _ (by omega)]; exact (cs_get hget).1
        have o1 : wr.cell? ⟨g1, rs.length * 2 + 1, none⟩ = some (.int .i64 d) := by rw [HO1.out.cellAt _ (by omega)]; exact (cs_get hget).2
        have hg1l : g1 < wr.heap.size := (HO1.out.lt g1 rfl).2
        have dk : decide (0 < (rs.length : Int) + 1) = true := decide_eq_true (by omega)
        have HLS : Hid (∀ x, (rle (L.take k)).getLast? = some x → x = (m, d)) := fun x hx => by rw [hr] at hx; simpa using hx.symm
        have HR := Hid.mk7 hr
        clear hlen hget hg1 HO hTk hr
        by_cases hd : d = z
        · subst hd
          have HN : Hid (rle (L.take (k + 1)) = rs ++ [(m + 1, d)]) := by show _ = _; rw [HT.out, rle_one_same HR.out]
          go_wp2
          go_quiet (fail)
          have HO2 : Hid ((wr.drewN nq).ownsRow w.heap.size 79 2 (.slice (some ⟨g1, 0, none⟩) (rs.length + 1) cap1) (rs.length + 1) (cs (rs ++ [(m, d)]))) := HO1.out
          have e0 : (wr.drewN nq).cell? ⟨g1, rs.length * 2, none⟩ = some (.int .i64 m) := o0
          have hb2 : Below w.heap.size w (wr.drewN nq) := below_drewN hb nq
          clear HO1 o0 o1 c0 hb hsz
          generalize wr.drewN nq = W at *
          have fz := fun j => HO2.out.frozenAt j
          go_wp2
          obtain ⟨h1, h2⟩ := HO2.out.stored (rs.length * 2) (.int .i64 (m + 1))
          have e : (cs (rs ++ [(m, d)])).set (rs.length * 2) (.int .i64 (m + 1)) = cs (rs ++ [(m + 1, d)]) := by
            rw [cs_append, cs_append, List.set_append_right _ _ (by rw [cs_length]; omega), cs_length, cs_one, cs_one]
            simp
          rw [e] at h1
          have hb3 := hb2.grown h2 hb2.size (fun j hj => (HO2.out.lt _ hj).1)
          have HO3 : Hid (Own (W.setCell ⟨g1, rs.length * 2, none⟩ (.int .i64 (m + 1))) w.heap.size (.slice (some ⟨g1, 0, none⟩) (rs.length + 1) cap1) (rle (L.take (k + 1)))) := by
            show Own _ _ _ _
            rw [HN.out]
            unfold Own
            rw [List.length_append]
            exact h1
          clear h1 h2 e HO2 fz e0 hb2
          go_roundw
          case rel => exact ⟨k + 1, by omega, by go_num, HO3, hb3⟩
          case measure => simp [intOf]; omega
        · have HN : Hid (rle (L.take (k + 1)) = rs ++ [(m, d)] ++ [(1, z)]) := by
            show _ = _
            rw [HT.out, rle_one_other (fun x hx => by rw [HLS.out x hx]; exact fun e => hd e.symm), HR.out]
          have e1 : (d == z) = false := by simpa using hd
          have e2 : decide (d = z) = false := by simpa using hd
          clear hd
          go_wp2
          go_quiet (fail)
          have HO2 : Hid ((wr.drewN nq).ownsRow w.heap.size 79 2 (.slice (some ⟨g1, 0, none⟩) (rs.length + 1) cap1) (rs.length + 1) (cs (rs ++ [(m, d)]))) := HO1.out
          have c1 : (wr.drewN nq).cell? ⟨g, off + k, none⟩ = some (.int .i64 z) := c0
          have hb2 : Below w.heap.size w (wr.drewN nq) := below_drewN hb nq
          have hsz2 := hb2.size
          clear HO1 o0 o1 c0 hb hsz
          generalize wr.drewN nq = W at *
          go_wp2_with (at_builtin; refine wpList_append_own _ rfl _ _ 46 rfl w.heap.size 79 i0 (.agg #[.int .i64 0, .int .i64 0]) 2 16 Tryd.underlying46 hi hz0 hz1 hz2 rfl (by decide) _ _ _ rfl (World.ownsRow.alloc HO2.out _) ⟨_, 0, none⟩ 1 1 [.int .i64 1, .int .i64 z] rfl rfl (two_new7 _ _ _ _) (fun u hu => by simp at hu; rcases hu with rfl | rfl <;> rfl) (by unfold maxLen; omega) (by omega) (by simp; omega) ?_)
          intro v' w3 hown' hgrow _
          have hb3 : Below w.heap.size w w3 := (hb2.alloc hb2.size _).grown hgrow (by simp; omega) (fun j hj => (HO2.out.lt _ hj).1)
          have HO3 : Hid (Own w3 w.heap.size v' (rle (L.take (k + 1)))) := by
            show Own _ _ _ _
            rw [HN.out]
            unfold Own
            rw [cs_append (rs ++ [(m, d)]), cs_one]
            simpa using hown'
          clear hown' hgrow HO2 hb2 c1
          go_wp2
          go_roundw
          case rel => exact ⟨k + 1, by omega, by go_num, HO3, hb3⟩
          case measure => simp [intOf]; omega
    · obtain rfl : k = L.length := by omega
      rw [List.take_length] at HO
      go_wp2
      go_ret
      exact ⟨u3, rfl, HO.out, hb⟩
end Go.Proofs.YtalolaajcmndeaaDoor
