/- Intervals in memory; mapper's add. -/
import Derived.Test.YtbkjcibfcpejfaaSubMake
import Derived.Test.YtbkjcibfcpejfaaMapMath
import Derived.Laws.CopyOwn
namespace Go.Proofs.Ytbkjcibfcpejfaa
open Go.RowKit Go.Sort
set_option linter.unusedSimpArgs false
set_option linter.unusedVariables false

theorem Try.info_iv : (Try.prog.info? 38).map (fun i => (i.zero, i.size, i.bytes)) = some (some (.agg #[.int .i64 0, .int .i64 0]), 2, 16) := by kernel_rfl
/-- A row of one's own, of these intervals. -/
def OwnV (w : World) (B : Nat) (v : Value) (rs : List Sg) : Prop := w.ownsRow B 38 2 v rs.length (cs rs)
theorem OwnV.row {w : World} {B : Nat} {v : Value} {rs : List Sg} (h : OwnV w B v rs) : SgAt w v rs := by
  rcases h.2 with ⟨h1, h2⟩ | ⟨g, cap, cur, h1, _, h3, h4, _⟩
  · obtain rfl : rs = [] := List.eq_nil_of_length_eq_zero h2
    rw [h1]; exact SgAt.nil w
  · refine ⟨some ⟨g, 0, none⟩, cap, h1, h4, (fun e => by cases e), fun i r hr => ⟨g, 0, rfl, ?_⟩⟩
    have hg := World.ownsRow.cells h (g := g) (by rw [h1]; rfl)
    obtain ⟨e1, e2⟩ := cs_get hr
    have f1 := hg _ _ e1
    have f2 := hg _ _ e2
    rw [addr_add7] at f1 f2
    rw [Nat.add_assoc]
    exact ⟨f1, f2⟩
theorem OwnV.later {w w' : World} {B : Nat} {v : Value} {rs : List Sg} (h : OwnV w B v rs) (hb : Below w.heap.size w w') : OwnV w' B v rs := by
  refine ⟨h.1, h.2.imp id ?_⟩
  rintro ⟨g, cap, cur, h1, h2, h3, h4⟩
  exact ⟨g, cap, cur, h1, h2, (hb.block g (Array.getElem?_eq_some_iff.1 h3).1).trans h3, h4⟩
theorem OwnV.nil (w : World) (B : Nat) : OwnV w B (.slice none 0 0) [] := World.ownsRow_nil _ _ _ _
theorem ownV_shape {w : World} {B : Nat} {v : Value} {rs : List Sg} (h : OwnV w B v rs) : ∃ a cap, v = .slice a rs.length cap ∧ rs.length ≤ cap ∧ (rs ≠ [] → ∃ g, a = some ⟨g, 0, none⟩) := by
  rcases h.2 with ⟨h1, h2⟩ | ⟨g, cap, cur, h1, _, _, h4, _⟩
  · exact ⟨none, 0, by rw [h1, h2], by omega, fun hne => absurd (List.eq_nil_of_length_eq_zero h2) hne⟩
  · exact ⟨_, _, h1, h4, fun _ => ⟨g, rfl⟩⟩

set_option maxHeartbeats 400000 in
set_option maxRecDepth 100000 in
theorem madd_same (B : Nat) (v : Value) (rs : List Sg) (a0 f t : Int) (w : World) (hl : rs.length ≤ 1099511627776) (hown : OwnV w B v (rs ++ [(a0, f)])) :
    Calls Try.prog 28 #[v, .agg #[.int .i64 f, .int .i64 t]] w fun e w' => e = .returned v ∧ OwnV w' B v (rs ++ [(a0, t)]) ∧ w.grownBy w' v.ownBlock := by
  have hlen : (rs ++ [(a0, f)]).length = rs.length + 1 := by simp
  obtain ⟨a, cap, rfl, hcap, hg⟩ := ownV_shape hown
  obtain ⟨g, rfl⟩ := hg (by simp)
  rw [hlen] at hcap
  have hO : (w.alloc (.cells #[.int .i64 f, .int .i64 t] 38)).ownsRow B 38 2 (.slice (some ⟨g, 0, none⟩) (rs.length + 1) cap) (rs.length + 1) (cs (rs ++ [(a0, f)])) := by
    have := World.ownsRow.alloc hown (.cells #[.int .i64 f, .int .i64 t] 38)
    rw [hlen] at this
    exact this
  rw [hlen]
  have hgl : g < w.heap.size := (hown.lt g rfl).2
  have hget : (rs ++ [(a0, f)])[rs.length]? = some (a0, f) := by simp
  have c1 : (w.alloc (.cells #[.int .i64 f, .int .i64 t] 38)).cell? ⟨g, rs.length * 2 + 1, none⟩ = some (.int .i64 f) := by
    rw [hO.cellAt _ (by omega)]; exact (cs_get hget).2
  have d0 : (w.alloc (.cells #[.int .i64 f, .int .i64 t] 38)).cell? ⟨w.heap.size, 0, none⟩ = some (.int .i64 f) := by rw [World.cell?_alloc_new]; rfl
  have d1 : (w.alloc (.cells #[.int .i64 f, .int .i64 t] 38)).cell? ⟨w.heap.size, 1, none⟩ = some (.int .i64 t) := by rw [World.cell?_alloc_new]; rfl
  have dk : decide (0 ≤ (rs.length : Int)) = true := decide_eq_true (by omega)
  have HG : Hid (w.grownBy (w.alloc (.cells #[.int .i64 f, .int .i64 t] 38)) (some g)) := World.grownBy_alloc _ _ _
  have HO := Hid.mk7 hO
  clear hown hO hlen hget hg
  go_enter Try.func28, Try.ntmps28
  go_wp2
  go_quiet (fail)
  have HG2 : Hid (w.grownBy ((w.alloc (.cells #[.int .i64 f, .int .i64 t] 38)).drewN nq) (some g)) := grown_trans HG.out (grown_drew nq _)
  have HO2 : Hid (((w.alloc (.cells #[.int .i64 f, .int .i64 t] 38)).drewN nq).ownsRow B 38 2 (.slice (some ⟨g, 0, none⟩) (rs.length + 1) cap) (rs.length + 1) (cs (rs ++ [(a0, f)]))) := HO.out
  have e0 : ((w.alloc (.cells #[.int .i64 f, .int .i64 t] 38)).drewN nq).cell? ⟨g, rs.length * 2 + 1, none⟩ = some (.int .i64 f) := c1
  have e1 : ((w.alloc (.cells #[.int .i64 f, .int .i64 t] 38)).drewN nq).cell? ⟨w.heap.size, 1, none⟩ = some (.int .i64 t) := d1
  clear c1 d0 d1 HG HO
  generalize (w.alloc (.cells #[.int .i64 f, .int .i64 t] 38)).drewN nq = W at *
  have fz := fun j => HO2.out.frozenAt j
  go_wp2
  obtain ⟨h1, h2⟩ := HO2.out.stored (rs.length * 2 + 1) (.int .i64 t)
  have e : (cs (rs ++ [(a0, f)])).set (rs.length * 2 + 1) (.int .i64 t) = cs (rs ++ [(a0, t)]) := by
    rw [cs_append, cs_append, List.set_append_right _ _ (by rw [cs_length]; omega), cs_length, cs_one, cs_one, Nat.add_sub_cancel_left]
    simp
  rw [e] at h1
  go_ret
  refine ⟨rfl, ?_, grown_trans HG2.out h2⟩
  unfold OwnV
  rw [List.length_append]
  exact h1

set_option maxHeartbeats 400000 in
set_option maxRecDepth 100000 in
theorem madd_nil (B : Nat) (v : Value) (f t : Int) (w : World) (hB : B ≤ w.heap.size) (hown : OwnV w B v []) :
    Calls Try.prog 28 #[v, .agg #[.int .i64 f, .int .i64 t]] w fun e w' => ∃ v', e = .returned v' ∧ OwnV w' B v' [(f, t)] ∧ w.grownBy w' v.ownBlock := by
  obtain ⟨i0, hi, hz0, hz1, hz2⟩ := info_parts Try.info_iv
  obtain ⟨a, cap, rfl, _, _⟩ := ownV_shape hown
  have hO : (w.alloc (.cells #[.int .i64 f, .int .i64 t] 38)).ownsRow B 38 2 (.slice a 0 cap) 0 [] := World.ownsRow.alloc hown _
  have HG : Hid (w.grownBy (w.alloc (.cells #[.int .i64 f, .int .i64 t] 38)) (Value.slice a 0 cap).ownBlock) := World.grownBy_alloc _ _ _
  have d0 : (w.alloc (.cells #[.int .i64 f, .int .i64 t] 38)).cell? ⟨w.heap.size, 0, none⟩ = some (.int .i64 f) := by rw [World.cell?_alloc_new]; rfl
  have d1 : (w.alloc (.cells #[.int .i64 f, .int .i64 t] 38)).cell? ⟨w.heap.size, 1, none⟩ = some (.int .i64 t) := by rw [World.cell?_alloc_new]; rfl
  have hsz : w.heap.size < (w.alloc (.cells #[.int .i64 f, .int .i64 t] 38)).heap.size := by simp
  have HO := Hid.mk7 hO
  clear hown hO
  go_enter Try.func28, Try.ntmps28
  go_wp2
  go_quiet (fail)
  have HG2 : Hid (w.grownBy ((w.alloc (.cells #[.int .i64 f, .int .i64 t] 38)).drewN nq) (Value.slice a 0 cap).ownBlock) := grown_trans HG.out (grown_drew nq _)
  have HO2 : Hid (((w.alloc (.cells #[.int .i64 f, .int .i64 t] 38)).drewN nq).ownsRow B 38 2 (.slice a 0 cap) 0 []) := HO.out
  have e0 : ((w.alloc (.cells #[.int .i64 f, .int .i64 t] 38)).drewN nq).cell? ⟨w.heap.size, 0, none⟩ = some (.int .i64 f) := d0
  have e1 : ((w.alloc (.cells #[.int .i64 f, .int .i64 t] 38)).drewN nq).cell? ⟨w.heap.size, 1, none⟩ = some (.int .i64 t) := d1
  have hsz2 : w.heap.size < ((w.alloc (.cells #[.int .i64 f, .int .i64 t] 38)).drewN nq).heap.size := hsz
  clear d0 d1 HG HO hsz
  generalize (w.alloc (.cells #[.int .i64 f, .int .i64 t] 38)).drewN nq = W at *
  go_wp2_with (at_builtin; refine wpList_append_own _ rfl _ _ 31 rfl B 38 i0 (.agg #[.int .i64 0, .int .i64 0]) 2 16 Try.underlying31 hi hz0 hz1 hz2 rfl (by decide) _ _ _ rfl (World.ownsRow.alloc HO2.out _) ⟨_, 0, none⟩ 1 1 [.int .i64 f, .int .i64 t] rfl rfl (two_new7 _ _ _ _) (fun u hu => by simp at hu; rcases hu with rfl | rfl <;> rfl) (by decide) (by decide) (by simp; omega) ?_)
  intro v' w3 hown' hgrow _
  go_wp2
  go_ret
  exact ⟨v', rfl, hown', grown_trans (grown_trans HG2.out (World.grownBy_alloc _ _ _)) hgrow⟩

set_option maxHeartbeats 400000 in
set_option maxRecDepth 100000 in
theorem madd_cons (B : Nat) (v : Value) (rs : List Sg) (m d f t : Int) (w : World) (hB : B ≤ w.heap.size) (hl : rs.length ≤ 1099511627776) (hdc : d ≠ f) (hown : OwnV w B v (rs ++ [(m, d)])) :
    Calls Try.prog 28 #[v, .agg #[.int .i64 f, .int .i64 t]] w fun e w' => ∃ v', e = .returned v' ∧ OwnV w' B v' (rs ++ [(m, d)] ++ [(f, t)]) ∧ w.grownBy w' v.ownBlock := by
  obtain ⟨i0, hi, hz0, hz1, hz2⟩ := info_parts Try.info_iv
  have hlen : (rs ++ [(m, d)]).length = rs.length + 1 := by simp
  obtain ⟨a, cap, rfl, hcap, hg⟩ := ownV_shape hown
  obtain ⟨g, rfl⟩ := hg (by simp)
  rw [hlen] at hcap
  have hO : (w.alloc (.cells #[.int .i64 f, .int .i64 t] 38)).ownsRow B 38 2 (.slice (some ⟨g, 0, none⟩) (rs.length + 1) cap) (rs.length + 1) (cs (rs ++ [(m, d)])) := by
    have := World.ownsRow.alloc hown (.cells #[.int .i64 f, .int .i64 t] 38)
    rw [hlen] at this
    exact this
  rw [hlen]
  have HG : Hid (w.grownBy (w.alloc (.cells #[.int .i64 f, .int .i64 t] 38)) (some g)) := World.grownBy_alloc _ _ _
  have hget : (rs ++ [(m, d)])[rs.length]? = some (m, d) := by simp
  have c1 : (w.alloc (.cells #[.int .i64 f, .int .i64 t] 38)).cell? ⟨g, rs.length * 2 + 1, none⟩ = some (.int .i64 d) := by
    rw [hO.cellAt _ (by omega)]; exact (cs_get hget).2
  have d0 : (w.alloc (.cells #[.int .i64 f, .int .i64 t] 38)).cell? ⟨w.heap.size, 0, none⟩ = some (.int .i64 f) := by rw [World.cell?_alloc_new]; rfl
  have d1 : (w.alloc (.cells #[.int .i64 f, .int .i64 t] 38)).cell? ⟨w.heap.size, 1, none⟩ = some (.int .i64 t) := by rw [World.cell?_alloc_new]; rfl
  have hsz : w.heap.size < (w.alloc (.cells #[.int .i64 f, .int .i64 t] 38)).heap.size := by simp
  have dk : decide (0 ≤ (rs.length : Int)) = true := decide_eq_true (by omega)
  have hd0 : (d == f) = false := by simpa using hdc
  have hd1 : decide (d = f) = false := by simpa using hdc
  have hgl : g < w.heap.size := (hown.lt g rfl).2
  have HO := Hid.mk7 hO
  clear hown hO hget hlen hg hdc
  go_enter Try.func28, Try.ntmps28
  go_wp2
  go_quiet (fail)
  have HG2 : Hid (w.grownBy ((w.alloc (.cells #[.int .i64 f, .int .i64 t] 38)).drewN nq) (some g)) := grown_trans HG.out (grown_drew nq _)
  have HO2 : Hid (((w.alloc (.cells #[.int .i64 f, .int .i64 t] 38)).drewN nq).ownsRow B 38 2 (.slice (some ⟨g, 0, none⟩) (rs.length + 1) cap) (rs.length + 1) (cs (rs ++ [(m, d)]))) := HO.out
  have e0 : ((w.alloc (.cells #[.int .i64 f, .int .i64 t] 38)).drewN nq).cell? ⟨w.heap.size, 0, none⟩ = some (.int .i64 f) := d0
  have e1 : ((w.alloc (.cells #[.int .i64 f, .int .i64 t] 38)).drewN nq).cell? ⟨w.heap.size, 1, none⟩ = some (.int .i64 t) := d1
  have hsz2 : w.heap.size < ((w.alloc (.cells #[.int .i64 f, .int .i64 t] 38)).drewN nq).heap.size := hsz
  clear d0 d1 HG HO hsz c1
  generalize (w.alloc (.cells #[.int .i64 f, .int .i64 t] 38)).drewN nq = W at *
  go_wp2_with (at_builtin; refine wpList_append_own _ rfl _ _ 31 rfl B 38 i0 (.agg #[.int .i64 0, .int .i64 0]) 2 16 Try.underlying31 hi hz0 hz1 hz2 rfl (by decide) _ _ _ rfl (World.ownsRow.alloc HO2.out _) ⟨_, 0, none⟩ 1 1 [.int .i64 f, .int .i64 t] rfl rfl (two_new7 _ _ _ _) (fun u hu => by simp at hu; rcases hu with rfl | rfl <;> rfl) (by unfold maxLen; omega) (by omega) (by simp; omega) ?_)
  intro v' w3 hown' hgrow _
  go_wp2
  go_ret
  refine ⟨v', rfl, ?_, grown_trans (grown_trans HG2.out (World.grownBy_alloc _ _ _)) hgrow⟩
  unfold OwnV
  rw [cs_append (rs ++ [(m, d)]), cs_one]
  simpa using hown'
/-- mapper's add. -/
theorem madd_any (B : Nat) (v : Value) (rs : List Sg) (f t : Int) (w : World) (hB : B ≤ w.heap.size) (hl : rs.length ≤ 1073741824) (hown : OwnV w B v rs) :
    Calls Try.prog 28 #[v, .agg #[.int .i64 f, .int .i64 t]] w fun e w' => ∃ v', e = .returned v' ∧ OwnV w' B v' (ad rs f t) ∧ w.grownBy w' v.ownBlock := by
  rcases List.eq_nil_or_concat rs with rfl | ⟨qs, ⟨a, b⟩, rfl⟩
  · exact madd_nil B v f t w hB hown
  · rw [List.concat_eq_append] at *
    rw [List.length_append] at hl
    by_cases h : b = f
    · subst h
      rw [ad_same]
      refine (madd_same B v qs a b t w (by omega) hown).mono ?_
      rintro e w' ⟨rfl, h1, h2⟩
      exact ⟨v, rfl, h1, h2⟩
    · rw [ad_other _ _ _ _ _ h]
      exact madd_cons B v qs a b f t w hB (by omega) h hown

/-- 'copy(dst, src)', elements of two cells: dst a row of one's own, as long as src. -/
theorem run_copy_two {P : Program} (w : World) (dT sT ty elem : TypeId) (g n dCap : Nat) (sp : Option Addr) (sCap : Nat) (cur : Array Value) (t : TypeId) (xs : List Value)
    (hu : P.underlying dT = some (.slice elem)) (hs : (P.info? elem).map (·.size) = some 2)
    (hg : w.heap[g]? = some (.cells cur t (0, 0))) (hn : xs.length = n * 2) (hnone : sp = none → n = 0)
    (hsrc : ∀ a, sp = some a → ∀ j v, xs[j]? = some v → w.cell? (a.add j) = some v) (hfit : xs.length = cur.size) (h1 : ∀ v ∈ xs, v.oneCell' = true) :
    (Builtin.copy_ #[dT, sT] ty #[.slice (some ⟨g, 0, none⟩) n dCap, .slice sp n sCap]).run P w = .ok (goInt n) (w.setRow g xs.toArray) := by
  have hst := run_storeCells_at P g 0 t xs 0 cur w hg (by omega) h1
  have e : cur.toList.take (0 + 0) ++ xs ++ cur.toList.drop (0 + 0 + xs.length) = xs := by
    rw [hfit]; simp
  rw [e] at hst
  cases hq : P.info? elem with
  | none => simp [hq] at hs
  | some i =>
    have hi : i.size = 2 := by simpa [hq] using hs
    cases sp with
    | none =>
      obtain rfl := hnone rfl
      obtain rfl : xs = [] := List.eq_nil_of_length_eq_zero (by simpa using hn)
      simp [Builtin.copy_, run_underlying hu, Builtin.lenOf, Builtin.firstCells, sizeOf, typeInfo, hq, hi, hst]
    | some a =>
      have hl := run_loadCells_list (P := P) w a xs (hsrc a rfl)
      rw [hn] at hl
      simp [Builtin.copy_, run_underlying hu, Builtin.lenOf, Builtin.firstCells, sizeOf, typeInfo, hq, hi, hl, hst]
theorem wpList_copy_two {P : Program} {w : World} {ops : Array Oper} {rest : List Oper} {o : Oper} {a : Act} {Q : Exit → Act → World → Prop} (hgd : o.guard = none) (d s : Operand) (dT sT : TypeId)
    (ho : o.op = .call { callee := .builtin .copy, args := #[d, s], argTypes := #[dT, sT] }) (elem : TypeId) (hu : P.underlying dT = some (.slice elem)) (hsz : (P.info? elem).map (·.size) = some 2)
    (g n dCap sCap : Nat) (sp : Option Addr) (hd : a.eval d = .slice (some ⟨g, 0, none⟩) n dCap) (hs : a.eval s = .slice sp n sCap)
    (cur : Array Value) (t : TypeId) (hg : w.heap[g]? = some (.cells cur t (0, 0))) (xs : List Value) (hn : xs.length = n * 2) (hnone : sp = none → n = 0)
    (hsrc : ∀ a, sp = some a → ∀ j v, xs[j]? = some v → w.cell? (a.add j) = some v) (hfit : xs.length = cur.size) (h1 : ∀ v ∈ xs, v.oneCell' = true)
    (h : wpList P ops Q rest (a.put o.dst (goInt n)) (w.setRow g xs.toArray)) : wpList P ops Q (o :: rest) a w := by
  refine wpList_plain hgd fun K hK => ?_
  have hrun := run_copy_two (P := P) w dT sT o.type elem g n dCap sp sCap cur t xs hu hsz hg hn hnone hsrc hfit h1
  unfold Oper.wp
  simp [execOp, ho, resolve, invoke, builtin, hd, hs, hrun, Result.andThen]
  exact hK _ _ h
end Go.Proofs.Ytbkjcibfcpejfaa
