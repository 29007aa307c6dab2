/- isCount, add, addPart. -/
import Derived.Test.YtalolaajcmndeaaDoorSubMem
namespace Go.Proofs.YtalolaajcmndeaaDoor
open Go.RowKit Go.Sort
set_option linter.unusedSimpArgs false
set_option linter.unusedVariables false

theorem ret_bool7 {a b : Bool} (h : a = b) : Ending.returned (.bool a) = .returned (.bool b) := by rw [h]
theorem ret_int7 {k : IntKind} {a b : Int} (h : a = b) : Ending.returned (.int k a) = .returned (.int k b) := by rw [h]
set_option maxHeartbeats 400000 in
theorem isCount_yes (c : Int) (w : World) (h0 : 0 ≤ c) (h1 : c ≤ 100) : Calls Tryd.prog 64 #[.int .i64 c] w fun e w' => e = .returned (.bool true) ∧ w' = w := by
  go_enter Tryd.func64, Tryd.ntmps64
  go_wp2
  go_ret
  exact ⟨rfl, rfl⟩
set_option maxHeartbeats 400000 in
theorem isCount_no (c : Int) (w : World) (h : c < 0 ∨ 100 < c) : Calls Tryd.prog 64 #[.int .i64 c] w fun e w' => e = .returned (.bool false) ∧ w' = w := by
  by_cases h0 : 0 ≤ c
  · have h1 : 100 < c := by omega
    have h2 : decide (c ≤ 100) = false := by simp; omega
    clear h
    go_enter Tryd.func64, Tryd.ntmps64
    go_wp2
    go_ret
    exact ⟨rfl, rfl⟩
  · have h2 : decide (0 ≤ c) = false := by simp; omega
    clear h
    go_enter Tryd.func64, Tryd.ntmps64
    go_wp2
    go_ret
    exact ⟨rfl, rfl⟩

set_option maxHeartbeats 400000 in
set_option maxRecDepth 100000 in
theorem add_zero (v : Value) (c : Int) (w : World) : Calls Tryd.prog 59 #[v, .agg #[.int .i64 0, .int .i64 c]] w fun e w' => e = .returned v ∧ w.grownBy w' none := by
  go_enter Tryd.func59, Tryd.ntmps59
  go_wp2
  go_ret
  exact ⟨rfl, World.grownBy_alloc _ _ _⟩

set_option maxHeartbeats 400000 in
set_option maxRecDepth 100000 in
theorem add_same_calls (B : Nat) (v : Value) (rs : List Sg) (m n c : Int) (w : World) (hm : 0 ≤ m) (hm2 : m ≤ 1099511627776) (hn : 1 ≤ n) (hn2 : n ≤ 1099511627776) (hl : rs.length ≤ 1099511627776) (hown : Own w B v (rs ++ [(m, c)])) :
    Calls Tryd.prog 59 #[v, .agg #[.int .i64 n, .int .i64 c]] w fun e w' => e = .returned v ∧ Own w' B v (rs ++ [(m + n, c)]) ∧ w.grownBy w' v.ownBlock := by
  have hlen : (rs ++ [(m, c)]).length = rs.length + 1 := by simp
  obtain ⟨g, cap, rfl⟩ : ∃ g cap, v = .slice (some ⟨g, 0, none⟩) (rs.length + 1) cap := by
    rcases hown.2 with ⟨_, h2⟩ | ⟨g, cap, cur, h1, _⟩
    · rw [hlen] at h2; omega
    · exact ⟨g, cap, by rw [h1, hlen]⟩
  have hcap : rs.length + 1 ≤ cap := by
    rcases hown.2 with ⟨h1, h2⟩ | ⟨g', cap', cur, h1, _, _, h4, _⟩
    · rw [hlen] at h2; omega
    · rw [hlen] at h1 h4; cases h1; exact h4
  have hO : (w.alloc (.cells #[.int .i64 n, .int .i64 c] 79)).ownsRow B 79 2 (.slice (some ⟨g, 0, none⟩) (rs.length + 1) cap) (rs.length + 1) (cs (rs ++ [(m, c)])) := by
    have := World.ownsRow.alloc hown (.cells #[.int .i64 n, .int .i64 c] 79)
    rw [hlen] at this
    exact this
  have hgl : g < w.heap.size := (hown.lt g rfl).2
  have hget : (rs ++ [(m, c)])[rs.length]? = some (m, c) := by simp
  have c0 : (w.alloc (.cells #[.int .i64 n, .int .i64 c] 79)).cell? ⟨g, rs.length * 2, none⟩ = some (.int .i64 m) := by
    rw [hO.cellAt _ (by omega)]; exact (cs_get hget).1
  have c1 : (w.alloc (.cells #[.int .i64 n, .int .i64 c] 79)).cell? ⟨g, rs.length * 2 + 1, none⟩ = some (.int .i64 c) := by
    rw [hO.cellAt _ (by omega)]; exact (cs_get hget).2
  have d0 : (w.alloc (.cells #[.int .i64 n, .int .i64 c] 79)).cell? ⟨w.heap.size, 0, none⟩ = some (.int .i64 n) := by rw [World.cell?_alloc_new]; rfl
  have d1 : (w.alloc (.cells #[.int .i64 n, .int .i64 c] 79)).cell? ⟨w.heap.size, 1, none⟩ = some (.int .i64 c) := by rw [World.cell?_alloc_new]; rfl
  have fz := fun j => hO.frozenAt j
  have hn0 : (n == 0) = false := by simp; omega
  have HG : Hid (w.grownBy (w.alloc (.cells #[.int .i64 n, .int .i64 c] 79)) (some g)) := World.grownBy_alloc _ _ _
  have HO := Hid.mk7 hO
  clear hown hO hlen hget
  go_enter Tryd.func59, Tryd.ntmps59
  go_wp2
  go_quiet (fail)
  generalize w.alloc (.cells #[.int .i64 n, .int .i64 c] 79) = W at *
  go_wp2
  have HG2 : Hid (w.grownBy (W.drewN nq) (some g)) := grown_trans HG.out (grown_drew nq _)
  have HO2 : Hid ((W.drewN nq).ownsRow B 79 2 (.slice (some ⟨g, 0, none⟩) (rs.length + 1) cap) (rs.length + 1) (cs (rs ++ [(m, c)]))) := HO.out
  have e0 : (W.drewN nq).cell? ⟨g, rs.length * 2, none⟩ = some (.int .i64 m) := c0
  have e1 : (W.drewN nq).cell? ⟨w.heap.size, 0, none⟩ = some (.int .i64 n) := d0
  clear c0 c1 d0 d1 fz HG HO
  generalize W.drewN nq = W2 at *
  have z0 := cell_regrown e0
  have z1 := cell_regrown e1
  refine wp_region_below_last (by kernel_rfl) (by kernel_rfl) (by kernel_rfl) ?_
  simp only [mute, idle, lastOf]
  repeat (go_big_quiet_step (fail))
  refine wpQuiet_nil ?_
  intro _ hw'
  obtain ⟨⟨dq, osq⟩, hw''⟩ := hw'
  subst hw''
  have bq := below_regrown W2 dq osq
  have HO3 : Hid ((grow (redrawn W2 dq) osq).ownsRow B 79 2 (.slice (some ⟨g, 0, none⟩) (rs.length + 1) cap) (rs.length + 1) (cs (rs ++ [(m, c)]))) := by
    have hO : Own W2 B (.slice (some ⟨g, 0, none⟩) (rs.length + 1) cap) (rs ++ [(m, c)]) := by unfold Own; rw [List.length_append]; exact HO2.out
    have := hO.later bq
    unfold Own at this
    rw [List.length_append] at this
    exact this
  have HG3 : Hid (w.grownBy (grow (redrawn W2 dq) osq) (some g)) := grown_trans HG2.out (grown_below bq _)
  have f0 := z0 dq osq
  clear z0 z1 e0 e1 HO2 HG2 bq
  generalize grow (redrawn W2 dq) osq = W3 at *
  have fz := fun j => HO3.out.frozenAt j
  go_wp2
  obtain ⟨h1, h2⟩ := HO3.out.stored (rs.length * 2) (.int .i64 (m + n))
  have e : (cs (rs ++ [(m, c)])).set (rs.length * 2) (.int .i64 (m + n)) = cs (rs ++ [(m + n, c)]) := by
    rw [cs_append, cs_append, List.set_append_right _ _ (by rw [cs_length]; omega), cs_length, cs_one, cs_one]
    simp
  rw [e] at h1
  go_ret
  refine ⟨rfl, ?_, grown_trans HG3.out h2⟩
  unfold Own
  rw [List.length_append]
  exact h1
theorem own_shape {w : World} {B : Nat} {v : Value} {rs : List Sg} (h : Own w B v rs) : ∃ a cap, v = .slice a rs.length cap ∧ rs.length ≤ cap ∧ (rs ≠ [] → ∃ g, a = some ⟨g, 0, none⟩) := by
  rcases h.2 with ⟨h1, h2⟩ | ⟨g, cap, cur, h1, _, _, h4, _⟩
  · exact ⟨none, 0, by rw [h1, h2], by omega, fun hne => absurd (List.eq_nil_of_length_eq_zero h2) hne⟩
  · exact ⟨_, _, h1, h4, fun _ => ⟨g, rfl⟩⟩
theorem two_new7 (w : World) (x y : Value) (e : TypeId) : ∀ (j : Nat) (u : Value), ([x, y] : List Value)[j]? = some u → (w.alloc (.cells #[x, y] e)).cell? ((⟨w.heap.size, 0, none⟩ : Addr).add j) = some u := by
  intro j u h
  rw [addr_add7, World.cell?_alloc_new]
  match j, h with
  | 0, h => simpa using h
  | 1, h => simpa using h

set_option maxHeartbeats 400000 in
set_option maxRecDepth 100000 in
theorem add_push_nil (B : Nat) (v : Value) (n c : Int) (w : World) (hB : B ≤ w.heap.size) (hn : 1 ≤ n) (hown : Own w B v []) :
    Calls Tryd.prog 59 #[v, .agg #[.int .i64 n, .int .i64 c]] w fun e w' => ∃ v', e = .returned v' ∧ Own w' B v' [(n, c)] ∧ w.grownBy w' v.ownBlock := by
  obtain ⟨i0, hi, hz0, hz1, hz2⟩ := info_parts Tryd.info_seg
  obtain ⟨a, cap, rfl, _, _⟩ := own_shape hown
  have hO : (w.alloc (.cells #[.int .i64 n, .int .i64 c] 79)).ownsRow B 79 2 (.slice a 0 cap) 0 [] := World.ownsRow.alloc hown _
  have HG : Hid (w.grownBy (w.alloc (.cells #[.int .i64 n, .int .i64 c] 79)) (Value.slice a 0 cap).ownBlock) := World.grownBy_alloc _ _ _
  have d0 : (w.alloc (.cells #[.int .i64 n, .int .i64 c] 79)).cell? ⟨w.heap.size, 0, none⟩ = some (.int .i64 n) := by rw [World.cell?_alloc_new]; rfl
  have d1 : (w.alloc (.cells #[.int .i64 n, .int .i64 c] 79)).cell? ⟨w.heap.size, 1, none⟩ = some (.int .i64 c) := by rw [World.cell?_alloc_new]; rfl
  have hsz : w.heap.size < (w.alloc (.cells #[.int .i64 n, .int .i64 c] 79)).heap.size := by simp
  have hn0 : (n == 0) = false := by simp; omega
  have HO := Hid.mk7 hO
  clear hown hO
  go_enter Tryd.func59, Tryd.ntmps59
  go_wp2
  go_quiet (fail)
  have HG2 : Hid (w.grownBy ((w.alloc (.cells #[.int .i64 n, .int .i64 c] 79)).drewN nq) (Value.slice a 0 cap).ownBlock) := grown_trans HG.out (grown_drew nq _)
  have HO2 : Hid (((w.alloc (.cells #[.int .i64 n, .int .i64 c] 79)).drewN nq).ownsRow B 79 2 (.slice a 0 cap) 0 []) := HO.out
  have e0 : ((w.alloc (.cells #[.int .i64 n, .int .i64 c] 79)).drewN nq).cell? ⟨w.heap.size, 0, none⟩ = some (.int .i64 n) := d0
  have e1 : ((w.alloc (.cells #[.int .i64 n, .int .i64 c] 79)).drewN nq).cell? ⟨w.heap.size, 1, none⟩ = some (.int .i64 c) := d1
  have hsz2 : w.heap.size < ((w.alloc (.cells #[.int .i64 n, .int .i64 c] 79)).drewN nq).heap.size := hsz
  clear d0 d1 HG HO hsz
  generalize (w.alloc (.cells #[.int .i64 n, .int .i64 c] 79)).drewN nq = W at *
  go_wp2_with (at_builtin; refine wpList_append_own _ rfl _ _ 46 rfl B 79 i0 (.agg #[.int .i64 0, .int .i64 0]) 2 16 Tryd.underlying46 hi hz0 hz1 hz2 rfl (by decide) _ _ _ rfl (World.ownsRow.alloc HO2.out _) ⟨_, 0, none⟩ 1 1 [.int .i64 n, .int .i64 c] rfl rfl (two_new7 _ _ _ _) (fun u hu => by simp at hu; rcases hu with rfl | rfl <;> rfl) (by decide) (by decide) (by simp; omega) ?_)
  intro v' w3 hown' hgrow _
  go_wp2
  go_ret
  exact ⟨v', rfl, hown', grown_trans (grown_trans HG2.out (World.grownBy_alloc _ _ _)) hgrow⟩

set_option maxHeartbeats 400000 in
set_option maxRecDepth 100000 in
theorem add_push_cons (B : Nat) (v : Value) (rs : List Sg) (m d n c : Int) (w : World) (hB : B ≤ w.heap.size) (hl : rs.length ≤ 1099511627776) (hn : 1 ≤ n) (hdc : d ≠ c) (hown : Own w B v (rs ++ [(m, d)])) :
    Calls Tryd.prog 59 #[v, .agg #[.int .i64 n, .int .i64 c]] w fun e w' => ∃ v', e = .returned v' ∧ Own w' B v' (rs ++ [(m, d)] ++ [(n, c)]) ∧ w.grownBy w' v.ownBlock := by
  obtain ⟨i0, hi, hz0, hz1, hz2⟩ := info_parts Tryd.info_seg
  have hlen : (rs ++ [(m, d)]).length = rs.length + 1 := by simp
  obtain ⟨a, cap, rfl, hcap, hg⟩ := own_shape hown
  obtain ⟨g, rfl⟩ := hg (by simp)
  rw [hlen] at hcap
  have hO : (w.alloc (.cells #[.int .i64 n, .int .i64 c] 79)).ownsRow B 79 2 (.slice (some ⟨g, 0, none⟩) (rs.length + 1) cap) (rs.length + 1) (cs (rs ++ [(m, d)])) := by
    have := World.ownsRow.alloc hown (.cells #[.int .i64 n, .int .i64 c] 79)
    rw [hlen] at this
    exact this
  rw [hlen]
  have HG : Hid (w.grownBy (w.alloc (.cells #[.int .i64 n, .int .i64 c] 79)) (some g)) := World.grownBy_alloc _ _ _
  have hget : (rs ++ [(m, d)])[rs.length]? = some (m, d) := by simp
  have c1 : (w.alloc (.cells #[.int .i64 n, .int .i64 c] 79)).cell? ⟨g, rs.length * 2 + 1, none⟩ = some (.int .i64 d) := by
    rw [hO.cellAt _ (by omega)]; exact (cs_get hget).2
  have d0 : (w.alloc (.cells #[.int .i64 n, .int .i64 c] 79)).cell? ⟨w.heap.size, 0, none⟩ = some (.int .i64 n) := by rw [World.cell?_alloc_new]; rfl
  have d1 : (w.alloc (.cells #[.int .i64 n, .int .i64 c] 79)).cell? ⟨w.heap.size, 1, none⟩ = some (.int .i64 c) := by rw [World.cell?_alloc_new]; rfl
  have hsz : w.heap.size < (w.alloc (.cells #[.int .i64 n, .int .i64 c] 79)).heap.size := by simp
  have hn0 : (n == 0) = false := by simp; omega
  have hd0 : (d == c) = false := by simpa using hdc
  have hd1 : decide (d = c) = false := by simpa using hdc
  have hgl : g < w.heap.size := (hown.lt g rfl).2
  have HO := Hid.mk7 hO
  clear hown hO hget hlen hg hdc
  go_enter Tryd.func59, Tryd.ntmps59
  go_wp2
  go_quiet (fail)
  have HG2 : Hid (w.grownBy ((w.alloc (.cells #[.int .i64 n, .int .i64 c] 79)).drewN nq) (some g)) := grown_trans HG.out (grown_drew nq _)
  have HO2 : Hid (((w.alloc (.cells #[.int .i64 n, .int .i64 c] 79)).drewN nq).ownsRow B 79 2 (.slice (some ⟨g, 0, none⟩) (rs.length + 1) cap) (rs.length + 1) (cs (rs ++ [(m, d)]))) := HO.out
  have e0 : ((w.alloc (.cells #[.int .i64 n, .int .i64 c] 79)).drewN nq).cell? ⟨w.heap.size, 0, none⟩ = some (.int .i64 n) := d0
  have e1 : ((w.alloc (.cells #[.int .i64 n, .int .i64 c] 79)).drewN nq).cell? ⟨w.heap.size, 1, none⟩ = some (.int .i64 c) := d1
  have hsz2 : w.heap.size < ((w.alloc (.cells #[.int .i64 n, .int .i64 c] 79)).drewN nq).heap.size := hsz
  clear d0 d1 HG HO hsz c1
  generalize (w.alloc (.cells #[.int .i64 n, .int .i64 c] 79)).drewN nq = W at *
  go_wp2_with (at_builtin; refine wpList_append_own _ rfl _ _ 46 rfl B 79 i0 (.agg #[.int .i64 0, .int .i64 0]) 2 16 Tryd.underlying46 hi hz0 hz1 hz2 rfl (by decide) _ _ _ rfl (World.ownsRow.alloc HO2.out _) ⟨_, 0, none⟩ 1 1 [.int .i64 n, .int .i64 c] rfl rfl (two_new7 _ _ _ _) (fun u hu => by simp at hu; rcases hu with rfl | rfl <;> rfl) (by unfold maxLen; omega) (by omega) (by simp; omega) ?_)
  intro v' w3 hown' hgrow _
  go_wp2
  go_ret
  refine ⟨v', rfl, ?_, grown_trans (grown_trans HG2.out (World.grownBy_alloc _ _ _)) hgrow⟩
  unfold Own
  rw [cs_append (rs ++ [(m, d)]), cs_one]
  simpa using hown'

/-- add: on a row of counts. -/
theorem add_any (B : Nat) (v : Value) (A : List Int) (n c : Int) (w : World) (hB : B ≤ w.heap.size) (hl : A.length ≤ 1073741824) (hn : 0 ≤ n) (hn2 : n ≤ 1073741824) (hown : Own w B v (rle A)) :
    Calls Tryd.prog 59 #[v, .agg #[.int .i64 n, .int .i64 c]] w fun e w' => ∃ v', e = .returned v' ∧ Own w' B v' (rle (A ++ List.replicate n.toNat c)) ∧ w.grownBy w' v.ownBlock := by
  by_cases hz : n = 0
  · subst hz
    refine (add_zero v c w).mono ?_
    rintro e w' ⟨rfl, hg⟩
    have hg2 : w.grownBy w' v.ownBlock := ⟨hg.os, hg.tape, hg.output, hg.size, fun k hk _ => hg.block k hk (by simp)⟩
    refine ⟨v, rfl, ?_, hg2⟩
    simp only [Int.toNat_zero, List.replicate_zero, List.append_nil]
    exact World.ownsRow.kept hown hg (by cases hv : v.ownBlock <;> simp)
  · have hrl := rle_len A
    rcases List.eq_nil_or_concat (rle A) with hr | ⟨rs, ⟨m, d⟩, hr⟩
    · rw [add_other (by rw [hr]; simp) (by omega), hr]
      rw [hr] at hown
      exact add_push_nil B v n c w hB (by omega) hown
    · rw [List.concat_eq_append] at hr
      have hm : (m, d) ∈ rle A := by rw [hr]; simp
      have hm1 := rle_pos hm
      simp only at hm1
      rw [hr] at hown hrl
      rw [List.length_append] at hrl
      have hx : m.toNat ≤ A.length := by
        have e := congrArg List.length (congrArg xp hr)
        rw [xp_rle, xp_append, xp_one, List.length_append, List.length_replicate] at e
        simp only at e
        omega
      by_cases hd : d = c
      · subst hd
        rw [add_same hr hn]
        refine (add_same_calls B v rs m n d w (by omega) (by omega) (by omega) (by omega) (by omega) hown).mono ?_
        rintro e w' ⟨rfl, h1, h2⟩
        exact ⟨v, rfl, h1, h2⟩
      · rw [add_other (by rw [hr]; simp; exact fun e => hd e.symm) (by omega), hr]
        exact add_push_cons B v rs m d n c w hB (by omega) (by omega) hd hown
end Go.Proofs.YtalolaajcmndeaaDoor
