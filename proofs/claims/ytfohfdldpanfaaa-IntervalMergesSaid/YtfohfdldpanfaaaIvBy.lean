/- sortBy: a row of one's own put in order. -/
import Derived.Test.YtfohfdldpanfaaaIvStab
import Derived.Test.YtfohfdldpanfaaaIvClo
import Derived.Test.YtfohfdldpanfaaaIvAdd
namespace Go.Proofs.Ytfohfdldpanfaaa
open Go.Shelf Go.RowKit Go.Lib Go.Sort
set_option linter.unusedSimpArgs false
set_option linter.unusedVariables false

theorem flat_cs (F : List Sg) : (flatK encI 2 F.toArray).toList = cs F := by
  apply List.ext_getElem
  · simp [cs_length]
  intro j h1 h2
  have hj : j < F.length * 2 := by simpa [cs_length] using h2
  have hi : j / 2 < F.length := by omega
  have e1 : (flatK encI 2 F.toArray)[j]! = (encI F.toArray[j / 2]!)[j % 2]! := get_flatK encI 2 F.toArray j (by simpa using hj)
  rw [Array.getElem_toList, ← getElem!_pos (flatK encI 2 F.toArray) j (by simpa using hj), e1, getElem!_pos F.toArray (j / 2) (by simpa using hi)]
  obtain ⟨q0, q1⟩ := cs_get (List.getElem?_eq_getElem hi)
  simp only [List.getElem_toArray]
  rcases Nat.mod_two_eq_zero_or_one j with h | h
  · have e2 : j / 2 * 2 = j := by omega
    rw [e2, List.getElem?_eq_getElem h2] at q0
    rw [h, Option.some.inj q0]; rfl
  · have e2 : j / 2 * 2 + 1 = j := by omega
    rw [e2, List.getElem?_eq_getElem h2] at q1
    rw [h, Option.some.inj q1]; rfl
theorem holds_own {w : World} {B g cap : Nat} {F : List Sg} (h : OwnV w B (.slice (some ⟨g, 0, none⟩) F.length cap) F) : HoldsK encI 2 w g 0 F.toArray := by
  intro j hj
  have hj' : j < F.length * 2 := by simpa using hj
  refine ⟨?_, World.ownsRow.frozenAt h _⟩
  have hjc : j < (cs F).length := by rw [cs_length]; exact hj'
  have hc := World.ownsRow.cells h (g := g) rfl j (cs F)[j] (List.getElem?_eq_getElem hjc)
  rw [addr_add7] at hc
  rw [hc]
  have e : (cs F)[j] = (flatK encI 2 F.toArray)[j]! := by
    rw [getElem!_pos _ j (by simpa using hj'), ← Array.getElem_toList]
    simp only [flat_cs]
  rw [e]; rfl
theorem heap_id {w : World} {g n : Nat} {os : Array Obj} {cur : Array Value} {e : TypeId} {fr : Nat × Nat} (D : Array Value) (hb : w.heap[g]? = some (.cells cur e fr)) :
    (grow (putRow id (Sort.ahead w n) g 0 D) os).heap[g]? = some (.cells (putCells id 0 D cur) e fr) := by
  have hg : g < w.heap.size := (Array.getElem?_eq_some_iff.1 hb).1
  rw [heap_grow_old _ _ (by simpa using hg)]
  simp [putRow, mapBlock, Sort.ahead, Array.getElem?_modify, hb, onCells]
theorem grown_id {w : World} {g n : Nat} {os : Array Obj} (D : Array Value) : w.grownBy (grow (putRow id (Sort.ahead w n) g 0 D) os) (some g) := by
  refine ⟨rfl, rfl, rfl, by simp, fun k hk hne => ?_⟩
  rw [heap_grow_old _ _ (by simpa using hk)]
  have : g ≠ k := fun e => hne (by rw [e])
  simp [putRow, mapBlock, Sort.ahead, Array.getElem?_modify, this]
theorem take_id (cur D : Array Value) (h : D.size ≤ cur.size) : (putCells id 0 D cur).toList.take D.size = D.toList := by
  apply List.ext_getElem?
  intro j
  by_cases hj : j < D.size
  · rw [List.getElem?_take_of_lt hj, Array.getElem?_toList]
    simp [putCells, hj, show j < cur.size by omega]
  · rw [List.getElem?_take_eq_none (by omega), List.getElem?_eq_none (by simp; omega)]
theorem own_sorted {w w' : World} {B g cap : Nat} {F F' : List Sg} (hl : F'.length = F.length) (h : OwnV w B (.slice (some ⟨g, 0, none⟩) F.length cap) F) (S : SWK encI 2 w g 0 F'.toArray w') :
    OwnV w' B (.slice (some ⟨g, 0, none⟩) F.length cap) F' ∧ w.grownBy w' (some g) := by
  obtain ⟨n, os, rfl⟩ := S
  unfold sortWorldK putRowK
  refine ⟨⟨by rw [cs_length], ?_⟩, grown_id _⟩
  rcases h.2 with ⟨h1, _⟩ | ⟨g', cap', cur, hv, h2, h3, h4, h5, h6, h7⟩
  · cases h1
  · cases hv
    refine .inr ⟨g, cap, _, by rw [hl], h2, heap_id _ h3, by omega, h5, by simp [putCells, h6], ?_⟩
    have hs : (flatK encI 2 F'.toArray).size = F'.length * 2 := by simp
    have := take_id cur (flatK encI 2 F'.toArray) (by rw [hs]; omega)
    rw [hs, flat_cs] at this
    exact this
theorem lt_cmV : ltOf cmV = ltV := by
  funext x y
  unfold ltOf ltV
  apply decide_eq_decide.2
  simp only [cmV, cm]
  by_cases h1 : x.1 < y.1
  · simp [h1]
  · by_cases h2 : y.1 < x.1
    · simp [h1, h2]; omega
    · have h3 : x.1 = y.1 := by omega
      simp [h3]
      by_cases h4 : x.2 < y.2
      · simp [h4]
      · by_cases h5 : y.2 < x.2 <;> simp [h4, h5]
theorem cell_sorting {w : World} {g m : Nat} {dk : Array Sg} {os : Array Obj} {a : Addr} {v : Value} (h : w.cell? a = some v) (hne : a.block ≠ g) : (sortWorldK encI 2 w g 0 m dk os).cell? a = some v := by
  unfold sortWorldK
  rw [cell?_grow _ _ _ (by rw [size_putRowK]; exact World.block_lt_of_cell? w a h), cell?_putRowK_other encI 2 _ g 0 dk a hne]
  exact h
set_option maxHeartbeats 1000000 in
set_option maxRecDepth 100000 in
theorem ins_none (p : Option Addr) (cap : Nat) (fv : Value) (w : World) :
    Calls Try.prog 26 #[.slice p 0 cap, .int .i64 0, .int .i64 0, fv] w fun e w' => e = .returned (.tuple #[]) ∧ w' = w := by
  go_enter Try.func26, Try.ntmps26
  go_wp2
  refine wp_loop_rounds 1 ?_
  rw [rounds_succ]
  go_wp2
  go_end0
  exact ⟨rfl, rfl⟩
set_option maxHeartbeats 1000000 in
set_option maxRecDepth 100000 in
theorem stable_none (p : Option Addr) (cap : Nat) (fv : Value) (w : World) :
    Calls Try.prog 24 #[.slice p 0 cap, .int .i64 0, fv] w fun e w' => e = .returned (.tuple #[]) ∧ w' = w := by
  have hi := ins_none p cap fv w
  go_enter Try.func24, Try.ntmps24
  go_wp2
  refine wp_loop_rounds 1 ?_
  rw [rounds_succ]
  go_wp2_with fail
  refine hi.mono ?_
  rintro e w1 ⟨rfl, rfl⟩
  go_wp2
  refine wp_loop_rounds 1 ?_
  rw [rounds_succ]
  go_wp2
  go_end0
  exact ⟨rfl, rfl⟩
set_option maxHeartbeats 1000000 in
set_option maxRecDepth 100000 in
theorem sortStable_none (p : Option Addr) (cap : Nat) (fv : Value) (w : World) :
    Calls Try.prog 21 #[.slice p 0 cap, fv] w fun e w' => e = .returned (.tuple #[]) ∧ w' = w := by
  have hc := stable_none p cap fv w
  go_enter Try.func21, Try.ntmps21
  go_wp2_with fail
  refine hc.mono ?_
  rintro e w1 ⟨rfl, rfl⟩
  go_wp2
  go_end0
  exact ⟨rfl, rfl⟩
/-- slices.SortStableFunc with the closure, on a row of one's own. -/
theorem sortOwn_any {W : World} {B : Nat} {v : Value} {F : List Sg} (K kk : Nat) (h : OwnV W B v F) (hl : F.length ≤ 40) (hK : W.cell? ⟨K, 0, none⟩ = some (.slice (some ⟨kk, 0, none⟩) 2 2)) (h0 : W.cell? ⟨kk, 0, none⟩ = some (.func (.func 18) #[] #[])) (h1 : W.cell? ⟨kk, 1, none⟩ = some (.func (.func 19) #[] #[])) :
    Calls Try.prog 21 #[v, .func (.func 22) #[] #[.pointer (some ⟨K, 0, none⟩)]] W fun e w' => e = .returned (.tuple #[]) ∧ OwnV w' B v (srt F) ∧ W.grownBy w' v.ownBlock := by
  rcases F with _ | ⟨f0, Ft⟩
  · obtain ⟨a, cap, rfl, _, _⟩ := own_shapeV h
    refine (sortStable_none a cap _ W).mono ?_
    rintro e w' ⟨rfl, rfl⟩
    exact ⟨rfl, by simpa [srt] using h, World.grownBy.refl _ _⟩
  · obtain ⟨a, cap, rfl, _, hg⟩ := own_shapeV h
    obtain ⟨g, rfl⟩ := hg (by simp)
    generalize hF : f0 :: Ft = F at *
    have hne : F ≠ [] := by rw [← hF]; simp
    have hH := holds_own h
    have hgl : g < W.heap.size := (World.ownsRow.lt h g rfl).2
    have hc0 := World.ownsRow.cells h (g := g) rfl 0 (.int .i64 f0.1) (by rw [← hF, cs_cons]; rfl)
    rw [addr_add7] at hc0
    have hKg : K ≠ g := fun e => by subst e; rw [Nat.add_zero, hK] at hc0; cases hc0
    have hkg : kk ≠ g := fun e => by subst e; rw [Nat.add_zero, h0] at hc0; cases hc0
    have R : RowK encI 2 W g 0 F.toArray := ⟨fun _ => rfl, fun x u hu => by simp [encI] at hu; rcases hu with rfl | rfl <;> rfl, hH, hgl⟩
    have eg : ∀ args w, (callFunc 22 args).run Try.prog w = .ok (.enter 22 args) w := enters_of Try.func22 (by kernel_rfl) rfl
    have hcmp : CmpLays Try.prog 22 #[.pointer (some ⟨K, 0, none⟩)] encI 2 cmV g 0 F.toArray.size W := fun m os dk _ x y =>
      clo_any K kk x y _ (cell_sorting hK hKg) (cell_sorting h0 hkg) (cell_sorting h1 hkg)
    have hO : SWO (ltOf cmV) := by rw [lt_cmV]; exact swoV
    have hm := sortStable_any 22 #[.pointer (some ⟨K, 0, none⟩)] cmV g 0 cap F.toArray W eg hcmp R hO (by simpa using hl)
    simp only [List.size_toArray] at hm
    refine hm.mono ?_
    rintro e w' ⟨rfl, d', hp, hs, hS⟩
    rw [lt_cmV] at hs
    have e := sorted_unique_holds (lt := ltV) swoV totV F.toArray d' (by simpa using hp) (by simpa using hs)
    have e2 : d' = (srt F).toArray := by rw [srt, ← e]
    rw [e2] at hS
    have := own_sorted (F' := srt F) (srt_perm F).length_eq h hS
    exact ⟨rfl, this.1, this.2⟩
set_option maxHeartbeats 1000000 in
set_option maxRecDepth 100000 in
theorem sortBy_any {w : World} {B : Nat} {v : Value} {F : List Sg} (kk : Nat) (h : OwnV w B v F) (hl : F.length ≤ 40) (h0 : w.cell? ⟨kk, 0, none⟩ = some (.func (.func 18) #[] #[])) (h1 : w.cell? ⟨kk, 1, none⟩ = some (.func (.func 19) #[] #[])) :
    Calls Try.prog 17 #[v, .slice (some ⟨kk, 0, none⟩) 2 2] w fun e w' => e = .returned (.tuple #[]) ∧ OwnV w' B v (srt F) ∧ w.grownBy w' v.ownBlock := by
  have hc := sortOwn_any (W := w.alloc (.cells #[.slice (some ⟨kk, 0, none⟩) 2 2] 42)) w.heap.size kk (h.alloc _) hl (by simp) ((Gr.alloc w _).cell h0) ((Gr.alloc w _).cell h1)
  have HG : Hid (w.grownBy (w.alloc (.cells #[.slice (some ⟨kk, 0, none⟩) 2 2] 42)) v.ownBlock) := World.grownBy_alloc _ _ _
  clear h h0 h1
  go_enter Try.func17, Try.ntmps17
  go_wp2_with fail
  refine hc.mono ?_
  rintro e w1 ⟨rfl, o1, g1⟩
  have O1 := Hid.mk7 o1
  have G1 := Hid.mk7 g1
  clear o1 g1
  go_wp2
  go_end0
  exact ⟨rfl, O1.out, grown_trans HG.out G1.out⟩
end Go.Proofs.Ytfohfdldpanfaaa
