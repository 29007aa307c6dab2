/- Ropes in memory: rowOf, Counts, Len, IsEdge, check. -/
import Derived.Test.YtfgefdkkjfjjjaaDoorRepl
import Derived.Test.YtfgefdkkjfjjjaaDoorTakeZ
import Derived.Test.YtfgefdkkjfjjjaaDoorFld
import Derived.Test.YtfgefdkkjfjjjaaDoorTxt
namespace Go.Proofs.YtfgefdkkjfjjjaaDoor
open Go.RowKit Go.Sort
set_option linter.unusedSimpArgs false
set_option linter.unusedVariables false

/-- The row of a rope (or of none). -/
def RowIs (w : World) (r : Value) (u : Option Addr) : Prop := (r = .pointer none ∧ u = none) ∨ ∃ g, r = .pointer (some ⟨g, 0, none⟩) ∧ Rt 64 w g #[.pointer u]
/-- A rope of these chunks. -/
def Rp (E : Env) (w : World) (r : Value) (ls : List ByteArray) : Prop := ∃ u, RowIs w r u ∧ Tr E w (.pointer u) ls ∧ Inv ls
theorem RowIs.later {w w' : World} {r : Value} {u : Option Addr} (h : RowIs w r u) (hb : Below w.heap.size w w') : RowIs w' r u := by
  rcases h with h | ⟨g, e, h⟩
  · exact Or.inl h
  · exact Or.inr ⟨g, e, h.later' hb⟩
theorem Rp.later {E : Env} {w w' : World} {r : Value} {ls : List ByteArray} (h : Rp E w r ls) (hb : Below w.heap.size w w') : Rp E w' r ls := by
  obtain ⟨u, h1, h2, h3⟩ := h
  exact ⟨u, h1.later hb, h2.later hb, h3⟩
theorem Rp.nil (E : Env) (w : World) : Rp E w (.pointer none) [] := ⟨none, Or.inl ⟨rfl, rfl⟩, Or.inl ⟨rfl, rfl⟩, fun s hs => by simp at hs, fun h => by simp at h⟩
theorem edg_take {s : ByteArray} (hv : vld s.data.toList = true) {q : Nat} (hq : q ≤ s.size) : edg s (q : Int) = vld (s.data.toList.take q) := by
  obtain ⟨cs, hg, hcs⟩ := (vld_iff _).1 hv
  rcases place_cases cs q (by rw [← hcs, bytes_length]; exact hq) with ⟨cs1, cs2, e, hk⟩ | ⟨cs1, c, cs2, j, e, hk, h0, hj⟩
  · have hg' : Good (cs1 ++ cs2) := e ▸ hg
    have hsp : s.data.toList = flat cs1 ++ flat cs2 := by rw [hcs, e, flat_append]
    rw [hk, edge_start hsp (good_left hg') (good_right hg'), hsp, List.take_left' rfl, vld_flat (good_left hg')]
  · have hg' : Good (cs1 ++ c :: cs2) := e ▸ hg
    have hsp : s.data.toList = flat cs1 ++ flat (c :: cs2) := by rw [hcs, e, flat_append]
    have hc := (good_right hg').head
    rw [hk, edge_within hsp hc j h0 hj, hsp, take_app, flat_cons, List.take_append_of_le_length (by omega), vld_cancel (vld_flat (good_left hg'))]
    rw [vld_bad (by intro e0; have := congrArg List.length e0; rw [List.length_take, List.length_nil] at this; omega) (take_zero c hc j hj)]

set_option maxHeartbeats 1000000 in
set_option maxRecDepth 100000 in
/-- rowOf. -/
theorem rowof_any (r : Value) (u : Option Addr) (w : World) (h : RowIs w r u) :
    Calls Tryd.prog 30 #[r] w fun e w' => e = .returned (.agg #[.pointer u]) ∧ Below w.heap.size w w' := by
  have b0 : Below w.heap.size w (w.alloc (Obj.cells #[.pointer none] 61)) := (Below.refl _ _).alloc (Nat.le_refl _) _
  rcases h with ⟨rfl, rfl⟩ | ⟨g, rfl, h⟩
  · go_enter Tryd.func30, Tryd.ntmps30
    go_wp2
    exact bodyPost_ret (results_tree rfl _ _ w.heap.size _ rfl (Rt.new _ w _)) rfl ⟨rfl, (Below.refl _ _).alloc (Nat.le_refl _) _⟩
  · have c0 := (h.later' b0).cell 0
    clear h
    go_enter Tryd.func30, Tryd.ntmps30
    go_wp2
    exact bodyPost_ret (results_tree rfl _ _ w.heap.size _ rfl (Rt.new _ w _)) rfl ⟨rfl, (Below.refl _ _).alloc (Nat.le_refl _) _⟩

set_option maxHeartbeats 1000000 in
set_option maxRecDepth 100000 in
/-- Counts. -/
theorem counts_any (E : Env) (r : Value) (u : Option Addr) (ls : List ByteArray) (x0 x1 x2 x3 : Int) (w : World) (h : RowIs w r u) (hT : Tr E w (.pointer u) ls) (hS : SumIs w (.pointer u) x0 x1 x2 x3) :
    Calls Tryd.prog 24 #[r] w fun e w' => e = .returned (.agg #[.int .i64 x0, .int .i64 x1, .int .i64 x2, .int .i64 x3]) ∧ Below w.heap.size w w' := by
  have b0 : Below w.heap.size w (w.alloc (Obj.cells #[.int .i64 0, .int .i64 0, .int .i64 0, .int .i64 0] 54)) := (Below.refl _ _).alloc (Nat.le_refl _) _
  have H1 := Hid.mk4 (rowof_any r u _ (h.later b0))
  have HT := Hid.mk4 (hT.later b0)
  have HS := Hid.mk4 (hS.later b0)
  have R0 : Hid (Row4 (w.alloc (Obj.cells #[.int .i64 0, .int .i64 0, .int .i64 0, .int .i64 0] 54)) w.heap.size (.int .i64 0) (.int .i64 0) (.int .i64 0) (.int .i64 0)) := Row4.new w _ _ _ _
  clear h hT hS
  go_enter Tryd.func24, Tryd.ntmps24
  go_wp2_with fail
  refine H1.out.mono ?_
  rintro e w1 ⟨rfl, b1⟩
  have HT1 := Hid.mk4 (HT.out.later b1)
  have HS1 := Hid.mk4 (HS.out.later b1)
  have R1 := Hid.mk4 (R0.out.later b1 R0.out.lt)
  have g1 := b0.trans (b1.mono b0.size)
  clear H1 HT HS R0 b0 b1
  go_wp2_with fail
  refine (total_any E _ ls x0 x1 x2 x3 w1 HT1.out HS1.out).mono ?_
  rintro e w2 ⟨rfl, b2⟩
  have R2 := Hid.mk4 (R1.out.later b2 R1.out.lt)
  have g2 := g1.trans (b2.mono g1.size)
  have c0 := R2.out.c0; have c1 := R2.out.c1; have c2 := R2.out.c2; have c3 := R2.out.c3; have fz := R2.out.fz
  have hlt := R2.out.lt
  clear HT1 HS1 R1 b2 g1
  go_wp2
  refine bodyPost_ret (results_row4 rfl _ _ w.heap.size _ _ _ _ rfl (R2.out.set _ _ _ _)) rfl ⟨rfl, below_set4 g2 (Nat.le_refl _) _ _ _ _⟩

theorem KR_bytes {E : Env} {ls : List ByteArray} {x0 x1 x2 x3 : Int} (h : E.KR ls x0 x1 x2 x3) (hz : szs ls ≤ 100000) : x0 = (szs ls : Nat) := by
  rw [E.bytes h]
  unfold wrap64
  change _ = ((szs ls : Nat) : Int)
  unfold szs at hz ⊢
  omega

set_option maxHeartbeats 1000000 in
set_option maxRecDepth 100000 in
/-- Len. -/
theorem len_any (E : Env) (r : Value) (ls : List ByteArray) (w : World) (h : Rp E w r ls) (hz : szs ls ≤ 100000) :
    Calls Tryd.prog 20 #[r] w fun e w' => e = .returned (.int .i64 (szs ls : Nat)) ∧ Below w.heap.size w w' := by
  obtain ⟨u, h1, h2, h3⟩ := h
  obtain ⟨x0, x1, x2, x3, hk, hs⟩ := h2.sum
  obtain rfl := KR_bytes hk hz
  have H := Hid.mk4 (counts_any E r u ls _ x1 x2 x3 w h1 h2 hs)
  have hf := counts_bytes (szs ls : Nat) x1 x2 x3
  clear h1 h2 h3 hk hs
  go_enter Tryd.func20, Tryd.ntmps20
  go_wp2_with fail
  refine H.out.mono ?_
  rintro e w1 ⟨rfl, b1⟩
  clear H
  go_wp2
  go_ret
  exact ⟨rfl, b1⟩

set_option maxHeartbeats 2000000 in
set_option maxRecDepth 100000 in
/-- IsEdge, in the text. -/
theorem isedge_in (E : Env) (tb : Nat × Nat) (htab : ∀ W, E.Tb W → Tab W tb) (r : Value) (ls : List ByteArray) (a : Nat) (w : World) (h : Rp E w r ls) (hz : szs ls ≤ 100000) (ha : a ≤ szs ls) (hT : E.Tb w) :
    Calls Tryd.prog 18 #[r, .int .i64 (a : Nat)] w fun e w' => e = .returned (.bool (vld ((cat ls).take a))) ∧ Below w.heap.size w w' := by
  have HL := Hid.mk4 (len_any E r ls w h hz)
  obtain ⟨u, h1, h2, h3⟩ := h
  have H1 := Hid.mk4 h1
  have H2 := Hid.mk4 h2
  have H3 := Hid.mk4 h3
  have hlen : ls.length ≤ 100000 := by have := szs_ge h3.1; omega
  have t1 : ¬ ((a : Int) < 0) := by omega
  have t2 : decide ((szs ls : Int) < (a : Int)) = false := by simp; omega
  have t3 : decide (szs ls < a) = false := by simp; omega
  clear h1 h2 h3
  go_enter Tryd.func18, Tryd.ntmps18
  go_wp2_with fail
  refine HL.out.mono ?_
  rintro e w1 ⟨rfl, b1⟩
  have HR := Hid.mk4 (rowof_any r u w1 (H1.out.later b1))
  have H2b := Hid.mk4 (H2.out.later b1)
  clear HL H1 H2
  go_wp2_with fail
  refine HR.out.mono ?_
  rintro e w2 ⟨rfl, b2⟩
  have g2 := b1.trans (b2.mono b1.size)
  have HLO := Hid.mk4 (locate_any E _ ls a w2 (H2b.out.later b2) (by omega) (by omega) ha)
  clear HR H2b b1 b2
  go_wp2_with fail
  refine HLO.out.mono ?_
  rintro e w3 ⟨p, s, q, rfl, hloc, b3⟩
  have g3 := g2.trans (b3.mono g2.size)
  have hh := loc_head hloc ha
  have hvs : vld s.data.toList = true := by
    rcases hloc with ⟨_, _, rfl, _⟩ | ⟨hs, _⟩
    · rfl
    · exact (H3.out.1 s (List.mem_of_getElem? hs)).1
  have HE : Hid (Calls Tryd.prog 34 #[.string s, .int .i64 (q : Nat)] w3 fun e w' => e = .returned (.bool (vld ((cat ls).take a))) ∧ Below w3.heap.size w3 w') := by
    have := edge_any s (q : Nat) w3 tb (by unfold maxLen; omega) (htab _ (E.later hT g3))
    rw [edg_take hvs hh.2.2.1] at this
    rw [← hh.1, vld_cancel (cat_valid fun x hx => H3.out.1 x (List.mem_of_mem_take hx))]
    exact this
  clear HLO hloc hh hvs b3
  go_wp2_with fail
  refine HE.out.mono ?_
  rintro e w4 ⟨rfl, b4⟩
  clear HE
  go_wp2
  go_ret
  exact ⟨rfl, g3.trans (b4.mono g3.size)⟩

set_option maxHeartbeats 2000000 in
set_option maxRecDepth 100000 in
/-- IsEdge, elsewhere. -/
theorem isedge_out (E : Env) (r : Value) (ls : List ByteArray) (a : Int) (w : World) (h : Rp E w r ls) (hz : szs ls ≤ 100000) (ha : a < 0 ∨ (szs ls : Int) < a) :
    Calls Tryd.prog 18 #[r, .int .i64 a] w fun e w' => e = .returned (.bool false) ∧ Below w.heap.size w w' := by
  by_cases h0 : a < 0
  · go_enter Tryd.func18, Tryd.ntmps18
    go_wp2
    go_ret
    exact ⟨rfl, Below.refl _ _⟩
  · have h1 : (szs ls : Int) < a := by omega
    have HL := Hid.mk4 (len_any E r ls w h hz)
    have h0' : decide (a < 0) = false := by simpa using h0
    clear h ha h0
    go_enter Tryd.func18, Tryd.ntmps18
    go_wp2_with fail
    refine HL.out.mono ?_
    rintro e w1 ⟨rfl, b1⟩
    clear HL
    go_wp2
    go_ret
    exact ⟨rfl, b1⟩
end Go.Proofs.YtfgefdkkjfjjjaaDoor
