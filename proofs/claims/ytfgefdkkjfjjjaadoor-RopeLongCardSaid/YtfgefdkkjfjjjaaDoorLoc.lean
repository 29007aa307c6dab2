/- locate. -/
import Derived.Test.YtfgefdkkjfjjjaaDoorFind
import Derived.Test.YtfgefdkkjfjjjaaDoorTreeE
namespace Go.Proofs.YtfgefdkkjfjjjaaDoor
open Go.RowKit Go.Sort
set_option linter.unusedSimpArgs false
set_option linter.unusedVariables false

/-- Where a byte lies in a row of texts. -/
def Loc (ls : List ByteArray) (a p : Nat) (s : ByteArray) (q : Nat) : Prop := (ls = [] ∧ p = 0 ∧ s = ⟨#[]⟩ ∧ q = 0) ∨ (ls[p]? = some s ∧ szs (ls.take p) + q = a ∧ q ≤ s.size ∧ (p = 0 ∨ 0 < q))
theorem szs_take_succ {ls : List ByteArray} {p : Nat} {s : ByteArray} (h : ls[p]? = some s) : szs (ls.take (p + 1)) = szs (ls.take p) + s.size := by
  obtain ⟨hp, rfl⟩ := List.getElem?_eq_some_iff.1 h
  rw [List.take_succ_eq_append_getElem hp, szs_append, szs_cons, szs_nil]
  omega
theorem szs_take_le (ls : List ByteArray) (p : Nat) : szs (ls.take p) ≤ szs ls := by
  conv => rhs; rw [← List.take_append_drop p ls, szs_append]
  omega

set_option maxHeartbeats 4000000 in
set_option maxRecDepth 100000 in
/-- rope's locate. -/
theorem locate_any (E : Env) (v : Value) (ls : List ByteArray) (a : Nat) (w : World) (h : Tr E w v ls) (hl : ls.length ≤ 1099511627776) (hz : szs ls ≤ 1099511627776) (ha : a ≤ szs ls) :
    Calls Tryd.prog 33 #[.agg #[v], .int .i64 (a : Nat)] w fun e w' => ∃ p s q, e = .returned (.tuple #[.int .i64 (p : Nat), .string s, .int .i64 (q : Nat)]) ∧ Loc ls a p s q ∧ Below w.heap.size w w' := by
  have b0 : Below w.heap.size w ((w.alloc (Obj.cells #[v] 61)).alloc (Obj.cells #[.int .i64 (a : Nat)] 3)) := ((Below.refl _ _).alloc (Nat.le_refl _) _).alloc (by simp) _
  have R0 : Hid (Rt 61 ((w.alloc (Obj.cells #[v] 61)).alloc (Obj.cells #[.int .i64 (a : Nat)] 3)) w.heap.size #[v]) := (Rt.new _ w _).alloc _
  have R1 : Hid (Rt 3 ((w.alloc (Obj.cells #[v] 61)).alloc (Obj.cells #[.int .i64 (a : Nat)] 3)) (w.heap.size + 1) #[.int .i64 (a : Nat)]) := Rt.new' (by simp) _
  have HT := Hid.mk4 (h.later b0)
  have HF : Hid (∀ W, Tr E W v ls → W.cell? ⟨w.heap.size + 1, 0, none⟩ = some (.int .i64 (a : Nat)) → Calls Tryd.prog 49 #[.agg #[v], .func (.func 50) #[] #[.pointer (some ⟨w.heap.size + 1, 0, none⟩)]] W fun e w' => ∃ (p : Nat) (x0 x1 x2 x3 : Int), e = .returned (.tuple #[.int .i64 (p : Nat), .agg #[.int .i64 x0, .int .i64 x1, .int .i64 x2, .int .i64 x3]]) ∧ x0 = (szs (ls.take p) : Nat) ∧ ((ls = [] ∧ p = 0) ∨ (p < ls.length ∧ (p = 0 ∨ szs (ls.take p) < a) ∧ a ≤ szs (ls.take (p + 1)))) ∧ Below W.heap.size W w') := by
    intro W hW hcell
    rcases hW with ⟨rfl, rfl⟩ | ⟨d, g, rfl, hN⟩
    · refine (find_nil _ W).mono ?_
      rintro e w' ⟨rfl, b⟩
      exact ⟨0, 0, 0, 0, 0, rfl, by simp [szs_nil], Or.inl ⟨rfl, rfl⟩, b⟩
    · refine (find_nd E d g a _ ls W hN hl hz ha hcell).mono ?_
      rintro e w' ⟨p, x1, x2, x3, rfl, h1, h2, h3, b⟩
      exact ⟨p, _, x1, x2, x3, rfl, rfl, Or.inr ⟨h1, h2, h3⟩, b⟩
  have HG : Hid (∀ W p s, Tr E W v ls → ls[p]? = some s → Calls Tryd.prog 45 #[.agg #[v], .int .i64 (p : Nat)] W fun e w' => e = .returned (.tuple #[.string s, .bool true]) ∧ Below W.heap.size W w') := fun W p s hW hs => tget_in E v ls p s W hW hs hl
  have HG0 : Hid (∀ W, Tr E W v ls → ls = [] → Calls Tryd.prog 45 #[.agg #[v], .int .i64 0] W fun e w' => e = .returned (.tuple #[.string ⟨#[]⟩, .bool false]) ∧ Below W.heap.size W w') := fun W hW he => tget_out E v ls 0 W hW (Or.inr (by rw [he]; simp))
  obtain ⟨u, rfl⟩ := h.ptr
  have HZ := Hid.mk4 hz
  have HAZ := Hid.mk4 ha
  clear h ha
  go_enter Tryd.func33, Tryd.ntmps33
  go_wp2_with fail
  refine (HF.out _ HT.out (R1.out.cell 0)).mono ?_
  rintro e w1 ⟨p, x0, x1, x2, x3, rfl, hx0, hp, b1⟩
  have g1 := b0.trans (b1.mono b0.size)
  have S0 := Hid.mk4 (R0.out.later' b1)
  have S1 := Hid.mk4 (R1.out.later' b1)
  have HT1 := Hid.mk4 (HT.out.later b1)
  have HP := Hid.mk4 hp
  have HX := Hid.mk4 hx0
  clear R0 R1 HT b0 b1 hp hx0 HF
  have c0 := S0.out.cell 0
  have hlt0 := S0.out.lt
  have b2 : Below w1.heap.size w1 (w1.alloc (Obj.cells #[.int .i64 x0, .int .i64 x1, .int .i64 x2, .int .i64 x3] 74)) := (Below.refl _ _).alloc (Nat.le_refl _) _
  have S2 : Hid (Rt 74 (w1.alloc (Obj.cells #[.int .i64 x0, .int .i64 x1, .int .i64 x2, .int .i64 x3] 74)) w1.heap.size #[.int .i64 x0, .int .i64 x1, .int .i64 x2, .int .i64 x3]) := Rt.new _ w1 _
  have g2 := g1.trans (b2.mono g1.size)
  have S1b := Hid.mk4 (S1.out.later' b2)
  have HT2 := Hid.mk4 (HT1.out.later b2)
  have HGG : Hid (∃ (s : ByteArray) (q : Nat) (bb : Bool), (q : Int) = (a : Int) - x0 ∧ Loc ls a p s q ∧ Calls Tryd.prog 45 #[.agg #[.pointer u], .int .i64 (p : Nat)] (w1.alloc (Obj.cells #[.int .i64 x0, .int .i64 x1, .int .i64 x2, .int .i64 x3] 74)) fun e w' => e = .returned (.tuple #[.string s, .bool bb]) ∧ Below (w1.alloc (Obj.cells #[.int .i64 x0, .int .i64 x1, .int .i64 x2, .int .i64 x3] 74)).heap.size (w1.alloc (Obj.cells #[.int .i64 x0, .int .i64 x1, .int .i64 x2, .int .i64 x3] 74)) w') := by
    rcases HP.out with ⟨e1, e2⟩ | ⟨h1, h2, h3⟩
    · refine ⟨⟨#[]⟩, 0, false, ?_, Or.inl ⟨e1, e2, rfl, rfl⟩, ?_⟩
      · have h1 := HX.out
        have h2 := HAZ.out
        rw [e1] at h1 h2
        simp [szs_nil] at h1 h2
        omega
      · have := HG0.out _ HT2.out e1
        rw [e2]
        exact this
    · obtain ⟨s, hs⟩ : ∃ s, ls[p]? = some s := ⟨ls[p], List.getElem?_eq_getElem h1⟩
      have h4 := szs_take_succ hs
      have h5 : szs (ls.take p) ≤ a := by
        rcases h2 with h2 | h2
        · rw [h2]; simp [szs_nil]
        · omega
      refine ⟨s, a - szs (ls.take p), true, ?_, Or.inr ⟨hs, by omega, by omega, by omega⟩, HG.out _ p s HT2.out hs⟩
      rw [HX.out]
      omega
  obtain ⟨s, q, bb, hq, hloc, hget⟩ := HGG.out
  have HQ := Hid.mk4 hq
  have HLOC := Hid.mk4 hloc
  have HGET := Hid.mk4 hget
  clear HGG hq hloc hget HG HG0 S0 S1 HT1 HP b2 g1
  go_wp2_with fail
  refine HGET.out.mono ?_
  rintro e w3 ⟨rfl, b3⟩
  have g3 := g2.trans (b3.mono g2.size)
  have V1 := Hid.mk4 (S1b.out.later' b3)
  have V2 := Hid.mk4 (S2.out.later' b3)
  clear HGET S1b S2 HT2 b3 g2 c0
  go_wp2
  have k1 := cell_regrown (V1.out.cell 0)
  have k2 := cell_regrown (V2.out.cell 0)
  have hx0r : 0 ≤ x0 ∧ x0 ≤ 1099511627776 := by have h1 := HX.out; have h2 := szs_take_le ls p; omega
  have har : a ≤ 1099511627776 := by have := HAZ.out; omega
  refine wp_region_quiet_below (by kernel_rfl) (by kernel_rfl) ?_
  repeat (go_big_quiet_step (fail))
  refine wpQuiet_nil ?_
  intro _ hw'
  obtain ⟨⟨dq, osq⟩, hw''⟩ := hw'
  subst hw''
  have g4 := g3.trans ((below_regrown w3 dq osq).mono g3.size)
  go_wp2
  go_ret3
  refine ⟨p, s, q, ?_, HLOC.out, g4⟩
  rw [HQ.out]
  rfl
end Go.Proofs.YtfgefdkkjfjjjaaDoor
