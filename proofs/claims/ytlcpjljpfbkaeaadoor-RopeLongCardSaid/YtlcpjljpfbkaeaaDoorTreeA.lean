/- Tree: Len, held, Slice, Join. -/
import Derived.Test.YtlcpjljpfbkaeaaDoorAv
namespace Go.Proofs.YtlcpjljpfbkaeaaDoor
open Go.RowKit Go.Sort
set_option linter.unusedSimpArgs false
set_option linter.unusedVariables false

set_option maxHeartbeats 1000000 in
set_option maxRecDepth 100000 in
/-- Tree.Len. -/
theorem tlen_any (E : Env) (v : Value) (ls : List ByteArray) (w : World) (h : Tr E w v ls) :
    Calls Tryd.prog 35 #[.agg #[v]] w fun e w' => e = .returned (.int .i64 (ls.length : Nat)) ∧ Below w.heap.size w w' := by
  have b0 : Below w.heap.size w (w.alloc (Obj.cells #[v] 61)) := (Below.refl _ _).alloc (Nat.le_refl _) _
  rcases h with ⟨rfl, rfl⟩ | ⟨d, g, rfl, h⟩
  · go_enter Tryd.func35, Tryd.ntmps35
    go_wp2
    go_ret
    exact ⟨rfl, b0⟩
  · have c1 := cell_after h.cells.2.1 b0
    clear h
    go_enter Tryd.func35, Tryd.ntmps35
    go_wp2
    go_ret
    exact ⟨rfl, b0⟩

/-- A place, held into a row. -/
def hld (at0 : Int) (n : Nat) : Nat := min at0.toNat n
set_option maxHeartbeats 1000000 in
set_option maxRecDepth 100000 in
/-- Tree.held. -/
theorem held_any (E : Env) (v : Value) (ls : List ByteArray) (at0 : Int) (w : World) (h : Tr E w v ls) :
    Calls Tryd.prog 61 #[.agg #[v], .int .i64 at0] w fun e w' => e = .returned (.int .i64 (hld at0 ls.length : Nat)) ∧ Below w.heap.size w w' := by
  have b0 : Below w.heap.size w (w.alloc (Obj.cells #[v] 61)) := (Below.refl _ _).alloc (Nat.le_refl _) _
  have HL : Hid (Calls Tryd.prog 35 #[.agg #[v]] (w.alloc (Obj.cells #[v] 61)) fun e w' => e = .returned (.int .i64 (ls.length : Nat)) ∧ Below (w.alloc (Obj.cells #[v] 61)).heap.size (w.alloc (Obj.cells #[v] 61)) w') := tlen_any E v ls _ (h.later b0)
  clear h
  have hc : (at0 < 0 ∧ Hid (hld at0 ls.length = 0)) ∨ (∃ a : Nat, at0 = (a : Nat) ∧ ls.length < a ∧ Hid (hld at0 ls.length = ls.length)) ∨ (∃ a : Nat, at0 = (a : Nat) ∧ a ≤ ls.length ∧ Hid (hld at0 ls.length = a)) := by
    rcases (by omega : at0 < 0 ∨ 0 ≤ at0) with h0 | h0
    · exact Or.inl ⟨h0, by show hld _ _ = _; unfold hld; omega⟩
    · obtain ⟨a, rfl⟩ := Int.eq_ofNat_of_zero_le h0
      rcases Nat.lt_or_ge ls.length a with h1 | h1
      · exact Or.inr (Or.inl ⟨a, rfl, h1, by show hld _ _ = _; unfold hld; omega⟩)
      · exact Or.inr (Or.inr ⟨a, rfl, h1, by show hld _ _ = _; unfold hld; omega⟩)
  rcases hc with ⟨h0, H⟩ | ⟨a, rfl, h1, H⟩ | ⟨a, rfl, h1, H⟩
  · rw [H.out]
    clear H
    have hn : ¬ ((ls.length : Int) < 0) := by omega
    go_enter Tryd.func61, Tryd.ntmps61
    go_wp2_with fail
    refine HL.out.mono ?_
    rintro e w1 ⟨rfl, b1⟩
    clear HL
    go_wp2
    go_ret
    exact ⟨rfl, b0.trans (b1.mono b0.size)⟩
  · rw [H.out]
    clear H
    have hn : ¬ ((a : Int) < 0) := by omega
    have h2 : (ls.length : Int) < (a : Int) := by omega
    go_enter Tryd.func61, Tryd.ntmps61
    go_wp2_with fail
    refine HL.out.mono ?_
    rintro e w1 ⟨rfl, b1⟩
    clear HL
    go_wp2
    go_ret
    exact ⟨rfl, b0.trans (b1.mono b0.size)⟩
  · rw [H.out]
    clear H
    have hn : ¬ ((a : Int) < 0) := by omega
    have h2 : ¬ ((ls.length : Int) < (a : Int)) := by omega
    have h3 : ¬ (ls.length < a) := by omega
    go_enter Tryd.func61, Tryd.ntmps61
    go_wp2_with fail
    refine HL.out.mono ?_
    rintro e w1 ⟨rfl, b1⟩
    clear HL
    go_wp2
    go_ret
    exact ⟨rfl, b0.trans (b1.mono b0.size)⟩

set_option maxHeartbeats 1000000 in
set_option maxRecDepth 100000 in
theorem split_tr (E : Env) (v : Value) (ls : List ByteArray) (at0 : Int) (w : World) (h : Tr E w v ls) (hl : ls.length ≤ 1099511627776) :
    Calls Tryd.prog 62 #[v, .int .i64 at0] w fun e w' => ∃ v1 v2, e = .returned (.tuple #[v1, v2]) ∧ Tr E w' v1 (ls.take at0.toNat) ∧ Tr E w' v2 (ls.drop at0.toNat) ∧ Below w.heap.size w w' := by
  rcases h with ⟨rfl, rfl⟩ | ⟨d, g, rfl, h⟩
  · go_enter Tryd.func62, Tryd.ntmps62
    go_wp2
    go_ret2
    exact ⟨_, _, rfl, Or.inl ⟨rfl, by simp⟩, Or.inl ⟨rfl, by simp⟩, Below.refl _ _⟩
  · exact split_nd E d g ls at0 w h hl

set_option maxHeartbeats 4000000 in
set_option maxRecDepth 100000 in
/-- Tree.Slice. -/
theorem tslice_any (E : Env) (v : Value) (ls : List ByteArray) (from0 to0 : Int) (f t : Nat) (w : World) (h : Tr E w v ls) (hl : ls.length ≤ 1099511627776) (hfe : hld from0 ls.length = f) (hte : hld to0 ls.length = t) :
    Calls Tryd.prog 44 #[.agg #[v], .int .i64 from0, .int .i64 to0] w fun e w' => ∃ v', e = .returned (.agg #[v']) ∧ Tr E w' v' ((ls.drop f).take (t - f)) ∧ Below w.heap.size w w' := by
  have b0 : Below w.heap.size w ((w.alloc (Obj.cells #[v] 61)).alloc (Obj.cells #[.pointer none] 61)) := ((Below.refl _ _).alloc (Nat.le_refl _) _).alloc (by simp) _
  have HT := Hid.mk4 h
  have H1 : Hid (∀ W, Tr E W v ls → Calls Tryd.prog 61 #[.agg #[v], .int .i64 from0] W fun e w' => e = .returned (.int .i64 (f : Nat)) ∧ Below W.heap.size W w') := fun W hW => by rw [← hfe]; exact held_any E v ls from0 W hW
  have H2 : Hid (∀ W, Tr E W v ls → Calls Tryd.prog 61 #[.agg #[v], .int .i64 to0] W fun e w' => e = .returned (.int .i64 (t : Nat)) ∧ Below W.heap.size W w') := fun W hW => by rw [← hte]; exact held_any E v ls to0 W hW
  have hf : f ≤ ls.length := by unfold hld at hfe; omega
  have ht : t ≤ ls.length := by unfold hld at hte; omega
  clear hfe hte h
  go_enter Tryd.func44, Tryd.ntmps44
  go_wp2_with fail
  refine (H1.out _ (HT.out.later b0)).mono ?_
  rintro e w1 ⟨rfl, b1⟩
  have r1 : Rt 61 w1 (w.heap.size + 1) #[.pointer none] := (Rt.new' (by simp) _).later b1 (by simp)
  have r0 : Rt 61 w1 w.heap.size #[v] := ((Rt.new _ w _).alloc _).later b1 (by simp; omega)
  have R1 := Hid.mk4 r1
  have R0 := Hid.mk4 r0
  have c0 := r0.cell 0
  have g1 := b0.trans (b1.mono b0.size)
  clear r1 r0 b0 b1 H1
  go_wp2_with fail
  refine (split_tr E v ls (f : Nat) w1 (HT.out.later g1) hl).mono ?_
  rintro e w2 ⟨a1, a2, rfl, _, ha2, b2⟩
  rw [Int.toNat_natCast] at ha2
  have HA2 := Hid.mk4 ha2
  have g2 := g1.trans (b2.mono g1.size)
  have S1 := Hid.mk4 (R1.out.later' b2)
  have c0' := cell_after c0 b2
  clear ha2 b2 c0 g1 R1 R0
  go_wp2_with fail
  refine (H2.out _ (HT.out.later g2)).mono ?_
  rintro e w3 ⟨rfl, b3⟩
  have g3 := g2.trans (b3.mono g2.size)
  have S2 := Hid.mk4 (S1.out.later' b3)
  have HA3 := Hid.mk4 (HA2.out.later b3)
  clear b3 c0' g2 S1 HA2 H2
  go_wp2_with fail
  refine (split_tr E a2 (ls.drop f) ((t : Int) - (f : Int)) w3 HA3.out (by rw [List.length_drop]; omega)).mono ?_
  rintro e w4 ⟨d1, d2, rfl, hd1, _, b4⟩
  rw [show ((t : Int) - (f : Int)).toNat = t - f from by omega] at hd1
  obtain ⟨d1, rfl⟩ := hd1.ptr
  have HD1 := Hid.mk4 hd1
  have g4 := g3.trans (b4.mono g3.size)
  have S3 := Hid.mk4 (S2.out.later' b4)
  have fz := S3.out.fz
  have hlt := S3.out.lt
  have cz := S3.out.cell 0
  clear b4 g3 S2 HA3 hd1
  go_wp2
  have g5 : Below w.heap.size w (w4.setCell ⟨w.heap.size + 1, 0, none⟩ (.pointer d1)) := g4.setCell (p := ⟨w.heap.size + 1, 0, none⟩) (by simp) _
  refine bodyPost_ret (results_tree rfl _ _ (w.heap.size + 1) _ rfl (S3.out.set1 _)) rfl ⟨_, rfl, ?_, g5⟩
  exact HD1.out.putT S3.out _

set_option maxHeartbeats 1000000 in
set_option maxRecDepth 100000 in
/-- Tree.Join. -/
theorem tjoin_any (E : Env) (va vb : Value) (la lb : List ByteArray) (w : World) (hA : Tr E w va la) (hB : Tr E w vb lb) (hl : la.length + lb.length ≤ 1099511627776) :
    Calls Tryd.prog 58 #[.agg #[va], .agg #[vb]] w fun e w' => ∃ v, e = .returned (.agg #[v]) ∧ Tr E w' v (la ++ lb) ∧ Below w.heap.size w w' := by
  have b0 : Below w.heap.size w (((w.alloc (Obj.cells #[va] 61)).alloc (Obj.cells #[vb] 61)).alloc (Obj.cells #[.pointer none] 61)) :=
    (((Below.refl _ _).alloc (Nat.le_refl _) _).alloc (by simp) _).alloc (by simp <;> omega) _
  have HA := Hid.mk4 (hA.later b0)
  have HB := Hid.mk4 (hB.later b0)
  clear hA hB
  go_enter Tryd.func58, Tryd.ntmps58
  go_wp2_with fail
  refine (join_any E va vb la lb _ HA.out HB.out hl).mono ?_
  rintro e w1 ⟨v, rfl, hv, b1⟩
  obtain ⟨v, rfl⟩ := hv.ptr
  have r1 : Rt 61 w1 (w.heap.size + 1 + 1) #[.pointer none] := (Rt.new' (by simp) _).later b1 (by simp)
  have R1 := Hid.mk4 r1
  have HV := Hid.mk4 hv
  have fz := r1.fz
  have c0 := r1.cell 0
  have hlt := r1.lt
  have g1 := b0.trans (b1.mono b0.size)
  clear r1 hv b0 b1
  go_wp2
  have g5 : Below w.heap.size w (w1.setCell ⟨w.heap.size + 1 + 1, 0, none⟩ (.pointer v)) := g1.setCell (p := ⟨w.heap.size + 1 + 1, 0, none⟩) (by simp <;> omega) _
  exact bodyPost_ret (results_tree rfl _ _ (w.heap.size + 1 + 1) _ rfl (R1.out.set1 _)) rfl ⟨_, rfl, HV.out.putT R1.out _, g5⟩
end Go.Proofs.YtlcpjljpfbkaeaaDoor
