/- A block of another make is no part of a node. Tree: Len, held, Slice, Join. leaves, Tree.All. sumOf, Tree.Sum over all; rope's total. -/
import Derived.Test.YtfgefdkkjfjjjaaDoorSplit
import Derived.Deep.RegionWith
namespace Go.Proofs.YtfgefdkkjfjjjaaDoor
open Go.RowKit Go.Sort
set_option linter.unusedSimpArgs false
set_option linter.unusedVariables false

theorem NdC.ne {E : Env} {t : TypeId} {w : World} {g d r : Nat} {ls : List ByteArray} {s : ByteArray} {kids : Value} {a : Array Value} (h : NdC E w g d ls s kids) (ht : t ≠ 98) (hr : Rt t w r a) : g ≠ r := by
  rintro rfl
  obtain ⟨_, _, _, _, _, _, hn, _⟩ := h
  unfold Rt at hn hr
  rw [hn] at hr
  simp at hr
  exact ht hr.2.symm
/-- A row in which no two neighbours are pointers to something. -/
def Lone (a : Array Value) : Prop := ∀ i x y, a[i]? = some (.pointer (some x)) → a[i + 1]? = some (.pointer (some y)) → False
theorem NdA.avoid {E : Env} {A : Nat → Prop} {t : TypeId} {w : World} {r : Nat} {a : Array Value} (ht : t ≠ 98) (hr : Rt t w r a) (ha : Lone a) : ∀ {d g : Nat} {ls : List ByteArray}, NdA E A w d g ls → NdA E (fun b => b ≠ r) w d g ls
  | 0, _, _, ⟨_, s, e, h⟩ => ⟨h.ne ht hr, s, e, h⟩
  | d + 1, g, ls, ⟨_, ks, kb, off, cap, _, hc, h2, h3, hk, e, h, hp⟩ => by
    refine ⟨h.ne ht hr, ks, kb, off, cap, ?_, hc, h2, h3, fun k hm => NdA.avoid ht hr ha (hk k hm), e, h, hp⟩
    rintro rfl
    match ks, h2 with
    | k1 :: k2 :: kr, _ =>
      have p0 := hp 0 k1.1 (by simp)
      have p1 := hp 1 k2.1 (by simp)
      rw [hr.cell] at p0 p1
      exact ha off _ _ p0 p1
theorem lone1 (x : Value) : Lone #[x] := by
  intro i a b h1 h2
  cases i with
  | zero => simp at h2
  | succ n => simp at h1
theorem lone4 (x0 x1 x2 x3 : Int) : Lone #[.int .i64 x0, .int .i64 x1, .int .i64 x2, .int .i64 x3] := by
  intro i a b h1 _
  match i, h1 with
  | 0, h1 => simp at h1
  | 1, h1 => simp at h1
  | 2, h1 => simp at h1
  | 3, h1 => simp at h1
  | n + 4, h1 => simp at h1
/-- What is stored into such a block doesn't touch a tree. -/
theorem Nd.put {E : Env} {t : TypeId} {w : World} {r : Nat} {a : Array Value} (ht : t ≠ 98) (hr : Rt t w r a) (ha : Lone a) {d g : Nat} {ls : List ByteArray} (h : Nd E w d g ls) (j : Nat) (x : Value) : Nd E (w.setCell ⟨r, j, none⟩ x) d g ls :=
  ((NdA.avoid ht hr ha h).keep fun b hb _ => heap_setCell_other _ _ _ _ hb).nd
theorem Tr.put {E : Env} {t : TypeId} {w : World} {r : Nat} {a : Array Value} (ht : t ≠ 98) (hr : Rt t w r a) (ha : Lone a) {v : Value} {ls : List ByteArray} (h : Tr E w v ls) (j : Nat) (x : Value) : Tr E (w.setCell ⟨r, j, none⟩ x) v ls := by
  rcases h with h | ⟨d, g, e, h⟩
  · exact Or.inl h
  · exact Or.inr ⟨d, g, e, h.put ht hr ha j x⟩
theorem Tr.putT {E : Env} {w : World} {r : Nat} {y : Value} (hr : Rt 61 w r #[y]) {v : Value} {ls : List ByteArray} (h : Tr E w v ls) (x : Value) : Tr E (w.setCell ⟨r, 0, none⟩ x) v ls := h.put (by decide) hr (lone1 _) 0 x
end Go.Proofs.YtfgefdkkjfjjjaaDoor
namespace Go.Proofs.YtfgefdkkjfjjjaaDoor
open Go.RowKit Go.Sort
set_option linter.unusedSimpArgs false
set_option linter.unusedVariables false

set_option maxHeartbeats 1000000 in
set_option maxRecDepth 100000 in
/-- Tree.Len. -/
theorem tlen_any (E : Env) (v : Value) (ls : List ByteArray) (w : World) (h : Tr E w v ls) :
    Calls Tryd.prog 35 #[.agg #[v]] w fun e w' => e = .returned (.int .i64 (ls.length : Nat)) ∧ Below w.heap.size w w' := by
  have b0 : Below w.heap.size w (w.alloc (Obj.cells #[v] 61)) := (Below.refl _ _).alloc (Nat.le_refl _) _
  rcases h with ⟨rfl, rfl⟩ | ⟨d, g, rfl, h⟩
  · go_enter Tryd.func35, Tryd.ntmps35
    go_wp2
    go_ret
    exact ⟨rfl, b0⟩
  · have c1 := cell_after h.cells.2.1 b0
    clear h
    go_enter Tryd.func35, Tryd.ntmps35
    go_wp2
    go_ret
    exact ⟨rfl, b0⟩

/-- A place, held into a row. -/
def hld (at0 : Int) (n : Nat) : Nat := min at0.toNat n
set_option maxHeartbeats 1000000 in
set_option maxRecDepth 100000 in
/-- Tree.held. -/
theorem held_any (E : Env) (v : Value) (ls : List ByteArray) (at0 : Int) (w : World) (h : Tr E w v ls) :
    Calls Tryd.prog 63 #[.agg #[v], .int .i64 at0] w fun e w' => e = .returned (.int .i64 (hld at0 ls.length : Nat)) ∧ Below w.heap.size w w' := by
  have b0 : Below w.heap.size w (w.alloc (Obj.cells #[v] 61)) := (Below.refl _ _).alloc (Nat.le_refl _) _
  have HL : Hid (Calls Tryd.prog 35 #[.agg #[v]] (w.alloc (Obj.cells #[v] 61)) fun e w' => e = .returned (.int .i64 (ls.length : Nat)) ∧ Below (w.alloc (Obj.cells #[v] 61)).heap.size (w.alloc (Obj.cells #[v] 61)) w') := tlen_any E v ls _ (h.later b0)
  clear h
  have hc : (at0 < 0 ∧ Hid (hld at0 ls.length = 0)) ∨ (∃ a : Nat, at0 = (a : Nat) ∧ ls.length < a ∧ Hid (hld at0 ls.length = ls.length)) ∨ (∃ a : Nat, at0 = (a : Nat) ∧ a ≤ ls.length ∧ Hid (hld at0 ls.length = a)) := by
    rcases (by omega : at0 < 0 ∨ 0 ≤ at0) with h0 | h0
    · exact Or.inl ⟨h0, by show hld _ _ = _; unfold hld; omega⟩
    · obtain ⟨a, rfl⟩ := Int.eq_ofNat_of_zero_le h0
      rcases Nat.lt_or_ge ls.length a with h1 | h1
      · exact Or.inr (Or.inl ⟨a, rfl, h1, by show hld _ _ = _; unfold hld; omega⟩)
      · exact Or.inr (Or.inr ⟨a, rfl, h1, by show hld _ _ = _; unfold hld; omega⟩)
  rcases hc with ⟨h0, H⟩ | ⟨a, rfl, h1, H⟩ | ⟨a, rfl, h1, H⟩
  · rw [H.out]
    clear H
    have hn : ¬ ((ls.length : Int) < 0) := by omega
    go_enter Tryd.func63, Tryd.ntmps63
    go_wp2_with fail
    refine HL.out.mono ?_
    rintro e w1 ⟨rfl, b1⟩
    clear HL
    go_wp2
    go_ret
    exact ⟨rfl, b0.trans (b1.mono b0.size)⟩
  · rw [H.out]
    clear H
    have hn : ¬ ((a : Int) < 0) := by omega
    have h2 : (ls.length : Int) < (a : Int) := by omega
    go_enter Tryd.func63, Tryd.ntmps63
    go_wp2_with fail
    refine HL.out.mono ?_
    rintro e w1 ⟨rfl, b1⟩
    clear HL
    go_wp2
    go_ret
    exact ⟨rfl, b0.trans (b1.mono b0.size)⟩
  · rw [H.out]
    clear H
    have hn : ¬ ((a : Int) < 0) := by omega
    have h2 : ¬ ((ls.length : Int) < (a : Int)) := by omega
    have h3 : ¬ (ls.length < a) := by omega
    go_enter Tryd.func63, Tryd.ntmps63
    go_wp2_with fail
    refine HL.out.mono ?_
    rintro e w1 ⟨rfl, b1⟩
    clear HL
    go_wp2
    go_ret
    exact ⟨rfl, b0.trans (b1.mono b0.size)⟩

set_option maxHeartbeats 1000000 in
set_option maxRecDepth 100000 in
theorem head_tr (E : Env) (v : Value) (ls : List ByteArray) (at0 : Int) (w : World) (h : Tr E w v ls) (hl : ls.length ≤ 1099511627776) :
    Calls Tryd.prog 62 #[v, .int .i64 at0] w fun e w' => ∃ v1, e = .returned v1 ∧ Tr E w' v1 (ls.take at0.toNat) ∧ Below w.heap.size w w' := by
  rcases h with ⟨rfl, rfl⟩ | ⟨d, g, rfl, h⟩
  · go_enter Tryd.func62, Tryd.ntmps62
    go_wp2
    go_ret
    exact ⟨_, rfl, Or.inl ⟨rfl, by simp⟩, Below.refl _ _⟩
  · exact head_nd E d g ls at0 w h hl
set_option maxHeartbeats 1000000 in
set_option maxRecDepth 100000 in
theorem tail_tr (E : Env) (v : Value) (ls : List ByteArray) (at0 : Int) (w : World) (h : Tr E w v ls) (hl : ls.length ≤ 1099511627776) :
    Calls Tryd.prog 61 #[v, .int .i64 at0] w fun e w' => ∃ v1, e = .returned v1 ∧ Tr E w' v1 (ls.drop at0.toNat) ∧ Below w.heap.size w w' := by
  rcases h with ⟨rfl, rfl⟩ | ⟨d, g, rfl, h⟩
  · go_enter Tryd.func61, Tryd.ntmps61
    go_wp2
    go_ret
    exact ⟨_, rfl, Or.inl ⟨rfl, by simp⟩, Below.refl _ _⟩
  · exact tail_nd E d g ls at0 w h hl

set_option maxHeartbeats 4000000 in
set_option maxRecDepth 100000 in
/-- Tree.Slice. -/
theorem tslice_any (E : Env) (v : Value) (ls : List ByteArray) (from0 to0 : Int) (f t : Nat) (w : World) (h : Tr E w v ls) (hl : ls.length ≤ 1099511627776) (hfe : hld from0 ls.length = f) (hte : hld to0 ls.length = t) :
    Calls Tryd.prog 44 #[.agg #[v], .int .i64 from0, .int .i64 to0] w fun e w' => ∃ v', e = .returned (.agg #[v']) ∧ Tr E w' v' ((ls.drop f).take (t - f)) ∧ Below w.heap.size w w' := by
  obtain ⟨u, rfl⟩ := h.ptr
  have b0 : Below w.heap.size w ((w.alloc (Obj.cells #[.pointer u] 61)).alloc (Obj.cells #[.pointer none] 61)) := ((Below.refl _ _).alloc (Nat.le_refl _) _).alloc (by simp) _
  have R0 : Hid (Rt 61 ((w.alloc (Obj.cells #[.pointer u] 61)).alloc (Obj.cells #[.pointer none] 61)) w.heap.size #[.pointer u]) := (Rt.new _ w _).alloc _
  have R1 : Hid (Rt 61 ((w.alloc (Obj.cells #[.pointer u] 61)).alloc (Obj.cells #[.pointer none] 61)) (w.heap.size + 1) #[.pointer none]) := Rt.new' (by simp) _
  have HT := Hid.mk4 (h.later b0)
  have H1 : Hid (∀ W, Tr E W (.pointer u) ls → Calls Tryd.prog 63 #[.agg #[.pointer u], .int .i64 from0] W fun e w' => e = .returned (.int .i64 (f : Nat)) ∧ Below W.heap.size W w') := fun W hW => by rw [← hfe]; exact held_any E _ ls from0 W hW
  have H2 : Hid (∀ W, Tr E W (.pointer u) ls → Calls Tryd.prog 63 #[.agg #[.pointer u], .int .i64 to0] W fun e w' => e = .returned (.int .i64 (t : Nat)) ∧ Below W.heap.size W w') := fun W hW => by rw [← hte]; exact held_any E _ ls to0 W hW
  have hf : f ≤ ls.length := by unfold hld at hfe; omega
  have ht : t ≤ ls.length := by unfold hld at hte; omega
  clear hfe hte h
  go_enter Tryd.func44, Tryd.ntmps44
  go_wp2
  have ka := cell_regrown (R0.out.cell 0)
  refine wp_region_mix [([0, 1, 2, 3, 6, 7], [4]), ([], [5]), ([], [8]), ([], [9]), ([], [10]), ([], [11])] (by kernel_rfl) (by kernel_rfl) ?_
  rintro w2 ⟨d2, rfl⟩
  refine wpPlan_cons ?_
  simp only [pickAll, pickAt, List.nil_append, List.cons_append, List.append_nil]
  repeat (go_big_quiet_step (fail))
  refine wpQuiet_nil ?_
  clear ka
  go_wp2_with fail
  refine (H2.out _ (HT.out.later (below_redrawn ((w.alloc (Obj.cells #[.pointer u] 61)).alloc (Obj.cells #[.pointer none] 61)) d2))).mono ?_
  rintro e w3 ⟨rfl, b3⟩
  have b13 : Below ((w.alloc (Obj.cells #[.pointer u] 61)).alloc (Obj.cells #[.pointer none] 61)).heap.size ((w.alloc (Obj.cells #[.pointer u] 61)).alloc (Obj.cells #[.pointer none] 61)) w3 := (below_redrawn ((w.alloc (Obj.cells #[.pointer u] 61)).alloc (Obj.cells #[.pointer none] 61)) d2).trans b3
  clear b3 H2
  go_wp2
  refine mixNext_below b13 ?_
  refine wpPlan_cons ?_
  simp only [pickAll, pickAt, List.nil_append, List.cons_append, List.append_nil]
  refine wpQuiet_nil ?_
  go_wp2_with fail
  refine (head_tr E (.pointer u) ls (t : Nat) w3 (HT.out.later b13) hl).mono ?_
  rintro e w4 ⟨v4, rfl, h4, b4⟩
  rw [Int.toNat_natCast] at h4
  have H4 := Hid.mk4 h4
  have b14 : Below ((w.alloc (Obj.cells #[.pointer u] 61)).alloc (Obj.cells #[.pointer none] 61)).heap.size ((w.alloc (Obj.cells #[.pointer u] 61)).alloc (Obj.cells #[.pointer none] 61)) w4 := b13.trans (b4.mono b13.size)
  clear h4 b4 b13
  go_wp2
  refine mixNext_below b14 ?_
  refine wpPlan_cons ?_
  simp only [pickAll, pickAt, List.nil_append, List.cons_append, List.append_nil]
  refine wpQuiet_nil ?_
  go_wp2_with fail
  refine (H1.out _ (HT.out.later b14)).mono ?_
  rintro e w5 ⟨rfl, b5⟩
  have H5 := Hid.mk4 (H4.out.later b5)
  have b15 : Below ((w.alloc (Obj.cells #[.pointer u] 61)).alloc (Obj.cells #[.pointer none] 61)).heap.size ((w.alloc (Obj.cells #[.pointer u] 61)).alloc (Obj.cells #[.pointer none] 61)) w5 := b14.trans (b5.mono b14.size)
  clear b5 b14 H4 H1
  go_wp2
  refine mixNext_below b15 ?_
  refine wpPlan_cons ?_
  simp only [pickAll, pickAt, List.nil_append, List.cons_append, List.append_nil]
  refine wpQuiet_nil ?_
  go_wp2_with fail
  refine (tail_tr E v4 (ls.take t) (f : Nat) w5 H5.out (by rw [List.length_take]; omega)).mono ?_
  rintro e w6 ⟨v6, rfl, h6, b6⟩
  rw [Int.toNat_natCast, List.drop_take] at h6
  obtain ⟨u6, rfl⟩ := h6.ptr
  have H6 := Hid.mk4 h6
  have b16 : Below ((w.alloc (Obj.cells #[.pointer u] 61)).alloc (Obj.cells #[.pointer none] 61)).heap.size ((w.alloc (Obj.cells #[.pointer u] 61)).alloc (Obj.cells #[.pointer none] 61)) w6 := b15.trans (b6.mono b15.size)
  clear h6 b6 b15 H5
  go_wp2
  refine mixNext_below b16 ?_
  refine wpPlan_cons ?_
  simp only [pickAll, pickAt, List.nil_append, List.cons_append, List.append_nil]
  refine wpQuiet_nil ?_
  go_wp2
  refine mixNext_below b16 ?_
  refine wpPlan_cons ?_
  simp only [pickAll, pickAt, List.nil_append, List.cons_append, List.append_nil]
  refine wpQuiet_nil ?_
  have QC := Hid.mk4 (R1.out.later' b16)
  have gq := b0.trans (b16.mono b0.size)
  have fz := QC.out.fz
  have cz := QC.out.cell 0
  have hlt := QC.out.lt
  clear R0 R1 b0 b16 HT
  go_wp2
  refine mixNext_last ?_
  have gz : Below w.heap.size w (w6.setCell ⟨w.heap.size + 1, 0, none⟩ (.pointer u6)) := gq.setCell (p := ⟨w.heap.size + 1, 0, none⟩) (by simp) _
  have HTZ := Hid.mk4 (H6.out.putT QC.out (.pointer u6))
  have HRZ := Hid.mk4 (QC.out.set1 (.pointer u6))
  clear QC gq fz cz hlt H6
  generalize w6.setCell ⟨w.heap.size + 1, 0, none⟩ (.pointer u6) = w12 at *
  go_wp2
  refine bodyPost_ret (results_tree rfl _ _ (w.heap.size + 1) _ rfl HRZ.out) rfl ⟨_, rfl, HTZ.out, gz⟩

set_option maxHeartbeats 1000000 in
set_option maxRecDepth 100000 in
/-- Tree.Join. -/
theorem tjoin_any (E : Env) (va vb : Value) (la lb : List ByteArray) (w : World) (hA : Tr E w va la) (hB : Tr E w vb lb) (hl : la.length + lb.length ≤ 1099511627776) :
    Calls Tryd.prog 58 #[.agg #[va], .agg #[vb]] w fun e w' => ∃ v, e = .returned (.agg #[v]) ∧ Tr E w' v (la ++ lb) ∧ Below w.heap.size w w' := by
  have b0 : Below w.heap.size w (((w.alloc (Obj.cells #[va] 61)).alloc (Obj.cells #[vb] 61)).alloc (Obj.cells #[.pointer none] 61)) :=
    (((Below.refl _ _).alloc (Nat.le_refl _) _).alloc (by simp) _).alloc (by simp <;> omega) _
  have HA := Hid.mk4 (hA.later b0)
  have HB := Hid.mk4 (hB.later b0)
  clear hA hB
  go_enter Tryd.func58, Tryd.ntmps58
  go_wp2_with fail
  refine (join_any E va vb la lb _ HA.out HB.out hl).mono ?_
  rintro e w1 ⟨v, rfl, hv, b1⟩
  obtain ⟨v, rfl⟩ := hv.ptr
  have r1 : Rt 61 w1 (w.heap.size + 1 + 1) #[.pointer none] := (Rt.new' (by simp) _).later b1 (by simp)
  have R1 := Hid.mk4 r1
  have HV := Hid.mk4 hv
  have fz := r1.fz
  have c0 := r1.cell 0
  have hlt := r1.lt
  have g1 := b0.trans (b1.mono b0.size)
  clear r1 hv b0 b1
  go_wp2
  have g5 : Below w.heap.size w (w1.setCell ⟨w.heap.size + 1 + 1, 0, none⟩ (.pointer v)) := g1.setCell (p := ⟨w.heap.size + 1 + 1, 0, none⟩) (by simp <;> omega) _
  exact bodyPost_ret (results_tree rfl _ _ (w.heap.size + 1 + 1) _ rfl (R1.out.set1 _)) rfl ⟨_, rfl, HV.out.putT R1.out _, g5⟩
end Go.Proofs.YtfgefdkkjfjjjaaDoor
namespace Go.Proofs.YtfgefdkkjfjjjaaDoor
open Go.RowKit Go.Sort
set_option linter.unusedSimpArgs false
set_option linter.unusedVariables false

theorem Tryd.info_chunk : (Tryd.prog.info? 73).map (fun i => (i.zero, i.size, i.bytes)) = some (some (.string ⟨#[]⟩), 1, 16) := by kernel_rfl
theorem own_mono {w : World} {B B' n size : Nat} {e : TypeId} {v : Value} {xs : List Value} (h : w.ownsRow B e size v n xs) (hb : B' ≤ B) : w.ownsRow B' e size v n xs := by
  refine ⟨h.1, h.2.imp id ?_⟩
  rintro ⟨g, cap, cur, h1, h2, h3⟩
  exact ⟨g, cap, cur, h1, Nat.le_trans hb h2, h3⟩
theorem cell_of_below {w w' : World} {B b o : Nat} {v : Value} (h : w.cell? ⟨b, o, none⟩ = some v) (hb : Below B w w') (hl : b < B) : w'.cell? ⟨b, o, none⟩ = some v := cell_same h (hb.block b hl)
theorem NdA.gA {E : Env} {A : Nat → Prop} {w : World} : ∀ {d g : Nat} {ls : List ByteArray}, NdA E A w d g ls → A g
  | 0, _, _, h => h.1
  | _ + 1, _, _, h => h.1
theorem NdA.kidsA {E : Env} {A : Nat → Prop} {w : World} {d g : Nat} {ls : List ByteArray} (h : NdA E A w (d + 1) g ls) : ∃ (ks : List (Nat × List ByteArray)) (kb off cap : Nat), A kb ∧ 2 ≤ ks.length ∧ ks.length ≤ 3 ∧ (∀ k ∈ ks, NdA E A w d k.1 k.2) ∧ ls = ks.flatMap Prod.snd ∧
      w.cell? ⟨g, 7, none⟩ = some (.slice (some ⟨kb, off, none⟩) ks.length cap) ∧ Ptrs w kb off (ks.map Prod.fst) := by
  obtain ⟨_, ks, kb, off, cap, hkb, hc, h2, h3, hk, e, ⟨_, _, _, _, _, _, hr, _⟩, hp⟩ := h
  exact ⟨ks, kb, off, cap, hkb, h2, h3, hk, e, hr.cell 7, hp⟩

set_option maxHeartbeats 2000000 in
set_option maxRecDepth 100000 in
/-- leaves, of a node. -/
theorem leaves_nd (E : Env) (B : Nat) : ∀ (d g : Nat) (ls : List ByteArray) (v : Value) (n : Nat) (xs : List Value) (w : World), NdA E (· < B) w d g ls → w.ownsRow B 73 1 v n xs → B ≤ w.heap.size → n + ls.length ≤ 1099511627776 →
    Calls Tryd.prog 52 #[.pointer (some ⟨g, 0, none⟩), v] w fun e w' => ∃ v', e = .returned v' ∧ w'.ownsRow B 73 1 v' (n + ls.length) (xs ++ ls.map Value.string) ∧ Below B w w' := by
  obtain ⟨i0, hi, hz0, hz1, hz2⟩ := info_parts Tryd.info_chunk
  intro d
  induction d with
  | zero =>
    intro g ls v n xs w hN hO hB hl
    obtain ⟨s, hs, c6, c7⟩ := NdA.leaf hN
    have HO := Hid.mk4 hO
    subst hs
    simp only [List.length_cons, List.length_nil, Nat.zero_add] at hl ⊢
    clear hN hO
    go_enter Tryd.func52, Tryd.ntmps52
    go_wp2_with (at_builtin; refine wpList_append_own _ rfl _ _ 75 rfl B 73 i0 (.string ⟨#[]⟩) 1 16 Tryd.underlying75 hi hz0 hz1 hz2 rfl (by decide) _ _ _ rfl (HO.out.alloc _) ⟨w.heap.size, 0, none⟩ 1 1 [.string s] rfl rfl (cell_one_new _ _ _) ?c2 ?c3 ?c4 ?c5 ?_)
    case c2 => intro u hu; simp at hu; subst hu; rfl
    case c3 => unfold maxLen; omega
    case c4 => omega
    case c5 => simp; omega
    intro v' w2 hown' hgrow _
    have HO2 := Hid.mk4 hown'
    have b2 : Below B w w2 := ((Below.refl B w).alloc hB _).grown hgrow (by simp; omega) (fun k hk => by have := HO.out.lt _ hk; omega)
    clear hown' hgrow HO
    go_wp2
    go_ret
    exact ⟨_, rfl, by simpa using HO2.out, b2⟩
  | succ d ih =>
    intro g ls v n xs w hN hO hB hl
    obtain ⟨ks, kb, off, cap, hkb, h2, h3, hk, hfl, c7, hp⟩ := NdA.kidsA hN
    have hgB := NdA.gA hN
    have HO := Hid.mk4 hO
    have HK := Hid.mk4 hk
    have HP := Hid.mk4 hp
    subst hfl
    have HL := Hid.mk4 hl
    have HIH := Hid.mk4 ih
    have e0 : (ks.length == 0) = false := by simp; intro e; rw [e] at h2; simp at h2
    have i0' : ((ks.length : Int) == 0) = false := by simp; intro e; rw [e] at h2; simp at h2
    clear hN hO hk hp hl ih
    go_enter Tryd.func52, Tryd.ntmps52
    go_wp2
    go_loopw [1, 28] (fun l ii wr => ∃ (i : Nat), ii = .int .i64 (i : Nat) ∧ i ≤ ks.length ∧ Hid (wr.ownsRow B 73 1 l (n + ((ks.take i).flatMap Prod.snd).length) (xs ++ ((ks.take i).flatMap Prod.snd).map Value.string)) ∧ Below B w wr ∧ B ≤ wr.heap.size) (fun _ ii _ => ks.length - (intOf ii).toNat)
    case atStart => exact ⟨0, rfl, by omega, by show World.ownsRow _ _ _ _ _ _ _; simpa using HO.out, Below.refl _ _, hB⟩
    case round =>
      obtain ⟨i, rfl, hi', HOi, hb, hBr⟩ := hrel
      clear c7
      by_cases hlt : i < ks.length
      · obtain ⟨k, hk⟩ : ∃ k, ks[i]? = some k := ⟨ks[i], List.getElem?_eq_getElem hlt⟩
        have pk : wr.cell? ⟨kb, off + i, none⟩ = some (.pointer (some ⟨k.1, 0, none⟩)) := cell_of_below (HP.out i _ (by simp [hk])) hb hkb
        have HT := Hid.mk4 (take_flat hk)
        have hbd := take_flat_le ks (i + 1)
        rw [HT.out, List.length_append] at hbd
        have HC := Hid.mk4 (HIH.out k.1 k.2 u1 _ _ wr ((HK.out k (List.mem_of_getElem? hk)).keep fun b hb' _ => hb.block b hb') HOi.out hBr (by have := HL.out; omega))
        clear hk hbd
        go_wp2_with fail
        refine HC.out.mono ?_
        rintro e w2 ⟨v2, rfl, ho2, b2⟩
        have HO2 : Hid (w2.ownsRow B 73 1 v2 (n + ((ks.take (i + 1)).flatMap Prod.snd).length) (xs ++ ((ks.take (i + 1)).flatMap Prod.snd).map Value.string)) := by
          show World.ownsRow _ _ _ _ _ _ _
          rw [HT.out]
          simpa [Nat.add_assoc, List.append_assoc] using ho2
        have hB2 : B ≤ w2.heap.size := Nat.le_trans hBr b2.size
        have bb2 : Below B w w2 := hb.trans b2
        clear ho2 HC HOi b2 hb
        go_wp2
        go_roundw
        case rel => exact ⟨i + 1, by go_num, by omega, HO2, bb2, hB2⟩
        case measure => simp [intOf]; omega
      · obtain rfl : i = ks.length := by omega
        have HO' := HOi.out
        rw [List.take_length] at HO'
        have HO2 := Hid.mk4 HO'
        clear HO' HOi
        go_wp2
        go_ret
        exact ⟨_, rfl, HO2.out, hb⟩

set_option maxHeartbeats 1000000 in
set_option maxRecDepth 100000 in
theorem leaves_nil (w : World) (v : Value) : Calls Tryd.prog 52 #[.pointer none, v] w fun e w' => e = .returned v ∧ w' = w := by
  go_enter Tryd.func52, Tryd.ntmps52
  go_wp2
  go_ret
  exact ⟨rfl, rfl⟩

set_option maxHeartbeats 2000000 in
set_option maxRecDepth 100000 in
/-- Tree.All. -/
theorem tall_any (E : Env) (v : Value) (ls : List ByteArray) (w : World) (h : Tr E w v ls) (hl : ls.length ≤ 1099511627776) :
    Calls Tryd.prog 36 #[.agg #[v]] w fun e w' => ∃ v', e = .returned v' ∧ w'.ownsRow w.heap.size 73 1 v' ls.length (ls.map Value.string) ∧ Below w.heap.size w w' := by
  obtain ⟨i0, hi, hz0, hz1, hz2⟩ := info_parts Tryd.info_chunk
  have b0 : Below w.heap.size w (w.alloc (Obj.cells #[v] 61)) := (Below.refl _ _).alloc (Nat.le_refl _) _
  have HT := Hid.mk4 h
  obtain ⟨u, rfl⟩ := h.ptr
  clear h
  go_enter Tryd.func36, Tryd.ntmps36
  go_wp2
  have hbox : (w.alloc (Obj.cells #[.pointer u] 61)).cell? ⟨w.heap.size, 0, none⟩ = some (.pointer u) := (Rt.new 61 w _).cell 0
  generalize w.alloc (Obj.cells #[.pointer u] 61) = w1 at *
  have kb := cell_regrown hbox
  refine wp_region_mix [([0, 1, 2], [3]), ([], [4]), ([], [5]), ([6], [])] (by kernel_rfl) (by kernel_rfl) ?_
  rintro w2 ⟨d2, rfl⟩
  refine wpPlan_cons ?_
  simp only [pickAll, pickAt, List.nil_append, List.cons_append, List.append_nil]
  repeat (go_big_quiet_step (fail))
  refine wpQuiet_nil ?_
  clear kb hbox
  go_wp2_with fail
  refine (tlen_any E _ ls (redrawn w1 d2) ((HT.out.later b0).later (below_redrawn w1 d2))).mono ?_
  rintro e w3 ⟨rfl, b3⟩
  have b13 : Below w1.heap.size w1 w3 := (below_redrawn w1 d2).trans b3
  have g3 := b0.trans (b13.mono b0.size)
  clear b3
  go_wp2
  refine mixNext_below b13 ?_
  refine wpPlan_cons ?_
  simp only [pickAll, pickAt, List.nil_append, List.cons_append, List.append_nil]
  refine wpQuiet_nil ?_
  go_wp2_with (at_make; refine wpList_make_own _ rfl _ _ 75 rfl w1.heap.size 73 i0 (.string ⟨#[]⟩) 1 Tryd.underlying75 hi hz0 hz1 .i64 .i64 _ ls.length rfl rfl rfl ?m1 ?m2 ?m3 ?_)
  case m1 => rw [hz2]; omega
  case m2 => unfold maxLen; omega
  case m3 => exact b13.size
  intro w4 ho4 hg4
  have HO4 := Hid.mk4 ho4
  have b14 : Below w1.heap.size w1 w4 := b13.grown hg4 b13.size (fun k hk => by cases hk)
  have g4 : Below w.heap.size w w4 := b0.trans (b14.mono b0.size)
  clear ho4 hg4 b13 g3
  go_wp2
  refine mixNext_below b14 ?_
  refine wpPlan_cons ?_
  simp only [pickAll, pickAt, List.nil_append, List.cons_append, List.append_nil]
  refine wpQuiet_nil ?_
  rcases HT.out with ⟨e, rfl⟩ | ⟨d, g, e, hN⟩
  · cases e
    go_wp2_with fail
    refine (leaves_nil w4 _).mono ?_
    rintro e w5 ⟨rfl, rfl⟩
    go_wp2
    refine mixNext_below b14 ?_
    refine wpPlan_cons ?_
    simp only [pickAll, pickAt, List.nil_append, List.cons_append, List.append_nil]
    repeat (go_big_quiet_step (fail))
    refine wpQuiet_nil ?_
    refine mixNext_below b14 (wpPlan_nil ?_)
    go_wp2
    go_ret
    exact ⟨_, rfl, by simpa using own_mono HO4.out b0.size, g4⟩
  · cases e
    have hN1 : NdA E (· < w1.heap.size) w1 d g ls := (hN.later b0).old fun b hb => hb
    have HNn := Hid.mk4 (hN1.keep fun b hb _ => b14.block b hb)
    clear hN hN1
    go_wp2_with fail
    refine (leaves_nd E w1.heap.size d g ls _ 0 [] w4 HNn.out HO4.out b14.size (by omega)).mono ?_
    rintro e w5 ⟨v5, rfl, ho5, b5⟩
    have HO5 := Hid.mk4 ho5
    have b15 : Below w1.heap.size w1 w5 := b14.trans b5
    have g5 : Below w.heap.size w w5 := b0.trans (b15.mono b0.size)
    clear ho5 b5
    go_wp2
    refine mixNext_below b15 ?_
    refine wpPlan_cons ?_
    simp only [pickAll, pickAt, List.nil_append, List.cons_append, List.append_nil]
    repeat (go_big_quiet_step (fail))
    refine wpQuiet_nil ?_
    refine mixNext_below b15 (wpPlan_nil ?_)
    go_wp2
    go_ret
    exact ⟨_, rfl, by simpa using own_mono HO5.out b0.size, g5⟩
end Go.Proofs.YtfgefdkkjfjjjaaDoor
namespace Go.Proofs.YtfgefdkkjfjjjaaDoor
open Go.RowKit Go.Sort
set_option linter.unusedSimpArgs false
set_option linter.unusedVariables false

/-- The counts that a tree bears. -/
def SumIs (w : World) (v : Value) (x0 x1 x2 x3 : Int) : Prop := (v = .pointer none ∧ x0 = 0 ∧ x1 = 0 ∧ x2 = 0 ∧ x3 = 0) ∨
  ∃ g, v = .pointer (some ⟨g, 0, none⟩) ∧ w.cell? ⟨g, 2, none⟩ = some (.int .i64 x0) ∧ w.cell? ⟨g, 3, none⟩ = some (.int .i64 x1) ∧ w.cell? ⟨g, 4, none⟩ = some (.int .i64 x2) ∧ w.cell? ⟨g, 5, none⟩ = some (.int .i64 x3)
theorem SumIs.later {w w' : World} {v : Value} {x0 x1 x2 x3 : Int} (h : SumIs w v x0 x1 x2 x3) (hb : Below w.heap.size w w') : SumIs w' v x0 x1 x2 x3 := by
  rcases h with h | ⟨g, e, h2, h3, h4, h5⟩
  · exact Or.inl h
  · exact Or.inr ⟨g, e, cell_after h2 hb, cell_after h3 hb, cell_after h4 hb, cell_after h5 hb⟩
theorem Tr.sum {E : Env} {w : World} {v : Value} {ls : List ByteArray} (h : Tr E w v ls) : ∃ x0 x1 x2 x3, E.KR ls x0 x1 x2 x3 ∧ SumIs w v x0 x1 x2 x3 := by
  rcases h with ⟨e, rfl⟩ | ⟨d, g, e, h⟩
  · exact ⟨0, 0, 0, 0, E.zero, Or.inl ⟨e, rfl, rfl, rfl, rfl⟩⟩
  · obtain ⟨_, _, x0, x1, x2, x3, hk, h2, h3, h4, h5⟩ := h.cells
    exact ⟨x0, x1, x2, x3, hk, Or.inr ⟨g, e, h2, h3, h4, h5⟩⟩

set_option maxHeartbeats 1000000 in
set_option maxRecDepth 100000 in
/-- sumOf, of all leaves. -/
theorem sumof_all (E : Env) (d g : Nat) (ls : List ByteArray) (x0 x1 x2 x3 : Int) (w : World) (h : Nd E w d g ls) (h2 : w.cell? ⟨g, 2, none⟩ = some (.int .i64 x0)) (h3 : w.cell? ⟨g, 3, none⟩ = some (.int .i64 x1)) (h4 : w.cell? ⟨g, 4, none⟩ = some (.int .i64 x2)) (h5 : w.cell? ⟨g, 5, none⟩ = some (.int .i64 x3)) :
    Calls Tryd.prog 66 #[.pointer (some ⟨g, 0, none⟩), .int .i64 0, .int .i64 (ls.length : Nat)] w fun e w' => e = .returned (.agg #[.int .i64 x0, .int .i64 x1, .int .i64 x2, .int .i64 x3]) ∧ Below w.heap.size w w' := by
  have b0 : Below w.heap.size w ((w.alloc (Obj.cells #[.int .i64 0, .int .i64 0, .int .i64 0, .int .i64 0] 74)).alloc (Obj.cells #[.int .i64 0, .int .i64 0, .int .i64 0, .int .i64 0] 74)) := ((Below.refl _ _).alloc (Nat.le_refl _) _).alloc (by simp) _
  have hge := h.ge
  have c1 := cell_after h.cells.2.1 b0
  have c2 := cell_after h2 b0
  have c3 := cell_after h3 b0
  have c4 := cell_after h4 b0
  have c5 := cell_after h5 b0
  have r0 : Rt 74 ((w.alloc (Obj.cells #[.int .i64 0, .int .i64 0, .int .i64 0, .int .i64 0] 74)).alloc (Obj.cells #[.int .i64 0, .int .i64 0, .int .i64 0, .int .i64 0] 74)) w.heap.size #[.int .i64 0, .int .i64 0, .int .i64 0, .int .i64 0] := (Rt.new _ w _).alloc _
  clear h h2 h3 h4 h5 r0
  obtain ⟨n, hn⟩ : ∃ n, ls.length = n := ⟨_, rfl⟩
  rw [hn] at c1 hge ⊢
  have t0 : 0 < n := by omega
  have t1 : (0 : Int) < (n : Int) := by omega
  have t2 : ¬ ((n : Int) ≤ 0) := by omega
  have t3 : decide (n = 0) = false := by simp; omega
  have t4 : n ≠ 0 := by omega
  clear hn hge
  go_enter Tryd.func66, Tryd.ntmps66
  go_wp2
  refine bodyPost_ret (results_counts rfl _ _ w.heap.size _ _ _ _ rfl ((Rt.new _ w _).alloc _)) rfl ⟨rfl, ((Below.refl _ _).alloc (Nat.le_refl _) _).alloc (by simp) _⟩

set_option maxHeartbeats 2000000 in
set_option maxRecDepth 100000 in
/-- Tree.Sum, of all leaves. -/
theorem tsum_all (E : Env) (v : Value) (ls : List ByteArray) (x0 x1 x2 x3 : Int) (w : World) (h : Tr E w v ls) (hS : SumIs w v x0 x1 x2 x3) :
    Calls Tryd.prog 54 #[.agg #[v], .int .i64 0, .int .i64 (ls.length : Nat)] w fun e w' => e = .returned (.agg #[.int .i64 x0, .int .i64 x1, .int .i64 x2, .int .i64 x3]) ∧ Below w.heap.size w w' := by
  have b0 : Below w.heap.size w (((w.alloc (Obj.cells #[v] 61)).alloc (Obj.cells #[.int .i64 0, .int .i64 0, .int .i64 0, .int .i64 0] 74)).alloc (Obj.cells #[.int .i64 0, .int .i64 0, .int .i64 0, .int .i64 0] 74)) :=
    (((Below.refl _ _).alloc (Nat.le_refl _) _).alloc (by simp) _).alloc (by simp <;> omega) _
  have r0 : Rt 74 (((w.alloc (Obj.cells #[v] 61)).alloc (Obj.cells #[.int .i64 0, .int .i64 0, .int .i64 0, .int .i64 0] 74)).alloc (Obj.cells #[.int .i64 0, .int .i64 0, .int .i64 0, .int .i64 0] 74)) (w.heap.size + 1) #[.int .i64 0, .int .i64 0, .int .i64 0, .int .i64 0] := (Rt.new' (by simp) _).alloc _
  have R0 := Hid.mk4 r0
  have fz := r0.fz
  have z0 := r0.cell 0; have z1 := r0.cell 1; have z2 := r0.cell 2; have z3 := r0.cell 3
  rcases hS with ⟨rfl, rfl, rfl, rfl, rfl⟩ | ⟨g, rfl, h2, h3, h4, h5⟩
  · clear h r0 z0 z1 z2 z3 fz
    go_enter Tryd.func54, Tryd.ntmps54
    go_wp2
    refine bodyPost_ret (results_counts rfl _ _ (w.heap.size + 1) _ _ _ _ rfl ((Rt.new' (by simp) _).alloc _)) rfl ⟨rfl, b0⟩
  · have HT := Hid.mk4 h
    have H2 := Hid.mk4 h2; have H3 := Hid.mk4 h3; have H4 := Hid.mk4 h4; have H5 := Hid.mk4 h5
    have hn : 0 < ls.length := by
      rcases h with ⟨e, _⟩ | ⟨d, g, e, h⟩
      · cases e
      · have := h.ge; omega
    clear h h2 h3 h4 h5 r0 z0 z1 z2 z3 fz
    go_enter Tryd.func54, Tryd.ntmps54
    go_wp2
    have hbox : (((w.alloc (Obj.cells #[.pointer (some ⟨g, 0, none⟩)] 61)).alloc (Obj.cells #[.int .i64 0, .int .i64 0, .int .i64 0, .int .i64 0] 74)).alloc (Obj.cells #[.int .i64 0, .int .i64 0, .int .i64 0, .int .i64 0] 74)).cell? ⟨w.heap.size, 0, none⟩ = some (.pointer (some ⟨g, 0, none⟩)) := (((Rt.new 61 w _).alloc _).alloc _).cell 0
    generalize (((w.alloc (Obj.cells #[.pointer (some ⟨g, 0, none⟩)] 61)).alloc (Obj.cells #[.int .i64 0, .int .i64 0, .int .i64 0, .int .i64 0] 74)).alloc (Obj.cells #[.int .i64 0, .int .i64 0, .int .i64 0, .int .i64 0] 74)) = w1 at *
    have kb := cell_regrown hbox
    have C1 : Hid (∀ d os, Calls Tryd.prog 63 #[.agg #[.pointer (some ⟨g, 0, none⟩)], .int .i64 0] (grow (redrawn w1 d) os) fun e w'' => e = .returned (.int .i64 0) ∧ ∃ p : Regrown, w'' = grow (redrawn w1 p.d) p.os) := fun d os => by
      have := held_any E _ ls 0 (grow (redrawn w1 d) os) ((HT.out.later b0).later (below_regrown w1 d os))
      rw [show hld 0 ls.length = 0 from by unfold hld; omega] at this
      exact Calls.regrown_of this
    have C2 : Hid (∀ d os, Calls Tryd.prog 63 #[.agg #[.pointer (some ⟨g, 0, none⟩)], .int .i64 (ls.length : Nat)] (grow (redrawn w1 d) os) fun e w'' => e = .returned (.int .i64 (ls.length : Nat)) ∧ ∃ p : Regrown, w'' = grow (redrawn w1 p.d) p.os) := fun d os => by
      have := held_any E _ ls (ls.length : Nat) (grow (redrawn w1 d) os) ((HT.out.later b0).later (below_regrown w1 d os))
      rw [show hld (ls.length : Nat) ls.length = ls.length from by unfold hld; omega] at this
      exact Calls.regrown_of this
    have C3 : Hid (∀ d os, Calls Tryd.prog 66 #[.pointer (some ⟨g, 0, none⟩), .int .i64 0, .int .i64 (ls.length : Nat)] (grow (redrawn w1 d) os) fun e w'' => e = .returned (.agg #[.int .i64 x0, .int .i64 x1, .int .i64 x2, .int .i64 x3]) ∧ ∃ p : Regrown, w'' = grow (redrawn w1 p.d) p.os) := fun d os => by
      have bb := b0.trans ((below_regrown w1 d os).mono b0.size)
      rcases HT.out with ⟨e, _⟩ | ⟨dd, gg, e, hh⟩
      · cases e
      · cases e
        exact Calls.regrown_of (sumof_all E dd _ ls x0 x1 x2 x3 _ (hh.later bb) (cell_after H2.out bb) (cell_after H3.out bb) (cell_after H4.out bb) (cell_after H5.out bb))
    refine wp_region_below_last (by kernel_rfl) (by kernel_rfl) (by kernel_rfl) ?_
    simp only [mute, idle, lastOf]
    clear hbox
    repeat (go_big_quiet_step (first | (go_at_call 66; exact C3.out _ _) | (go_at_call_of 63 (ls.length); exact C2.out _ _) | (go_at_call 63; exact C1.out _ _)))
    refine wpQuiet_nil ?_
    intro _ hw'
    obtain ⟨⟨dq, osq⟩, hw''⟩ := hw'
    subst hw''
    have bq := below_regrown w1 dq osq
    have R2 := Hid.mk4 (R0.out.later' bq)
    have b2 := b0.trans (bq.mono b0.size)
    clear kb C1 C2 C3 bq R0
    generalize grow (redrawn w1 dq) osq = w6 at *
    have c0 := R2.out.cell 0; have c1 := R2.out.cell 1; have c2 := R2.out.cell 2; have c3 := R2.out.cell 3; have fz := R2.out.fz
    have hlt := R2.out.lt
    go_wp2
    refine bodyPost_ret (results_counts rfl _ _ (w.heap.size + 1) _ _ _ _ rfl (R2.out.set4 _ _ _ _)) rfl ⟨rfl, below_set4 b2 (by omega) _ _ _ _⟩

set_option maxHeartbeats 2000000 in
set_option maxRecDepth 100000 in
/-- rope's total. -/
theorem total_any (E : Env) (v : Value) (ls : List ByteArray) (x0 x1 x2 x3 : Int) (w : World) (h : Tr E w v ls) (hS : SumIs w v x0 x1 x2 x3) :
    Calls Tryd.prog 38 #[.agg #[v]] w fun e w' => e = .returned (.agg #[.int .i64 x0, .int .i64 x1, .int .i64 x2, .int .i64 x3]) ∧ Below w.heap.size w w' := by
  have b0 : Below w.heap.size w ((w.alloc (Obj.cells #[v] 61)).alloc (Obj.cells #[.int .i64 0, .int .i64 0, .int .i64 0, .int .i64 0] 54)) := ((Below.refl _ _).alloc (Nat.le_refl _) _).alloc (by simp) _
  have HT := Hid.mk4 h
  have HS := Hid.mk4 hS
  obtain ⟨u, rfl⟩ := h.ptr
  clear h hS
  go_enter Tryd.func38, Tryd.ntmps38
  go_wp2
  have hbox : ((w.alloc (Obj.cells #[.pointer u] 61)).alloc (Obj.cells #[.int .i64 0, .int .i64 0, .int .i64 0, .int .i64 0] 54)).cell? ⟨w.heap.size, 0, none⟩ = some (.pointer u) := ((Rt.new 61 w _).alloc _).cell 0
  have R0 : Hid (Row4 ((w.alloc (Obj.cells #[.pointer u] 61)).alloc (Obj.cells #[.int .i64 0, .int .i64 0, .int .i64 0, .int .i64 0] 54)) (w.heap.size + 1) (.int .i64 0) (.int .i64 0) (.int .i64 0) (.int .i64 0)) := Row4.new' (by simp) _ _ _ _
  generalize ((w.alloc (Obj.cells #[.pointer u] 61)).alloc (Obj.cells #[.int .i64 0, .int .i64 0, .int .i64 0, .int .i64 0] 54)) = w1 at *
  have kb := cell_regrown hbox
  have C1 : Hid (∀ d os, Calls Tryd.prog 35 #[.agg #[.pointer u]] (grow (redrawn w1 d) os) fun e w'' => e = .returned (.int .i64 (ls.length : Nat)) ∧ ∃ p : Regrown, w'' = grow (redrawn w1 p.d) p.os) := fun d os =>
    Calls.regrown_of (tlen_any E _ ls (grow (redrawn w1 d) os) ((HT.out.later b0).later (below_regrown w1 d os)))
  have C2 : Hid (∀ d os, Calls Tryd.prog 54 #[.agg #[.pointer u], .int .i64 0, .int .i64 (ls.length : Nat)] (grow (redrawn w1 d) os) fun e w'' => e = .returned (.agg #[.int .i64 x0, .int .i64 x1, .int .i64 x2, .int .i64 x3]) ∧ ∃ p : Regrown, w'' = grow (redrawn w1 p.d) p.os) := fun d os =>
    Calls.regrown_of (tsum_all E _ ls x0 x1 x2 x3 (grow (redrawn w1 d) os) ((HT.out.later b0).later (below_regrown w1 d os)) ((HS.out.later b0).later (below_regrown w1 d os)))
  refine wp_region_below_last (by kernel_rfl) (by kernel_rfl) (by kernel_rfl) ?_
  simp only [mute, idle, lastOf]
  clear hbox
  repeat (go_big_quiet_step (first | (go_at_call 35; exact C1.out _ _) | (go_at_call 54; exact C2.out _ _)))
  refine wpQuiet_nil ?_
  intro _ hw'
  obtain ⟨⟨dq, osq⟩, hw''⟩ := hw'
  subst hw''
  have bq := below_regrown w1 dq osq
  have R2 := Hid.mk4 (R0.out.later bq R0.out.lt)
  have b2 := b0.trans (bq.mono b0.size)
  clear kb C1 C2 bq R0
  generalize grow (redrawn w1 dq) osq = w6 at *
  have c0 := R2.out.c0; have c1 := R2.out.c1; have c2 := R2.out.c2; have c3 := R2.out.c3; have fz := R2.out.fz
  have hlt := R2.out.lt
  go_wp2
  refine bodyPost_ret (results_row4 rfl _ _ (w.heap.size + 1) _ _ _ _ rfl (R2.out.set _ _ _ _)) rfl ⟨rfl, below_set4 b2 (by omega) _ _ _ _⟩
end Go.Proofs.YtfgefdkkjfjjjaaDoor
