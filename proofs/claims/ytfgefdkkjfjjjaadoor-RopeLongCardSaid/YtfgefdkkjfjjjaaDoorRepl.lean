/- replace. -/
import Derived.Test.YtfgefdkkjfjjjaaDoorWeld
namespace Go.Proofs.YtfgefdkkjfjjjaaDoor
open Go.RowKit Go.Sort
set_option linter.unusedSimpArgs false
set_option linter.unusedVariables false

theorem vld_cancel {x y : List UInt8} (h : vld x = true) : vld (x ++ y) = vld y := by
  obtain ⟨cs, hg, rfl⟩ := (vld_iff x).1 h
  exact vld_flat_append hg y
theorem take_app (x y : List UInt8) (k : Nat) : (x ++ y).take (x.length + k) = x ++ y.take k := by
  rw [List.take_append]
  simp
  exact List.take_of_length_le (by omega)
theorem drop_app (x y : List UInt8) (k : Nat) : (x ++ y).drop (x.length + k) = y.drop k := by
  rw [List.drop_append]
  simp
theorem loc_split {ls : List ByteArray} {p : Nat} {s : ByteArray} (hs : ls[p]? = some s) : ls = ls.take p ++ s :: ls.drop (p + 1) := by
  obtain ⟨hp, e⟩ := List.getElem?_eq_some_iff.1 hs
  rw [← e, ← List.drop_eq_getElem_cons hp, List.take_append_drop]
theorem cat_split {ls : List ByteArray} {p : Nat} {s : ByteArray} (hs : ls[p]? = some s) : cat ls = cat (ls.take p) ++ (s.data.toList ++ cat (ls.drop (p + 1))) := by
  conv => lhs; rw [loc_split hs, cat_append, cat_cons]
theorem loc_head {ls : List ByteArray} {a p q : Nat} {s : ByteArray} (h : Loc ls a p s q) (ha : a ≤ szs ls) : cat (ls.take p) ++ s.data.toList.take q = (cat ls).take a ∧ (p < ls.length ∨ ls = []) ∧ q ≤ s.size ∧ s.size ≤ szs ls := by
  rcases h with ⟨rfl, rfl, rfl, rfl⟩ | ⟨hs, hq, hqs, _⟩
  · exact ⟨by simp [cat_nil], Or.inr rfl, Nat.le_refl _, Nat.le_refl _⟩
  · have hp := (List.getElem?_eq_some_iff.1 hs).1
    refine ⟨?_, Or.inl hp, hqs, ?_⟩
    · rw [cat_split hs, ← hq, ← cat_length, take_app, List.take_append_of_le_length (by rw [bytes_length]; exact hqs)]
    · have := congrArg List.length (cat_split hs)
      rw [List.length_append, List.length_append, cat_length, bytes_length] at this
      omega
theorem loc_tail {ls : List ByteArray} {a p q : Nat} {s : ByteArray} (h : Loc ls a p s q) : s.data.toList.drop q ++ cat (ls.drop (p + 1)) = (cat ls).drop a := by
  rcases h with ⟨rfl, rfl, rfl, rfl⟩ | ⟨hs, hq, hqs, _⟩
  · simp [cat_nil]
  · rw [cat_split hs, ← hq, ← cat_length, drop_app, List.drop_append_of_le_length (by rw [bytes_length]; exact hqs)]
theorem loc_valid {ls : List ByteArray} {a p q : Nat} {s : ByteArray} (h : Loc ls a p s q) (ha : a ≤ szs ls) (hI : Inv ls) (he : vld ((cat ls).take a) = true) : vld (s.data.toList.take q) = true ∧ vld (s.data.toList.drop q) = true := by
  have h1 := (loc_head h ha).1
  rw [← h1, vld_cancel (cat_valid fun x hx => hI.1 x (List.mem_of_mem_take hx))] at he
  refine ⟨he, ?_⟩
  have hs : vld s.data.toList = true := by
    rcases h with ⟨_, _, rfl, _⟩ | ⟨hs, _⟩
    · rfl
    · exact (hI.1 s (List.mem_of_getElem? hs)).1
  rw [← List.take_append_drop q s.data.toList, vld_cancel he] at hs
  exact hs
theorem loc_place {ls : List ByteArray} {a p q : Nat} {s : ByteArray} (h : Loc ls a p s q) : p ≤ ls.length := by
  rcases h with ⟨rfl, rfl, _⟩ | ⟨hs, _⟩
  · simp
  · have := (List.getElem?_eq_some_iff.1 hs).1
    omega

set_option maxHeartbeats 8000000 in
set_option maxRecDepth 100000 in
/-- rope's replace. -/
theorem replace_any (E : Env) (tb : Nat × Nat) (htab : ∀ W, E.Tb W → Tab W tb) (v : Value) (ls : List ByteArray) (a b : Nat) (s : ByteArray) (w : World) (h : Tr E w v ls) (hI : Inv ls) (hz : szs ls ≤ 100000) (hab : a ≤ b) (hb : b ≤ szs ls)
    (hea : vld ((cat ls).take a) = true) (heb : vld ((cat ls).take b) = true) (hv : vld s.data.toList = true) (hs : s.size ≤ 100000) (hD : Dt E ((cat ls).take a ++ (s.data.toList ++ (cat ls).drop b))) (hT : E.Tb w) :
    Calls Tryd.prog 27 #[.agg #[v], .int .i64 (a : Nat), .int .i64 (b : Nat), .string s] w fun e w' => ∃ v' ls', e = .returned (.agg #[v']) ∧ Tr E w' v' ls' ∧ Inv ls' ∧ cat ls' = (cat ls).take a ++ (s.data.toList ++ (cat ls).drop b) ∧ Below w.heap.size w w' := by
  obtain ⟨u, rfl⟩ := h.ptr
  have g0 : Below w.heap.size w ((w.alloc (Obj.cells #[.pointer u] 61)).alloc (Obj.cells #[.pointer none] 61)) := ((Below.refl _ _).alloc (Nat.le_refl _) _).alloc (by simp) _
  have RA0 : Hid (Rt 61 ((w.alloc (Obj.cells #[.pointer u] 61)).alloc (Obj.cells #[.pointer none] 61)) w.heap.size #[.pointer u]) := (Rt.new _ w _).alloc _
  have RC0 : Hid (Rt 61 ((w.alloc (Obj.cells #[.pointer u] 61)).alloc (Obj.cells #[.pointer none] 61)) (w.heap.size + 1) #[.pointer none]) := Rt.new' (by simp) _
  have T0 := Hid.mk4 (h.later g0)
  have hll := szs_ge hI.1
  have hl : ls.length ≤ 100000 := by omega
  have HI := Hid.mk4 hI
  have HEA := Hid.mk4 hea
  have HEB := Hid.mk4 heb
  have HV := Hid.mk4 hv
  have HD := Hid.mk4 hD
  have HLA : Hid (∀ W, Tr E W (.pointer u) ls → Calls Tryd.prog 33 #[.agg #[.pointer u], .int .i64 (a : Nat)] W fun e w' => ∃ p s q, e = .returned (.tuple #[.int .i64 (p : Nat), .string s, .int .i64 (q : Nat)]) ∧ Loc ls a p s q ∧ Below W.heap.size W w') := fun W hW => locate_any E _ ls a W hW (by omega) (by omega) (by omega)
  have HLB : Hid (∀ W, Tr E W (.pointer u) ls → Calls Tryd.prog 33 #[.agg #[.pointer u], .int .i64 (b : Nat)] W fun e w' => ∃ p s q, e = .returned (.tuple #[.int .i64 (p : Nat), .string s, .int .i64 (q : Nat)]) ∧ Loc ls b p s q ∧ Below W.heap.size W w') := fun W hW => locate_any E _ ls b W hW (by omega) (by omega) hb
  have HAB : Hid (a ≤ b ∧ b ≤ szs ls ∧ szs ls ≤ 100000) := ⟨hab, hb, hz⟩
  have H0 := Hid.mk4 h
  clear h hI hea heb hv hD hll hab hb hz
  by_cases hq : a = b ∧ s.size = 0
  · obtain ⟨rfl, hs0⟩ := hq
    have es : s = ⟨#[]⟩ := by
      obtain ⟨⟨l⟩⟩ := s
      have : l = [] := List.eq_nil_of_length_eq_zero hs0
      subst this
      rfl
    subst es
    have c1 := RA0.out.cell 0
    have cz := RC0.out.cell 0
    have fz := RC0.out.fz
    have hlt := RC0.out.lt
    have gz : Below w.heap.size w ((w.alloc (Obj.cells #[.pointer u] 61)).alloc (Obj.cells #[.pointer u] 61)) := ((Below.refl _ _).alloc (Nat.le_refl _) _).alloc (by simp) _
    have HTZ := Hid.mk4 (H0.out.later gz)
    clear HLA HLB T0
    go_enter Tryd.func27, Tryd.ntmps27
    go_wp2
    refine bodyPost_ret (results_tree rfl _ _ (w.heap.size + 1) _ rfl (Rt.new' (by simp) _)) rfl ?_
    exact ⟨_, rfl, ls, HTZ.out, HI.out, by simp, gz⟩
  have hq' : (((a : Int) == (b : Int)) = false ∧ (a == b) = false ∧ decide (a = b) = false) ∨ (((a : Int) == (b : Int)) = true ∧ (a == b) = true ∧ decide (a = b) = true ∧ s.toList.isEmpty = false) := by
    by_cases h1 : a = b
    · right
      refine ⟨by simp; omega, by simpa using h1, by simpa using h1, ?_⟩
      rw [ByteArray.toList_eq]
      cases hl : s.data.toList with
      | nil => exact absurd ⟨h1, by rw [← bytes_length, hl]; rfl⟩ hq
      | cons _ _ => rfl
    · exact Or.inl ⟨by simp; omega, by simpa using h1, by simpa using h1⟩
  clear hq H0
  rcases hq' with ⟨q1, q2, q3⟩ | ⟨q1, q2, q3, q4⟩
  all_goals
    go_enter Tryd.func27, Tryd.ntmps27
    go_wp2_with fail
    refine (HLA.out _ T0.out).mono ?_
    rintro e w1 ⟨p, sa, qa, rfl, hloc, b1⟩
    have LA := Hid.mk4 hloc
    have RA1 := Hid.mk4 (RA0.out.later' b1)
    have RC1 := Hid.mk4 (RC0.out.later' b1)
    have T1 := Hid.mk4 (T0.out.later b1)
    have g1 := g0.trans (b1.mono g0.size)
    have c1 := RA1.out.cell 0
    clear hloc HLA RA0 RC0 T0 g0 b1
    go_wp2_with fail
    refine (HLB.out _ T1.out).mono ?_
    rintro e w2 ⟨p', sb, qb, rfl, hloc, b2⟩
    have LB := Hid.mk4 hloc
    have RA2 := Hid.mk4 (RA1.out.later' b2)
    have RC2 := Hid.mk4 (RC1.out.later' b2)
    have T2 := Hid.mk4 (T1.out.later b2)
    have g2 := g1.trans (b2.mono g1.size)
    clear hloc HLB RA1 RC1 T1 g1 b2 c1
    have hqa : qa ≤ sa.size ∧ sa.size ≤ 100000 := by have h1 := loc_head LA.out (by have := HAB.out; omega); have := HAB.out; omega
    have hqb : qb ≤ sb.size ∧ sb.size ≤ 100000 := by have h1 := loc_head LB.out HAB.out.2.1; have := HAB.out; omega
    have hpp : p ≤ 100000 ∧ p' ≤ 100000 := by have h1 := loc_place LA.out; have h2 := loc_place LB.out; omega
    have hsz1 : (sa.extract 0 qa).size = qa := by simp; omega
    have hsz2 : (sb.extract qb sb.size).size = sb.size - qb := by simp
    have hsz3 : (sa.extract 0 qa ++ s).size = qa + s.size := by rw [app_size, hsz1]
    have hsz4 : (sa.extract 0 qa ++ s ++ sb.extract qb sb.size).size = qa + s.size + (sb.size - qb) := by rw [app_size, hsz3, hsz2]
    have hb1 : (sa.extract 0 qa).size ≤ 100000 := by omega
    have hb2 : (sb.extract qb sb.size).size ≤ 100000 := by omega
    have hb3 : (sa.extract 0 qa ++ s).size ≤ 200000 := by omega
    have HS4 := Hid.mk4 hsz4
    clear hsz1 hsz2 hsz3 hsz4
    go_wp2
    have ka := cell_regrown (RA2.out.cell 0)
    refine wp_region_mix [([0, 1, 3, 4, 5, 6, 7, 8, 9, 10, 11, 12, 13, 14, 15], [2]), ([], [16]), ([], [17]), ([], [18]), ([], [19])] (by kernel_rfl) (by kernel_rfl) ?_
    rintro w3 ⟨d3, rfl⟩
    refine wpPlan_cons ?_
    simp only [pickAll, pickAt, List.nil_append, List.cons_append, List.append_nil]
    repeat (go_big_quiet_step (fail))
    refine wpQuiet_nil ?_
    clear ka
    have hlb : ls.length ≤ 1099511627776 := by omega
    go_wp2_with fail
    have hS := tslice_any E _ ls 0 (p : Nat) 0 p (redrawn w2 d3) (T2.out.later (below_redrawn w2 d3)) hlb (by unfold hld; omega) (by have := loc_place LA.out; unfold hld; omega)
    rw [show (ls.drop 0).take (p - 0) = ls.take p from by simp] at hS
    refine hS.mono ?_
    clear hS
    rintro e w4 ⟨v4, rfl, ht4, b4⟩
    have HT4 := Hid.mk4 ht4
    have b24 : Below w2.heap.size w2 w4 := (below_redrawn w2 d3).trans b4
    clear ht4 b4
    go_wp2
    refine mixNext_below b24 ?_
    refine wpPlan_cons ?_
    simp only [pickAll, pickAt, List.nil_append, List.cons_append, List.append_nil]
    refine wpQuiet_nil ?_
    go_wp2_with fail
    refine (tlen_any E _ ls w4 (T2.out.later b24)).mono ?_
    rintro e w5 ⟨rfl, b5⟩
    have b25 : Below w2.heap.size w2 w5 := b24.trans (b5.mono b24.size)
    have HT5 := Hid.mk4 (HT4.out.later b5)
    clear HT4 b24 b5
    go_wp2
    refine mixNext_below b25 ?_
    refine wpPlan_cons ?_
    simp only [pickAll, pickAt, List.nil_append, List.cons_append, List.append_nil]
    refine wpQuiet_nil ?_
    go_wp2_with fail
    have hS := tslice_any E _ ls ((p' : Int) + 1) (ls.length : Nat) (min (p' + 1) ls.length) ls.length w5 (T2.out.later b25) hlb (by unfold hld; omega) (by unfold hld; omega)
    rw [show (ls.drop (min (p' + 1) ls.length)).take (ls.length - min (p' + 1) ls.length) = ls.drop (p' + 1) from by
      rw [List.take_of_length_le (by rw [List.length_drop]; omega)]
      rcases Nat.le_total (p' + 1) ls.length with h | h
      · rw [Nat.min_eq_left h]
      · rw [Nat.min_eq_right h, List.drop_length, List.drop_of_length_le h]] at hS
    refine hS.mono ?_
    clear hS
    rintro e w6 ⟨v6, rfl, ht6, b6⟩
    have HT6 := Hid.mk4 ht6
    have b26 : Below w2.heap.size w2 w6 := b25.trans (b6.mono b25.size)
    have HT7 := Hid.mk4 (HT5.out.later b6)
    clear ht6 b6 HT5 b25
    go_wp2
    refine mixNext_below b26 ?_
    refine wpPlan_cons ?_
    simp only [pickAll, pickAt, List.nil_append, List.cons_append, List.append_nil]
    refine wpQuiet_nil ?_
    have haz : a ≤ szs ls := by have := HAB.out; omega
    have hA := loc_head LA.out haz
    have hB := loc_tail LB.out
    have hvA := loc_valid LA.out haz HI.out HEA.out
    have hvB := loc_valid LB.out HAB.out.2.1 HI.out HEB.out
    have hmid : (sa.extract 0 qa ++ s ++ sb.extract qb sb.size).data.toList = sa.data.toList.take qa ++ (s.data.toList ++ sb.data.toList.drop qb) := by
      rw [bytes_append, bytes_append, extract_bytes, extract_bytes, List.drop_zero, Nat.sub_zero, List.append_assoc]
      rw [List.take_of_length_le (l := sb.data.toList.drop qb) (by rw [List.length_drop, bytes_length]; omega)]
    have htxt : cat (ls.take p) ++ ((sa.extract 0 qa ++ s ++ sb.extract qb sb.size).data.toList ++ cat (ls.drop (p' + 1))) = (cat ls).take a ++ (s.data.toList ++ (cat ls).drop b) := by
      rw [hmid, ← hA.1, ← hB]
      simp
    have hsum : szs (ls.take p) + (sa.extract 0 qa ++ s ++ sb.extract qb sb.size).size + szs (ls.drop (p' + 1)) ≤ 1000000 := by
      have h1 := congrArg List.length htxt
      rw [List.length_append, List.length_append, List.length_append, List.length_append, cat_length, cat_length, bytes_length, bytes_length, List.length_take, List.length_drop, cat_length] at h1
      have := HAB.out
      omega
    have HWE := Hid.mk4 (weld_any E tb htab v4 v6 (ls.take p) (ls.drop (p' + 1)) (sa.extract 0 qa ++ s ++ sb.extract qb sb.size) w6 HT7.out HT6.out (HI.out.takeBig hA.2.1) (HI.out.dropBig p') (by rw [hmid]; exact vld_append hvA.1 (vld_append HV.out hvB.2)) hsum (by rw [htxt]; exact HD.out) (E.later hT (g2.trans (b26.mono g2.size))))
    rw [htxt] at HWE
    clear hA hB hvA hvB hmid htxt hsum
    go_wp2_with fail
    refine HWE.out.mono ?_
    rintro e w7 ⟨v7, l7, rfl, ht7, hi7, hc7, b7⟩
    obtain ⟨u7, rfl⟩ := ht7.ptr
    have HX7 := Hid.mk4 ht7
    have HI7 := Hid.mk4 hi7
    have HC7 := Hid.mk4 hc7
    have b27 : Below w2.heap.size w2 w7 := b26.trans (b7.mono b26.size)
    clear ht7 hi7 hc7 b7 b26 HWE HT6 HT7
    go_wp2
    refine mixNext_below b27 ?_
    refine wpPlan_cons ?_
    simp only [pickAll, pickAt, List.nil_append, List.cons_append, List.append_nil]
    refine wpQuiet_nil ?_
    have QC := Hid.mk4 (RC2.out.later' b27)
    have gq := g2.trans (b27.mono g2.size)
    have fz := QC.out.fz
    have cz := QC.out.cell 0
    have hlt := QC.out.lt
    clear RA2 RC2 T2 g2 b27
    go_wp2
    refine mixNext_last ?_
    have gz : Below w.heap.size w (w7.setCell ⟨w.heap.size + 1, 0, none⟩ (.pointer u7)) := gq.setCell (p := ⟨w.heap.size + 1, 0, none⟩) (by simp) _
    have HTZ := Hid.mk4 (HX7.out.putT QC.out (.pointer u7))
    have HRZ := Hid.mk4 (QC.out.set1 (.pointer u7))
    clear QC gq fz cz hlt HX7
    generalize w7.setCell ⟨w.heap.size + 1, 0, none⟩ (.pointer u7) = w12 at *
    go_wp2
    refine bodyPost_ret (results_tree rfl _ _ (w.heap.size + 1) _ rfl HRZ.out) rfl ⟨_, l7, rfl, HTZ.out, HI7.out, HC7.out, gz⟩
end Go.Proofs.YtfgefdkkjfjjjaaDoor
