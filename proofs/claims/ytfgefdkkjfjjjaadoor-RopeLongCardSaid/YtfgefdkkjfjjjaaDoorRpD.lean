/- Byte, Chunks, String, Same. -/
import Derived.Test.YtfgefdkkjfjjjaaDoorRpB
import Derived.Laws.StructEq
namespace Go.Proofs.YtfgefdkkjfjjjaaDoor
open Go.RowKit Go.Sort
set_option linter.unusedSimpArgs false
set_option linter.unusedVariables false

theorem Tryd.info_strg : (Tryd.prog.info? 9).map (fun i => (i.zero, i.size, i.bytes)) = some (some (.string ⟨#[]⟩), 1, 16) := by kernel_rfl

set_option maxHeartbeats 2000000 in
set_option maxRecDepth 100000 in
/-- Chunks. -/
theorem chunks_any (E : Env) (r : Value) (ls : List ByteArray) (w : World) (h : Rp E w r ls) (hz : szs ls ≤ 100000) :
    Calls Tryd.prog 21 #[r] w fun e w' => ∃ b cap, e = .returned (.slice (some ⟨b, 0, none⟩) ls.length cap) ∧ ls.length ≤ cap ∧ b < w'.heap.size ∧ (∀ i s, ls[i]? = some s → w'.cell? ⟨b, 0 + i, none⟩ = some (.string s)) ∧ Below w.heap.size w w' := by
  obtain ⟨i0, hi, hz0, hz1, hz2⟩ := info_parts Tryd.info_strg
  obtain ⟨u, h1, h2, h3⟩ := h
  have hlen : ls.length ≤ 100000 := by have := szs_ge h3.1; omega
  have HO := Hid.mk4 (rowof_any r u w h1)
  have H2 := Hid.mk4 h2
  clear h1 h2 h3
  go_enter Tryd.func21, Tryd.ntmps21
  go_wp2_with fail
  refine HO.out.mono ?_
  rintro e w1 ⟨rfl, b1⟩
  have bA : Below w1.heap.size w1 (w1.alloc (Obj.cells #[.pointer u] 61)) := (Below.refl _ _).alloc (Nat.le_refl _) _
  have gA := b1.trans (bA.mono b1.size)
  have R0 : Hid (Rt 61 (w1.alloc (Obj.cells #[.pointer u] 61)) w1.heap.size #[.pointer u]) := Rt.new _ w1 _
  have HLN := Hid.mk4 (tlen_any E _ ls _ (H2.out.later gA))
  clear HO b1 bA
  go_wp2_with fail
  refine HLN.out.mono ?_
  rintro e w2 ⟨rfl, b2⟩
  have g2 := gA.trans (b2.mono gA.size)
  have R2 := Hid.mk4 (R0.out.later' b2)
  clear HLN R0 gA b2
  go_wp2_with (at_make; refine wpList_make_own _ rfl _ _ 45 rfl w2.heap.size 9 i0 (.string ⟨#[]⟩) 1 Tryd.underlying45 hi hz0 hz1 .i64 .i64 _ ls.length rfl rfl rfl ?m1 ?m2 ?m3 ?_)
  case m1 => rw [hz2]; omega
  case m2 => unfold maxLen; omega
  case m3 => exact Nat.le_refl _
  intro w3 ho3 hg3
  have HO3 := Hid.mk4 ho3
  have b3 : Below w2.heap.size w2 w3 := (Below.refl _ _).grown hg3 (Nat.le_refl _) (fun k hk => by cases hk)
  have g3 := g2.trans (b3.mono g2.size)
  have c3 := (R2.out.later' b3).cell 0
  have HAL := Hid.mk4 (tall_any E _ ls w3 (H2.out.later g3) (by omega))
  clear ho3 hg3 R2
  go_wp2_with fail
  refine HAL.out.mono ?_
  rintro e w4 ⟨v4, rfl, ho4, b4⟩
  have hlt3 : w2.heap.size < w3.heap.size := by
    rcases HO3.out.2 with ⟨e, _⟩ | ⟨g, cap, cur, e, _, h3, _⟩
    · cases e
    · cases e
      exact (Array.getElem?_eq_some_iff.1 h3).1
  have hst : (v4 = .slice none 0 0 ∧ ls = []) ∨ ∃ b cap, v4 = .slice (some ⟨b, 0, none⟩) ls.length cap ∧ w3.heap.size ≤ b ∧ b < w4.heap.size ∧ ∀ i s, ls[i]? = some s → w4.cell? ⟨b, 0 + i, none⟩ = some (.string s) := by
    rcases ho4.2 with ⟨e1, e2⟩ | ⟨g, cap, cur, e1, e2, e3, _⟩
    · exact Or.inl ⟨e1, List.eq_nil_of_length_eq_zero e2⟩
    · rcases strs_of_own ho4 with ⟨q1, _⟩ | ⟨b, off, cap', q1, q2⟩
      · rw [e1] at q1; cases q1
      · rw [e1] at q1
        cases q1
        exact Or.inr ⟨g, cap, e1, e2, (Array.getElem?_eq_some_iff.1 e3).1, q2⟩
  have HST := Hid.mk4 hst
  have g4 := g3.trans (b4.mono g3.size)
  have HO4 := Hid.mk4 (own_later HO3.out b4)
  have hw2 : w.heap.size ≤ w2.heap.size := g2.size
  have hw24 : w2.heap.size ≤ w4.heap.size := Nat.le_trans b3.size b4.size
  clear HAL ho4 HO3 b3 b4 c3 g3 g2 hst
  rcases HST.out with ⟨e1, e2⟩ | ⟨b, cap4, e1, hb3, hb4, hc4⟩
  · subst e1 e2
    clear HST
    go_wp2
    refine wp_loop_rounds 1 ?_
    rw [rounds_succ]
    go_wp2
    go_ret
    refine ⟨w2.heap.size, _, rfl, by simp, ?_, fun i s hs => by simp at hs, g4⟩
    rcases HO4.out.2 with ⟨e, _⟩ | ⟨g, cap, cur, e, _, h3, _⟩
    · cases e
    · cases e
      exact (Array.getElem?_eq_some_iff.1 h3).1
  · subst e1
    have HC4 := Hid.mk4 hc4
    clear HST hc4
    go_wp2
    go_loopw [4, 15] (fun lv ii wr => ∃ (i : Nat), ii = .int .i64 (i : Nat) ∧ i ≤ ls.length ∧ Hid (wr.ownsRow w2.heap.size 9 1 lv i ((ls.take i).map Value.string)) ∧ Hid (Off lv b) ∧ Hid (lv ≠ .slice none 0 0) ∧ Hid (∀ i s, ls[i]? = some s → wr.cell? ⟨b, 0 + i, none⟩ = some (.string s)) ∧ b < wr.heap.size ∧ Below w.heap.size w wr) (fun _ ii _ => ls.length - (intOf ii).toNat)
    case atStart => exact ⟨0, rfl, by omega, by show World.ownsRow _ _ _ _ _ _ _; simpa using HO4.out, (by show Off _ _; intro e; simp [Value.ownBlock] at e; omega), (by show _ ≠ _; intro e; cases e), HC4.out, hb4, g4⟩
    case round =>
      obtain ⟨i, rfl, hil, HOi, HF, HNN, HCi, hbl, hb⟩ := hrel
      clear HO4 HC4 g4
      by_cases hlt : i < ls.length
      · obtain ⟨s, hs⟩ : ∃ s, ls[i]? = some s := ⟨ls[i], List.getElem?_eq_getElem hlt⟩
        have cs := HCi.out i s hs
        rw [Nat.zero_add] at cs
        have HTK : Hid (ls.take (i + 1) = ls.take i ++ [s]) := by
          obtain ⟨h1, rfl⟩ := List.getElem?_eq_some_iff.1 hs
          show _ = _
          rw [List.take_succ_eq_append_getElem h1]
        clear hs
        go_wp2_with (at_builtin; refine wpList_append_own_at _ rfl _ _ 45 rfl w2.heap.size 9 i0 (.string ⟨#[]⟩) 1 16 Tryd.underlying45 hi hz0 hz1 hz2 rfl (by decide) _ _ _ rfl (HOi.out.alloc _) ⟨wr.heap.size, 0, none⟩ 1 1 [.string s] rfl rfl (cell_one_new _ _ _) ?c2 ?c3 ?c4 ?c5 ?_)
        case c2 => intro u hu; simp at hu; subst hu; rfl
        case c3 => unfold maxLen; omega
        case c4 => omega
        case c5 => have := hb.size; rcases HOi.out.2 with ⟨e, _⟩ | ⟨g, cap, cur, e, hg, h3, _⟩ <;> simp <;> first | exact absurd e HNN.out | (have := (Array.getElem?_eq_some_iff.1 h3).1; omega)
        intro v' w5 hown' hgrow hnil hat0
        have hbs : w2.heap.size ≤ wr.heap.size := by
          rcases HOi.out.2 with ⟨e, _⟩ | ⟨g, cap, cur, e, hg, h3, _⟩
          · exact absurd e HNN.out
          · have := (Array.getElem?_eq_some_iff.1 h3).1; omega
        have HO5 : Hid (w5.ownsRow w2.heap.size 9 1 v' (i + 1) ((ls.take (i + 1)).map Value.string)) := by
          show World.ownsRow _ _ _ _ _ _ _
          rw [HTK.out]
          simpa using hown'
        have HF5 : Hid (Off v' b) := by
          rcases hat0 with e | e
          · intro q; exact HF.out (e ▸ q)
          · intro q; rw [e] at q; simp at q; omega
        have HN5 : Hid (v' ≠ .slice none 0 0) := hnil
        have HC5 : Hid (∀ i s, ls[i]? = some s → w5.cell? ⟨b, 0 + i, none⟩ = some (.string s)) := fun j t ht => by
          have h1 := cell_after (HCi.out j t ht) ((Below.refl wr.heap.size wr).alloc (Nat.le_refl _) (Obj.cells #[.string s] 9))
          exact cell_same h1 (hgrow.block b (by simp; omega) (fun e => HF.out e.symm))
        have hb5 : Below w.heap.size w w5 := (hb.alloc hb.size _).grown hgrow (by have := hb.size; simp; omega) (fun k hk => by have := HOi.out.lt _ hk; omega)
        have hbl5 : b < w5.heap.size := cell_lt (HC5.out i s (by
          have := HTK.out
          have h2 := congrArg (fun l => l[i]?) this
          simp only [List.getElem?_take] at h2
          rw [if_pos (by omega), List.getElem?_append_right (by rw [List.length_take]; omega)] at h2
          rw [h2, List.length_take, Nat.min_eq_left hil]
          simp))
        clear hown' hgrow hnil hat0 HOi HF HNN HCi cs hb hbl HTK
        go_wp2
        go_roundw
        case rel => exact ⟨i + 1, by go_num, by omega, HO5, HF5, HN5, HC5, hbl5, hb5⟩
        case measure => simp [intOf]; omega
      · obtain rfl : i = ls.length := by omega
        have hO := HOi.out
        rw [List.take_length] at hO
        have hfin : ∃ b' cap', u4 = .slice (some ⟨b', 0, none⟩) ls.length cap' ∧ ls.length ≤ cap' ∧ b' < wr.heap.size ∧ ∀ i s, ls[i]? = some s → wr.cell? ⟨b', 0 + i, none⟩ = some (.string s) := by
          rcases hO.2 with ⟨e, _⟩ | ⟨g, cap, cur, e, _, h3, h4, _⟩
          · exact absurd e HNN.out
          · rcases strs_of_own hO with ⟨q1, _⟩ | ⟨b2, off2, cap2, q1, q2⟩
            · exact absurd q1 HNN.out
            · rw [e] at q1
              cases q1
              exact ⟨g, cap, e, h4, (Array.getElem?_eq_some_iff.1 h3).1, q2⟩
        obtain ⟨b', cap', rfl, hq1, hq2, hq3⟩ := hfin
        have HQ3 := Hid.mk4 hq3
        clear hO HOi HF HNN HCi hq3
        go_wp2
        go_ret
        exact ⟨b', cap', rfl, hq1, hq2, HQ3.out, hb⟩

theorem join_cat (ls : List ByteArray) : Lib.join (ls.map (·.data.toList)) (⟨#[]⟩ : ByteArray).data.toList = cat ls := by
  cases ls with
  | nil => rfl
  | cons x r =>
    rw [List.map_cons, Lib.join_cons, cat_cons]
    congr 1
    simp [Lib.joinTail, cat, List.flatMap]
    rfl

set_option maxHeartbeats 2000000 in
set_option maxRecDepth 100000 in
/-- String. -/
theorem string_any (E : Env) (r : Value) (ls : List ByteArray) (w : World) (h : Rp E w r ls) (hz : szs ls ≤ 100000) :
    Calls Tryd.prog 22 #[r] w fun e w' => e = .returned (.string ⟨(cat ls).toArray⟩) ∧ Below w.heap.size w w' := by
  have H := Hid.mk4 (chunks_any E r ls w h hz)
  have hlen : ls.length ≤ 100000 := by obtain ⟨u, h1, h2, h3⟩ := h; have := szs_ge h3.1; omega
  clear h
  go_enter Tryd.func22, Tryd.ntmps22
  go_wp2_with fail
  refine H.out.mono ?_
  rintro e w1 ⟨b, cap, rfl, h1, h2, h3, b1⟩
  have HJ : Hid (Calls Tryd.prog 37 #[.slice (some ⟨b, 0, none⟩) ls.length cap, .string ⟨#[]⟩] w1 fun e w' => e = .returned (.string ⟨(cat ls).toArray⟩) ∧ Below w1.heap.size w1 w') := by
    have := Tryd.strings_Join b 0 cap ls ⟨#[]⟩ w1 h3 h2 (by omega) h1 (by rw [join_cat, cat_length]; omega)
    rw [join_cat] at this
    exact this
  clear H h3
  go_wp2_with fail
  refine HJ.out.mono ?_
  rintro e w2 ⟨rfl, b2⟩
  clear HJ
  go_wp2
  go_ret
  exact ⟨rfl, b1.trans (b2.mono b1.size)⟩

end Go.Proofs.YtfgefdkkjfjjjaaDoor
