/- Bytes of one's own; a string behind them; addText. -/
import Derived.Test.YtalolaajcmndeaaDoorDelOrd
import Derived.Lib.AppendStr
import Derived.Deep.AppendLies
namespace Go.Proofs.YtalolaajcmndeaaDoor
open Go.RowKit Go.Sort Go.Lib
set_option linter.unusedSimpArgs false
set_option linter.unusedVariables false

/-- Bytes of one's own. -/
def OwnB (w : World) (B : Nat) (v : Value) (T : List UInt8) : Prop := w.ownsRow B 5 1 v T.length (byteCells T)
theorem OwnB.nil (w : World) (B : Nat) : OwnB w B (.slice none 0 0) [] := World.ownsRow_nil _ _ _ _
theorem OwnB.later {w w' : World} {B : Nat} {v : Value} {T : List UInt8} (h : OwnB w B v T) (hb : RowKit.Below w.heap.size w w') : OwnB w' B v T := by
  refine ⟨h.1, h.2.imp id ?_⟩
  rintro ⟨g, cap, cur, h1, h2, h3, h4⟩
  exact ⟨g, cap, cur, h1, h2, (hb.block g (Array.getElem?_eq_some_iff.1 h3).1).trans h3, h4⟩
theorem OwnB.shape {w : World} {B : Nat} {v : Value} {T : List UInt8} (h : OwnB w B v T) : ∃ a cap, v = .slice a T.length cap ∧ T.length ≤ cap ∧ ((a = none ∧ cap = 0 ∧ T = []) ∨ ∃ g, a = some ⟨g, 0, none⟩ ∧ g < w.heap.size) := by
  rcases h.2 with ⟨h1, h2⟩ | ⟨g, cap, cur, h1, _, h3, h4, _⟩
  · exact ⟨none, 0, by rw [h1, h2], by omega, Or.inl ⟨rfl, rfl, List.eq_nil_of_length_eq_zero h2⟩⟩
  · exact ⟨_, _, h1, h4, Or.inr ⟨g, rfl, (Array.getElem?_eq_some_iff.1 h3).1⟩⟩
/-- The row's beginning, nothing of it. -/
theorem OwnB.reset {w : World} {B g cap : Nat} {T : List UInt8} (h : OwnB w B (.slice (some ⟨g, 0, none⟩) T.length cap) T) : OwnB w B (.slice (some ⟨g, 0, none⟩) 0 cap) [] := by
  rcases h.2 with ⟨h1, _⟩ | ⟨g', cap', cur, h1, h2, h3, h4, h5, h6, h7⟩
  · cases h1
  · cases h1
    exact ⟨rfl, Or.inr ⟨g, cap, cur, rfl, h2, h3, Nat.zero_le _, h5, h6, by simp [byteCells]⟩⟩
theorem append_block_string {P : Program} (w : World) (base : Nat) (t u ty e : TypeId) (i : TypeInfo) (ht : P.underlying t = some (.slice e)) (hu : P.underlying u = some .string) (hi : P.info? e = some i) (hz : i.zero = some (.int .u8 0))
    (hsize : i.size = 1) (hby : i.bytes = 1)
    (v : Value) (n : Nat) (xs : List Value) (hown : w.ownsRow base e 1 v n xs) (s : ByteArray)
    (h63 : n + s.size ≤ maxLen) (hbytes : n + s.size ≤ 140737488355328) {v' : Value} {w' : World} (hr : (Builtin.append_ #[t, u] ty #[v, .string s]).run P w = .ok v' w') (hm : 0 < s.size) :
    v'.ownBlock = v.ownBlock ∨ v'.ownBlock = some w.heap.size := by
  have hsmall : n + s.size ≤ 9223372036854775807 := by simp only [maxLen] at h63; omega
  have hxl : xs.length = n := by simpa using hown.1
  rcases hown.2 with ⟨rfl, rfl⟩ | ⟨g, cap, cur, rfl, hbg, hg, hnc, hcm, hcs, htake⟩
  · have hq := run_append_nil_string (P := P) w t u ty e i (.int .u8 0) ht hu hi hz s hm (by omega) (by rw [hby]; omega)
    have := hr.symm.trans hq
    cases this
    exact Or.inr rfl
  · by_cases hroom : n + s.size ≤ cap
    · have hcs' : cur.size = cap := by simpa using hcs
      have hq := run_append_room_string (P := P) w t u ty e i ht hu hi hsize g n cap cur hg s hroom (by omega)
      have := hr.symm.trans hq
      cases this
      exact Or.inl rfl
    · have hq := run_append_grow_string (P := P) w t u ty e i (.int .u8 0) ht hu hi hz ⟨g, 0, none⟩ n cap xs (by rw [hsize]; simpa using hxl) (hown.cells (g := g) rfl) s (by omega) (by omega) (by rw [hby]; exact growslice_fits (by omega) (by omega))
      have := hr.symm.trans hq
      cases this
      exact Or.inr rfl
/-- A string behind bytes of one's own: the row lies where it lay, or is new. -/
theorem wpList_append_text8 {w : World} {ops : Array Oper} {rest : List Oper} {o : Oper} {a : Act} {Q : Exit → Act → World → Prop} (hgd : o.guard = none) (sl x : Operand)
    (ho : o.op = .call { callee := .builtin .append, args := #[sl, x], argTypes := #[44, 9] }) (B : Nat)
    (v : Value) (T : List UInt8) (hs : a.eval sl = v) (hown : OwnB w B v T) (s : ByteArray) (hx : a.eval x = .string s)
    (hb : T.length + s.size ≤ 1099511627776) (hB : B ≤ w.heap.size)
    (h : ∀ v' w', OwnB w' B v' (T ++ s.data.toList) → w.grownBy w' v.ownBlock → (v'.ownBlock = v.ownBlock ∨ v'.ownBlock = some w.heap.size ∨ v'.ownBlock = none) → wpList Tryd.prog ops Q rest (a.put o.dst v') w') : wpList Tryd.prog ops Q (o :: rest) a w := by
  obtain ⟨i0, hi, hz0, hz1, hz2⟩ := info_parts Tryd.info_u8
  refine wpList_plain hgd fun K hK => ?_
  have h63 : T.length + s.size ≤ maxLen := by unfold maxLen; omega
  obtain ⟨v', w', hr, h2, h3, h4⟩ := run_append_own_string (P := Tryd.prog) w B 44 9 o.type 5 i0 Tryd.underlying44 Tryd.underlying9 hi hz0 hz1 hz2 v T.length (byteCells T) hown s h63 (by omega) hB
  have hlies : v'.ownBlock = v.ownBlock ∨ v'.ownBlock = some w.heap.size ∨ v'.ownBlock = none := by
    by_cases hm : 0 < s.size
    · rcases append_block_string (P := Tryd.prog) w B 44 9 o.type 5 i0 Tryd.underlying44 Tryd.underlying9 hi hz0 hz1 hz2 v T.length (byteCells T) hown s h63 (by omega) hr hm with h | h
      · exact Or.inl h
      · exact Or.inr (Or.inl h)
    · rcases hown.2 with ⟨rfl, h0⟩ | ⟨g, cap, cur, rfl, hbg, hg, hnc, hcm, hcs, htake⟩
      · have := h4.2 ⟨rfl, by omega⟩
        rw [this]
        exact Or.inl rfl
      · have hcs' : cur.size = cap := by simpa using hcs
        have hq := run_append_room_string (P := Tryd.prog) w 44 9 o.type 5 i0 Tryd.underlying44 Tryd.underlying9 hi hz1 g T.length cap cur hg s (by omega) (by omega)
        have := hr.symm.trans hq
        cases this
        exact Or.inl rfl
  unfold Oper.wp execOp
  simp only [ho, resolve, invoke, builtin, Sem.run_bind, Sem.run_pure, Result.andThen_ok, List.map_toArray, List.map_cons, List.map_nil, hs, hx, hr]
  refine hK _ _ (h v' w' ?_ h3 hlies)
  unfold OwnB
  rw [List.length_append, byteCells_append, bytes_length]
  exact h2
theorem OwnB.conv {w : World} {B : Nat} {v : Value} {T : List UInt8} (h : OwnB w B v T) (hT : T ≠ []) : (convert 44 9 v).run Tryd.prog w = .ok (.string (cacc T)) w := by
  rcases h.2 with ⟨h1, h2⟩ | ⟨g, cap, cur, h1, _, h3, h4, _⟩
  · exact absurd (List.eq_nil_of_length_eq_zero h2) hT
  · have hc := World.ownsRow.cells h (g := g) (by rw [h1]; rfl)
    rw [h1]
    exact run_convert_bytes_back (P := Tryd.prog) w 44 9 5 ⟨g, 0, none⟩ cap T Tryd.underlying44 Tryd.underlying5 Tryd.underlying9 (fun j hj => hc j _ (by simp [byteCells, hj]))
/-- Rows of one's own, apart. -/
def Apart (u v : Value) : Prop := u.ownBlock = none ∨ u.ownBlock ≠ v.ownBlock
set_option maxHeartbeats 2000000 in
set_option maxRecDepth 100000 in
theorem addText_any (B B' : Nat) (v u : Value) (es : List El) (T : List UInt8) (w : World) (hB : B ≤ w.heap.size) (hl : es.length ≤ 1000000) (hT : T.length ≤ 1000000) (ho : OwnE w B v es) (hu : OwnB w B' u T) :
    Calls Tryd.prog 71 #[v, u] w fun e w' => ∃ v', e = .returned v' ∧ OwnE w' B v' (es ++ tx T) ∧ w.grownBy w' v.ownBlock ∧ (∀ j, v'.ownBlock = some j → v.ownBlock = some j ∨ w.heap.size ≤ j) := by
  obtain ⟨i0, hi, hz0, hz1, hz2⟩ := info_parts Tryd.info_el
  obtain ⟨ua, ucap, hue, hucap, _⟩ := hu.shape
  by_cases h0 : T = []
  · have HX : Hid (es ++ tx T = es) := by show _ = _; rw [h0]; simp [tx]
    have hl0 : T.length = 0 := by rw [h0]; rfl
    rw [hl0] at hue hucap
    subst hue
    clear h0 hu
    go_enter Tryd.func71, Tryd.ntmps71
    go_wp2
    go_ret
    exact ⟨v, rfl, by rw [HX.out]; exact ho, ⟨rfl, rfl, rfl, Nat.le_refl _, fun _ _ _ => rfl⟩, fun j hj => Or.inl hj⟩
  · have HX : Hid (es ++ tx T = es ++ [(0, 0, T)]) := by show _ = _; unfold tx; rw [if_neg h0]
    have hne : T.length ≠ 0 := fun e => h0 (List.eq_nil_of_length_eq_zero e)
    have hcv := hu.conv h0
    have HO := Hid.mk7 ho
    have hz : ((T.length : Int) == 0) = false := by simp; omega
    have hz' : (T.length == 0) = false := by simpa using hne
    rw [hue] at hcv
    rw [hue]
    clear hue h0 hu ho
    obtain ⟨s, HS⟩ : ∃ s, Hid (s = cacc T) := ⟨_, rfl⟩
    rw [← HS.out] at hcv
    go_enter Tryd.func71, Tryd.ntmps71
    go_wp2_with (at_builtin; refine wpList_append_lies _ rfl _ _ 22 rfl B 70 i0 (.agg #[.int .i64 0, .int .i64 0, .string ⟨#[]⟩]) 3 32 Tryd.underlying22 hi hz0 hz1 hz2 rfl (by decide) _ _ _ rfl (World.ownsRow.alloc HO.out _) ⟨_, 0, none⟩ 1 1 [.int .i64 0, .int .i64 0, .string s] rfl rfl (three_newE _ _ _ _ _) (fun u hu => by simp at hu; rcases hu with rfl | rfl | rfl <;> rfl) (by omega) (by unfold maxLen; omega) (by omega) (by simp; omega) _ rfl ?_)
    intro g cap w3 hown hgrow hat hlt
    have HO3 : Hid (OwnE w3 B (.slice (some ⟨g, 0, none⟩) (es.length + 1) cap) (es ++ tx T)) := by
      rw [HX.out]
      unfold OwnE
      rw [List.length_append, c3_append, c3_one, ← HS.out]
      exact hown
    have HG3 : Hid (w.grownBy w3 v.ownBlock) := grown_trans (World.grownBy_alloc _ _ _) hgrow
    have HAT : Hid (∀ j, (Value.slice (some ⟨g, 0, none⟩) (es.length + 1) cap).ownBlock = some j → v.ownBlock = some j ∨ w.heap.size ≤ j) := by
      intro j hj
      obtain rfl : g = j := Option.some.inj hj
      rcases hat with h | h
      · exact Or.inl h
      · right; rw [h]; simp
    clear hown hgrow hat hlt
    go_wp2
    go_ret
    exact ⟨_, rfl, HO3.out, HG3.out, HAT.out⟩
end Go.Proofs.YtalolaajcmndeaaDoor
