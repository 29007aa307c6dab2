/- Bytes of one's own; a string behind them; addText. elements; Keep. Keep, Build. -/
import Derived.Test.YtafhogfbjklboaaDoorDelOrd
import Derived.Lib.AppendStr
import Derived.Deep.AppendLies
namespace Go.Proofs.YtafhogfbjklboaaDoor
open Go.RowKit Go.Sort Go.Lib
set_option linter.unusedSimpArgs false
set_option linter.unusedVariables false

/-- Bytes of one's own. -/
def OwnB (w : World) (B : Nat) (v : Value) (T : List UInt8) : Prop := w.ownsRow B 5 1 v T.length (byteCells T)
theorem OwnB.nil (w : World) (B : Nat) : OwnB w B (.slice none 0 0) [] := World.ownsRow_nil _ _ _ _
theorem OwnB.later {w w' : World} {B : Nat} {v : Value} {T : List UInt8} (h : OwnB w B v T) (hb : RowKit.Below w.heap.size w w') : OwnB w' B v T := by
  refine ⟨h.1, h.2.imp id ?_⟩
  rintro ⟨g, cap, cur, h1, h2, h3, h4⟩
  exact ⟨g, cap, cur, h1, h2, (hb.block g (Array.getElem?_eq_some_iff.1 h3).1).trans h3, h4⟩
theorem OwnB.shape {w : World} {B : Nat} {v : Value} {T : List UInt8} (h : OwnB w B v T) : ∃ a cap, v = .slice a T.length cap ∧ T.length ≤ cap ∧ ((a = none ∧ cap = 0 ∧ T = []) ∨ ∃ g, a = some ⟨g, 0, none⟩ ∧ g < w.heap.size) := by
  rcases h.2 with ⟨h1, h2⟩ | ⟨g, cap, cur, h1, _, h3, h4, _⟩
  · exact ⟨none, 0, by rw [h1, h2], by omega, Or.inl ⟨rfl, rfl, List.eq_nil_of_length_eq_zero h2⟩⟩
  · exact ⟨_, _, h1, h4, Or.inr ⟨g, rfl, (Array.getElem?_eq_some_iff.1 h3).1⟩⟩
/-- The row's beginning, nothing of it. -/
theorem OwnB.reset {w : World} {B g cap : Nat} {T : List UInt8} (h : OwnB w B (.slice (some ⟨g, 0, none⟩) T.length cap) T) : OwnB w B (.slice (some ⟨g, 0, none⟩) 0 cap) [] := by
  rcases h.2 with ⟨h1, _⟩ | ⟨g', cap', cur, h1, h2, h3, h4, h5, h6, h7⟩
  · cases h1
  · cases h1
    exact ⟨rfl, Or.inr ⟨g, cap, cur, rfl, h2, h3, Nat.zero_le _, h5, h6, by simp [byteCells]⟩⟩
theorem append_block_string {P : Program} (w : World) (base : Nat) (t u ty e : TypeId) (i : TypeInfo) (ht : P.underlying t = some (.slice e)) (hu : P.underlying u = some .string) (hi : P.info? e = some i) (hz : i.zero = some (.int .u8 0))
    (hsize : i.size = 1) (hby : i.bytes = 1)
    (v : Value) (n : Nat) (xs : List Value) (hown : w.ownsRow base e 1 v n xs) (s : ByteArray)
    (h63 : n + s.size ≤ maxLen) (hbytes : n + s.size ≤ 140737488355328) {v' : Value} {w' : World} (hr : (Builtin.append_ #[t, u] ty #[v, .string s]).run P w = .ok v' w') (hm : 0 < s.size) :
    v'.ownBlock = v.ownBlock ∨ v'.ownBlock = some w.heap.size := by
  have hsmall : n + s.size ≤ 9223372036854775807 := by simp only [maxLen] at h63; omega
  have hxl : xs.length = n := by simpa using hown.1
  rcases hown.2 with ⟨rfl, rfl⟩ | ⟨g, cap, cur, rfl, hbg, hg, hnc, hcm, hcs, htake⟩
  · have hq := run_append_nil_string (P := P) w t u ty e i (.int .u8 0) ht hu hi hz s hm (by omega) (by rw [hby]; omega)
    have := hr.symm.trans hq
    cases this
    exact Or.inr rfl
  · by_cases hroom : n + s.size ≤ cap
    · have hcs' : cur.size = cap := by simpa using hcs
      have hq := run_append_room_string (P := P) w t u ty e i ht hu hi hsize g n cap cur hg s hroom (by omega)
      have := hr.symm.trans hq
      cases this
      exact Or.inl rfl
    · have hq := run_append_grow_string (P := P) w t u ty e i (.int .u8 0) ht hu hi hz ⟨g, 0, none⟩ n cap xs (by rw [hsize]; simpa using hxl) (hown.cells (g := g) rfl) s (by omega) (by omega) (by rw [hby]; exact growslice_fits (by omega) (by omega))
      have := hr.symm.trans hq
      cases this
      exact Or.inr rfl
/-- A string behind bytes of one's own: the row lies where it lay, or is new. -/
theorem wpList_append_text8 {w : World} {ops : Array Oper} {rest : List Oper} {o : Oper} {a : Act} {Q : Exit → Act → World → Prop} (hgd : o.guard = none) (sl x : Operand)
    (ho : o.op = .call { callee := .builtin .append, args := #[sl, x], argTypes := #[45, 9] }) (B : Nat)
    (v : Value) (T : List UInt8) (hs : a.eval sl = v) (hown : OwnB w B v T) (s : ByteArray) (hx : a.eval x = .string s)
    (hb : T.length + s.size ≤ 1099511627776) (hB : B ≤ w.heap.size)
    (h : ∀ v' w', OwnB w' B v' (T ++ s.data.toList) → w.grownBy w' v.ownBlock → (v'.ownBlock = v.ownBlock ∨ v'.ownBlock = some w.heap.size ∨ v'.ownBlock = none) → wpList Tryd.prog ops Q rest (a.put o.dst v') w') : wpList Tryd.prog ops Q (o :: rest) a w := by
  obtain ⟨i0, hi, hz0, hz1, hz2⟩ := info_parts Tryd.info_u8
  refine wpList_plain hgd fun K hK => ?_
  have h63 : T.length + s.size ≤ maxLen := by unfold maxLen; omega
  obtain ⟨v', w', hr, h2, h3, h4⟩ := run_append_own_string (P := Tryd.prog) w B 45 9 o.type 5 i0 Tryd.underlying45 Tryd.underlying9 hi hz0 hz1 hz2 v T.length (byteCells T) hown s h63 (by omega) hB
  have hlies : v'.ownBlock = v.ownBlock ∨ v'.ownBlock = some w.heap.size ∨ v'.ownBlock = none := by
    by_cases hm : 0 < s.size
    · rcases append_block_string (P := Tryd.prog) w B 45 9 o.type 5 i0 Tryd.underlying45 Tryd.underlying9 hi hz0 hz1 hz2 v T.length (byteCells T) hown s h63 (by omega) hr hm with h | h
      · exact Or.inl h
      · exact Or.inr (Or.inl h)
    · rcases hown.2 with ⟨rfl, h0⟩ | ⟨g, cap, cur, rfl, hbg, hg, hnc, hcm, hcs, htake⟩
      · have := h4.2 ⟨rfl, by omega⟩
        rw [this]
        exact Or.inl rfl
      · have hcs' : cur.size = cap := by simpa using hcs
        have hq := run_append_room_string (P := Tryd.prog) w 45 9 o.type 5 i0 Tryd.underlying45 Tryd.underlying9 hi hz1 g T.length cap cur hg s (by omega) (by omega)
        have := hr.symm.trans hq
        cases this
        exact Or.inl rfl
  unfold Oper.wp execOp
  simp only [ho, resolve, invoke, builtin, Sem.run_bind, Sem.run_pure, Result.andThen_ok, List.map_toArray, List.map_cons, List.map_nil, hs, hx, hr]
  refine hK _ _ (h v' w' ?_ h3 hlies)
  unfold OwnB
  rw [List.length_append, byteCells_append, bytes_length]
  exact h2
theorem OwnB.conv {w : World} {B : Nat} {v : Value} {T : List UInt8} (h : OwnB w B v T) (hT : T ≠ []) : (convert 45 9 v).run Tryd.prog w = .ok (.string (cacc T)) w := by
  rcases h.2 with ⟨h1, h2⟩ | ⟨g, cap, cur, h1, _, h3, h4, _⟩
  · exact absurd (List.eq_nil_of_length_eq_zero h2) hT
  · have hc := World.ownsRow.cells h (g := g) (by rw [h1]; rfl)
    rw [h1]
    exact run_convert_bytes_back (P := Tryd.prog) w 45 9 5 ⟨g, 0, none⟩ cap T Tryd.underlying45 Tryd.underlying5 Tryd.underlying9 (fun j hj => hc j _ (by simp [byteCells, hj]))
/-- Rows of one's own, apart. -/
def Apart (u v : Value) : Prop := u.ownBlock = none ∨ u.ownBlock ≠ v.ownBlock
set_option maxHeartbeats 2000000 in
set_option maxRecDepth 100000 in
theorem addText_any (B B' : Nat) (v u : Value) (es : List El) (T : List UInt8) (w : World) (hB : B ≤ w.heap.size) (hl : es.length ≤ 1000000) (hT : T.length ≤ 1000000) (ho : OwnE w B v es) (hu : OwnB w B' u T) :
    Calls Tryd.prog 60 #[v, u] w fun e w' => ∃ v', e = .returned v' ∧ OwnE w' B v' (es ++ tx T) ∧ w.grownBy w' v.ownBlock ∧ (∀ j, v'.ownBlock = some j → v.ownBlock = some j ∨ w.heap.size ≤ j) := by
  obtain ⟨i0, hi, hz0, hz1, hz2⟩ := info_parts Tryd.info_el
  obtain ⟨ua, ucap, hue, hucap, _⟩ := hu.shape
  by_cases h0 : T = []
  · have HX : Hid (es ++ tx T = es) := by show _ = _; rw [h0]; simp [tx]
    have hl0 : T.length = 0 := by rw [h0]; rfl
    rw [hl0] at hue hucap
    subst hue
    clear h0 hu
    go_enter Tryd.func60, Tryd.ntmps60
    go_wp2
    go_ret
    exact ⟨v, rfl, by rw [HX.out]; exact ho, ⟨rfl, rfl, rfl, Nat.le_refl _, fun _ _ _ => rfl⟩, fun j hj => Or.inl hj⟩
  · have HX : Hid (es ++ tx T = es ++ [(0, 0, T)]) := by show _ = _; unfold tx; rw [if_neg h0]
    have hne : T.length ≠ 0 := fun e => h0 (List.eq_nil_of_length_eq_zero e)
    have hcv := hu.conv h0
    have HO := Hid.mk7 ho
    have hz : ((T.length : Int) == 0) = false := by simp; omega
    have hz' : (T.length == 0) = false := by simpa using hne
    rw [hue] at hcv
    rw [hue]
    clear hue h0 hu ho
    obtain ⟨s, HS⟩ : ∃ s, Hid (s = cacc T) := ⟨_, rfl⟩
    rw [← HS.out] at hcv
    go_enter Tryd.func60, Tryd.ntmps60
    go_wp2_with (at_builtin; refine wpList_append_lies _ rfl _ _ 23 rfl B 55 i0 (.agg #[.int .i64 0, .int .i64 0, .string ⟨#[]⟩]) 3 32 Tryd.underlying23 hi hz0 hz1 hz2 rfl (by decide) _ _ _ rfl (World.ownsRow.alloc HO.out _) ⟨_, 0, none⟩ 1 1 [.int .i64 0, .int .i64 0, .string s] rfl rfl (three_newE _ _ _ _ _) (fun u hu => by simp at hu; rcases hu with rfl | rfl | rfl <;> rfl) (by omega) (by unfold maxLen; omega) (by omega) (by simp; omega) _ rfl ?_)
    intro g cap w3 hown hgrow hat hlt
    have HO3 : Hid (OwnE w3 B (.slice (some ⟨g, 0, none⟩) (es.length + 1) cap) (es ++ tx T)) := by
      rw [HX.out]
      unfold OwnE
      rw [List.length_append, c3_append, c3_one, ← HS.out]
      exact hown
    have HG3 : Hid (w.grownBy w3 v.ownBlock) := grown_trans (World.grownBy_alloc _ _ _) hgrow
    have HAT : Hid (∀ j, (Value.slice (some ⟨g, 0, none⟩) (es.length + 1) cap).ownBlock = some j → v.ownBlock = some j ∨ w.heap.size ≤ j) := by
      intro j hj
      obtain rfl : g = j := Option.some.inj hj
      rcases hat with h | h
      · exact Or.inl h
      · right; rw [h]; simp
    clear hown hgrow hat hlt
    go_wp2
    go_ret
    exact ⟨_, rfl, HO3.out, HG3.out, HAT.out⟩
end Go.Proofs.YtafhogfbjklboaaDoor
namespace Go.Proofs.YtafhogfbjklboaaDoor
open Go.RowKit Go.Sort Go.Lib
set_option linter.unusedSimpArgs false
set_option linter.unusedVariables false

theorem Rc.grown {w w' : World} {row : Option Nat} {g : Nat} {x y z : Value} (h : Rc w g x y z) (hg : w.grownBy w' row) (hne : some g ≠ row) : Rc w' g x y z := (hg.block g h.lt hne).trans h
theorem OwnE.lt {w : World} {B : Nat} {v : Value} {es : List El} (h : OwnE w B v es) {g : Nat} (hg : v.ownBlock = some g) : B ≤ g ∧ g < w.heap.size := World.ownsRow.lt h g hg
theorem OwnB.lt {w : World} {B : Nat} {v : Value} {T : List UInt8} (h : OwnB w B v T) {g : Nat} (hg : v.ownBlock = some g) : B ≤ g ∧ g < w.heap.size := World.ownsRow.lt h g hg
theorem OwnB.kept {w w' : World} {row : Option Nat} {B : Nat} {v : Value} {T : List UInt8} (h : OwnB w B v T) (hg : w.grownBy w' row) (hne : v.ownBlock = none ∨ v.ownBlock ≠ row) : OwnB w' B v T := World.ownsRow.kept h hg hne
theorem OwnE.kept {w w' : World} {row : Option Nat} {B : Nat} {v : Value} {es : List El} (h : OwnE w B v es) (hg : w.grownBy w' row) (hne : v.ownBlock = none ∨ v.ownBlock ≠ row) : OwnE w' B v es := World.ownsRow.kept h hg hne
theorem OwnB.alloc {w : World} {B : Nat} {v : Value} {T : List UInt8} (h : OwnB w B v T) (o : Obj) : OwnB (w.alloc o) B v T := World.ownsRow.alloc h o
theorem elG_skip {base : Int} {txt : List UInt8} {en : Int} {l : List El} {k : Nat} {f : Int} (hr : l[k]? = some (f, f, [])) : elG base txt en (l.drop k) = elG base txt en (l.drop (k + 1)) := by
  rw [drop_consE hr, elG, if_pos ⟨rfl, rfl⟩]
theorem elG_copy {base : Int} {txt : List UInt8} {en : Int} {l : List El} {k : Nat} {f t : Int} {T : List UInt8} (hr : l[k]? = some (f, t, T)) (hn : ¬ (f = t ∧ T = [])) (he : en < f) : elG base txt en (l.drop k) = tx txt ++ (en, f, []) :: elG base T t (l.drop (k + 1)) := by
  rw [drop_consE hr, elG, if_neg hn, if_pos he]
theorem elG_text {base : Int} {txt : List UInt8} {en : Int} {l : List El} {k : Nat} {f t : Int} {T : List UInt8} (hr : l[k]? = some (f, t, T)) (hn : ¬ (f = t ∧ T = [])) (he : ¬ en < f) : elG base txt en (l.drop k) = elG base (txt ++ T) t (l.drop (k + 1)) := by
  rw [drop_consE hr, elG, if_neg hn, if_neg he]
theorem inS_take_le (l : List El) (k : Nat) : inS (l.take k) ≤ inS l := by
  conv => rhs; rw [← List.take_append_drop k l, inS_append]
  omega
theorem inS_take {l : List El} {k : Nat} {e : El} (hr : l[k]? = some e) : inS (l.take (k + 1)) = inS (l.take k) + e.2.2.length := by
  rw [take_snoc7 hr, inS_append]; simp [inS]
/-- What the loop hands on. -/
structure Em (base : Int) (l : List El) (W : World) (B : Nat) (wr : World) (k : Nat) (ev tv : Value) (acc : List El) (txt : List UInt8) (en : Int) : Prop where
  eo : OwnE wr B ev acc
  tw : OwnB wr B tv txt
  ap : ∀ j, ev.ownBlock = some j → tv.ownBlock ≠ some j
  el : acc.length ≤ 2 * k
  tl : txt.length ≤ inS (l.take k)
  eq : elG base [] 0 l = acc ++ elG base txt en (l.drop k)
  be : RowKit.Below W.heap.size W wr
theorem reset_value {a : Option Addr} {cap : Nat} {W : World} {B : Nat} {txt : List UInt8} (h : OwnB W B (.slice a txt.length cap) txt) : OwnB W B (.slice a 0 cap) [] ∧ (Value.slice a 0 cap).ownBlock = (Value.slice a txt.length cap).ownBlock := by
  obtain ⟨a', cap', e, _, h2⟩ := h.shape
  cases e
  rcases h2 with ⟨rfl, rfl, _⟩ | ⟨g, rfl, _⟩
  · exact ⟨OwnB.nil _ _, rfl⟩
  · exact ⟨h.reset, rfl⟩
set_option maxHeartbeats 8000000 in
set_option maxRecDepth 100000 in
theorem elements_any {w : World} {v : Value} {l : List El} (base : Int) (h : ElAt w v l) (hl : l.length ≤ 1000) (hin : inS l ≤ 100000) :
    Calls Tryd.prog 42 #[.int .i64 base, v] w fun e w' => ∃ v', e = .returned v' ∧ OwnE w' w.heap.size v' (elG base [] 0 l) ∧ RowKit.Below w.heap.size w w' := by
  obtain ⟨i0, hi, hz0, hz1, hz2⟩ := info_parts Tryd.info_el
  have HI := Hid.mk7 hi
  obtain ⟨a, cap, rfl, hcap, _, hcells⟩ := h
  have HC := Hid.mk7 hcells
  clear hcells hi
  go_enter Tryd.func42, Tryd.ntmps42
  go_wp2
  go_loopw [5, 6, 7, 12] (fun ev tv nv iv wr => ∃ (k : Nat) (acc : List El) (txt : List UInt8) (en : Int), k ≤ l.length ∧ iv = .int .i64 (k : Nat) ∧ nv = .int .i64 en ∧ Hid (Em base l w w.heap.size wr k ev tv acc txt en)) (fun _ _ _ iv _ => l.length - (intOf iv).toNat)
  case atStart => exact ⟨0, [], [], 0, Nat.zero_le _, rfl, rfl, ⟨OwnE.nil _ _, OwnB.nil _ _, (fun j h => by cases h), Nat.le_refl _, Nat.zero_le _, rfl, RowKit.Below.refl _ _⟩⟩
  case round =>
    obtain ⟨k, acc, txt, en, hk, rfl, rfl, HE⟩ := hrel
    have hacc := HE.out.el
    have htxt := Nat.le_trans HE.out.tl (inS_take_le l k)
    have hb := HE.out.be
    have hsz := hb.size
    by_cases hlt : k < l.length
    · obtain ⟨⟨f, t, T⟩, hr⟩ : ∃ r, l[k]? = some r := ⟨l[k], List.getElem?_eq_getElem hlt⟩
      obtain ⟨g, off, rfl, q0, q1, q2⟩ := HC.out k _ hr
      have c0 := cell_later7 hb (Nat.le_refl _) q0
      have c1 := cell_later7 hb (Nat.le_refl _) q1
      have c2 := cell_later7 hb (Nat.le_refl _) q2
      simp only at c0 c1 c2
      have HR := Hid.mk7 hr
      have hTT : T.length ≤ inS (l.take (k + 1)) - inS (l.take k) := by rw [inS_take hr]; simp
      have hTI := inS_take_le l (k + 1)
      have hT1 : T.length ≤ 100000 := by omega
      have ht1 : txt.length ≤ 100000 := by omega
      have RC := Rc.new wr (.int .i64 f) (.int .i64 t) (.string (cacc T))
      have HEO := Hid.mk7 (HE.out.eo.alloc (.cells #[.int .i64 f, .int .i64 t, .string (cacc T)] 51))
      have HTO := Hid.mk7 (HE.out.tw.alloc (.cells #[.int .i64 f, .int .i64 t, .string (cacc T)] 51))
      have HNE : Hid (∀ j, u5.ownBlock = some j → j ≠ wr.heap.size) := fun j hj => by have := (HE.out.eo.lt hj).2; omega
      have HNT : Hid (∀ j, u6.ownBlock = some j → j ≠ wr.heap.size) := fun j hj => by have := (HE.out.tw.lt hj).2; omega
      have HBX := Hid.mk7 (hb.alloc hsz (.cells #[.int .i64 f, .int .i64 t, .string (cacc T)] 51))
      have hcs : (cacc T).size = T.length := cacc_size T
      have HCT : Hid ((cacc T).data.toList = T) := rfl
      clear q0 q1 q2 hr hTT
      generalize hs : cacc T = s at *
      have HRC := Hid.mk7 RC
      have HSC := Hid.mk7 hs
      clear RC hs
      by_cases hskip : f = t ∧ T = []
      · obtain ⟨rfl, hT0⟩ := hskip
        have hs0 : s.size = 0 := by rw [hcs, hT0]; rfl
        have HEX : Hid (Em base l w w.heap.size (wr.alloc (.cells #[.int .i64 f, .int .i64 f, .string s] 51)) (k + 1) u5 u6 acc txt en) := by
          have hr := HR.out
          rw [hT0] at hr
          refine ⟨HEO.out, HTO.out, HE.out.ap, by omega, ?_, by rw [HE.out.eq, elG_skip hr], HBX.out⟩
          rw [inS_take hr]
          have := HE.out.tl
          simp only [List.length_nil]; omega
        clear HE HEO HTO HNE HNT HBX HRC hcs HCT HSC
        obtain rfl := eq_of_size hs0
        clear hs0
        go_wp2
        go_roundw
        case rel => exact ⟨k + 1, acc, txt, en, by omega, by go_num, rfl, HEX⟩
        case measure => simp [intOf]; omega
      · have hfts : (f = t ∧ ¬ s.toList.isEmpty = true) ∨ f ≠ t := by
          by_cases hft : f = t
          · left
            refine ⟨hft, ?_⟩
            have : s.size ≠ 0 := by rw [hcs]; exact fun e => hskip ⟨hft, List.eq_nil_of_length_eq_zero e⟩
            have := (size_of_ne this).1
            rw [this]; simp
          · exact Or.inr hft
        have HNS := Hid.mk7 hskip
        clear hskip
        by_cases hen : en < f
        · have HQ := Hid.mk7 (elG_copy (base := base) (txt := txt) HR.out HNS.out hen)
          have den : decide (en < f) = true := decide_eq_true hen
          rcases hfts with ⟨hft, hse⟩ | hft
          · subst hft
            have hse2 : s.toList.isEmpty = false := by simpa using hse
            have hse3 : ¬ s.toList = [] := by simpa using hse
            clear hse
            have hzz : w.heap.size ≤ wr.heap.size := hsz
            obtain ⟨ac2, HA2⟩ : ∃ x, Hid (acc ++ tx txt = x) := ⟨_, rfl⟩
            have hEL : ac2.length ≤ 2 * k + 1 := by
              rw [← HA2.out, List.length_append]
              have : (tx txt).length ≤ 1 := by unfold tx; split <;> simp
              omega
            go_upto_region 9 with fail
            generalize hz : wr.heap.size = z at *
            generalize wr.alloc (.cells #[.int .i64 f, .int .i64 f, .string s] 51) = W at *
            have c9 := HRC.out.c0
            go_cut [5] from 30 to 38 (fun s5 wx => Hid (OwnE wx w.heap.size s5 (ac2 ++ [(en, f, [])])) ∧ Hid (OwnB wx w.heap.size u6 txt) ∧ Hid (Rc wx z (.int .i64 f) (.int .i64 f) (.string s)) ∧ Hid (∀ j, s5.ownBlock = some j → u6.ownBlock ≠ some j) ∧ Hid (RowKit.Below w.heap.size w wx))
            case first =>
              refine wp_region_turns (fun w' => ∃ x0 : (GW (fun W => W.cell? ⟨z, 0, none⟩ = some (.int .i64 f))), w' = x0.w) [0, 1, 3, 4, 5] 9 5 (by kernel_rfl) (by kernel_rfl) (fun d => ⟨⟨redrawn W d, c9⟩, rfl⟩) ?_
              intro d
              have k0 : ∀ x0 : (GW (fun W => W.cell? ⟨z, 0, none⟩ = some (.int .i64 f))), x0.w.cell? ⟨z, 0, none⟩ = some (.int .i64 f) := fun x0 => x0.h
              simp only [pickAll, pickAt, List.nil_append, List.cons_append, List.append_nil]
              have hne : Nonempty (GW (fun W => W.cell? ⟨z, 0, none⟩ = some (.int .i64 f))) := ⟨⟨W, c9⟩⟩
              clear c0 c1 c2
              repeat (go_big_quiet_step (fail))
              refine wpQuiet_nil ?_
              clear hne k0 c9
              have bd := below_redrawnE W d
              have E0 := Hid.mk7 (HEO.out.later bd)
              have T0 := Hid.mk7 (HTO.out.later bd)
              have R0 := Hid.mk7 (HRC.out.later bd)
              have B0 := Hid.mk7 (HBX.out.trans (bd.mono HBX.out.size))
              have hNE := HNE.out
              generalize redrawn W d = W0 at *
              refine anyC_pick2 2 6 (by kernel_rfl) (by kernel_rfl) (by kernel_rfl) ?_ ?_
              · simp only [pickAll, pickAt, List.nil_append, List.cons_append, List.append_nil]
                go_wp2_with fail
                refine (addText_any w.heap.size w.heap.size u5 u6 acc txt W0 B0.out.size (by omega) (by omega) E0.out T0.out).mono ?_
                rintro e w1 ⟨v1, rfl, o1, g1, l1⟩
                rw [HA2.out] at o1
                have E1 := Hid.mk7 (o1.alloc (.cells #[.int .i64 en, .int .i64 f, .string ⟨#[]⟩] 55))
                have T1 := Hid.mk7 ((T0.out.kept g1 (by
                  rcases e : u6.ownBlock with _ | j
                  · exact Or.inl rfl
                  · exact Or.inr fun h => HE.out.ap j h.symm e)).alloc (.cells #[.int .i64 en, .int .i64 f, .string ⟨#[]⟩] 55))
                have R1 := Hid.mk7 (R0.out.grown g1 (fun h => hNE z h.symm rfl))
                have R1' := Hid.mk7 (R1.out.alloc (.cells #[.int .i64 en, .int .i64 f, .string ⟨#[]⟩] 55))
                have B1 := Hid.mk7 (B0.out.grown g1 B0.out.size (fun j hj => (E0.out.lt hj).1))
                have B1' := Hid.mk7 (B1.out.alloc B1.out.size (.cells #[.int .i64 en, .int .i64 f, .string ⟨#[]⟩] 55))
                have L1 := Hid.mk7 l1
                have S1 := Hid.mk7 g1.size
                have RE := Hid.mk7 (Re.new w1 (.int .i64 en) (.int .i64 f) (.string ⟨#[]⟩))
                clear o1 g1 l1 bd
                go_wp2
                refine anyNext_mk ⟨⟨_, R1.out.c0⟩, rfl⟩ ?_
                refine anyC_pick1 6 (by kernel_rfl) (by kernel_rfl) ?_
                simp only [pickAll, pickAt, List.nil_append, List.cons_append, List.append_nil]
                go_wp2
                refine anyNext_mk ⟨⟨_, R1.out.c0⟩, rfl⟩ ?_
                refine anyC_pick1 7 (by kernel_rfl) (by kernel_rfl) ?_
                simp only [pickAll, pickAt, List.nil_append, List.cons_append, List.append_nil]
                go_wp2
                refine anyNext_mk ⟨⟨_, R1'.out.c0⟩, rfl⟩ ?_
                refine anyC_pick1 8 (by kernel_rfl) (by kernel_rfl) ?_
                simp only [pickAll, pickAt, List.nil_append, List.cons_append, List.append_nil]
                go_wp2_with (at_builtin; refine wpList_append_lies _ rfl _ _ 23 rfl w.heap.size 55 i0 (.agg #[.int .i64 0, .int .i64 0, .string ⟨#[]⟩]) 3 32 Tryd.underlying23 HI.out hz0 hz1 hz2 rfl (by decide) _ _ _ rfl E1.out ⟨_, 0, none⟩ 1 1 [.int .i64 en, .int .i64 f, .string ⟨#[]⟩] rfl rfl (World.news_of_block RE.out) (fun u hu => by simp at hu; rcases hu with rfl | rfl | rfl <;> rfl) (by omega) (by unfold maxLen; omega) (by omega) B1'.out.size _ rfl ?_)
                intro gg cap2 w3 hown hgrow hat hlt
                have E3 : Hid (OwnE w3 w.heap.size (.slice (some ⟨gg, 0, none⟩) (ac2.length + 1) cap2) (ac2 ++ [(en, f, [])])) := by
                  unfold OwnE
                  rw [List.length_append, c3_append, c3_one]
                  exact hown
                have T3 := Hid.mk7 (T1.out.kept hgrow (by
                  rcases e : u6.ownBlock with _ | j
                  · exact Or.inl rfl
                  · right
                    intro h
                    rcases L1.out j h.symm with h2 | h2
                    · exact HE.out.ap j h2 e
                    · have := (T0.out.lt e).2; omega))
                have R3 := Hid.mk7 (R1'.out.grown hgrow (by
                  intro h
                  rcases L1.out z h.symm with h2 | h2
                  · exact hNE z h2 rfl
                  · have := R0.out.lt; omega))
                have B3 := Hid.mk7 (B1'.out.grown hgrow B1'.out.size (fun j hj => (E1.out.lt hj).1))
                have A3 : Hid (∀ j, (Value.slice (some ⟨gg, 0, none⟩) (ac2.length + 1) cap2).ownBlock = some j → u6.ownBlock ≠ some j) := by
                  intro j hj e
                  obtain rfl : gg = j := Option.some.inj hj
                  have h5 := (T0.out.lt e).2
                  rcases hat with h | h
                  · rcases L1.out gg h with h2 | h2
                    · exact HE.out.ap gg h2 e
                    · omega
                  · have h6 := S1.out
                    try simp at h
                    omega
                clear hown hgrow hat hlt E1 T1 R1 R1' B1 B1' L1 S1 RE
                go_wp2
                refine anyNext_mk ⟨⟨_, R3.out.c0⟩, rfl⟩ ?_
                refine anyC_pick1 9 (by kernel_rfl) (by kernel_rfl) ?_
                simp only [pickAll, pickAt, List.nil_append, List.cons_append, List.append_nil]
                go_wp2
                refine anyNext_last (anyC_done (by kernel_rfl) ?_)
                go_wp2
                go_meet
                exact ⟨E3, T3, R3, A3, B3⟩
              · simp only [pickAll, pickAt, List.nil_append, List.cons_append, List.append_nil]
                go_wp2
                refine anyNext_mk ⟨⟨_, R0.out.c0⟩, rfl⟩ ?_
                refine anyC_pick2 2 7 (by kernel_rfl) (by kernel_rfl) (by kernel_rfl) ?_ ?_
                · simp only [pickAll, pickAt, List.nil_append, List.cons_append, List.append_nil]
                  go_wp2_with fail
                  refine (addText_any w.heap.size w.heap.size u5 u6 acc txt W0 B0.out.size (by omega) (by omega) E0.out T0.out).mono ?_
                  rintro e w1 ⟨v1, rfl, o1, g1, l1⟩
                  rw [HA2.out] at o1
                  have E1 := Hid.mk7 (o1.alloc (.cells #[.int .i64 en, .int .i64 f, .string ⟨#[]⟩] 55))
                  have T1 := Hid.mk7 ((T0.out.kept g1 (by
                    rcases e : u6.ownBlock with _ | j
                    · exact Or.inl rfl
                    · exact Or.inr fun h => HE.out.ap j h.symm e)).alloc (.cells #[.int .i64 en, .int .i64 f, .string ⟨#[]⟩] 55))
                  have R1 := Hid.mk7 (R0.out.grown g1 (fun h => hNE z h.symm rfl))
                  have R1' := Hid.mk7 (R1.out.alloc (.cells #[.int .i64 en, .int .i64 f, .string ⟨#[]⟩] 55))
                  have B1 := Hid.mk7 (B0.out.grown g1 B0.out.size (fun j hj => (E0.out.lt hj).1))
                  have B1' := Hid.mk7 (B1.out.alloc B1.out.size (.cells #[.int .i64 en, .int .i64 f, .string ⟨#[]⟩] 55))
                  have L1 := Hid.mk7 l1
                  have S1 := Hid.mk7 g1.size
                  have RE := Hid.mk7 (Re.new w1 (.int .i64 en) (.int .i64 f) (.string ⟨#[]⟩))
                  clear o1 g1 l1 bd
                  go_wp2
                  refine anyNext_mk ⟨⟨_, R1.out.c0⟩, rfl⟩ ?_
                  refine anyC_pick1 7 (by kernel_rfl) (by kernel_rfl) ?_
                  simp only [pickAll, pickAt, List.nil_append, List.cons_append, List.append_nil]
                  go_wp2
                  refine anyNext_mk ⟨⟨_, R1'.out.c0⟩, rfl⟩ ?_
                  refine anyC_pick1 8 (by kernel_rfl) (by kernel_rfl) ?_
                  simp only [pickAll, pickAt, List.nil_append, List.cons_append, List.append_nil]
                  go_wp2_with (at_builtin; refine wpList_append_lies _ rfl _ _ 23 rfl w.heap.size 55 i0 (.agg #[.int .i64 0, .int .i64 0, .string ⟨#[]⟩]) 3 32 Tryd.underlying23 HI.out hz0 hz1 hz2 rfl (by decide) _ _ _ rfl E1.out ⟨_, 0, none⟩ 1 1 [.int .i64 en, .int .i64 f, .string ⟨#[]⟩] rfl rfl (World.news_of_block RE.out) (fun u hu => by simp at hu; rcases hu with rfl | rfl | rfl <;> rfl) (by omega) (by unfold maxLen; omega) (by omega) B1'.out.size _ rfl ?_)
                  intro gg cap2 w3 hown hgrow hat hlt
                  have E3 : Hid (OwnE w3 w.heap.size (.slice (some ⟨gg, 0, none⟩) (ac2.length + 1) cap2) (ac2 ++ [(en, f, [])])) := by
                    unfold OwnE
                    rw [List.length_append, c3_append, c3_one]
                    exact hown
                  have T3 := Hid.mk7 (T1.out.kept hgrow (by
                    rcases e : u6.ownBlock with _ | j
                    · exact Or.inl rfl
                    · right
                      intro h
                      rcases L1.out j h.symm with h2 | h2
                      · exact HE.out.ap j h2 e
                      · have := (T0.out.lt e).2; omega))
                  have R3 := Hid.mk7 (R1'.out.grown hgrow (by
                    intro h
                    rcases L1.out z h.symm with h2 | h2
                    · exact hNE z h2 rfl
                    · have := R0.out.lt; omega))
                  have B3 := Hid.mk7 (B1'.out.grown hgrow B1'.out.size (fun j hj => (E1.out.lt hj).1))
                  have A3 : Hid (∀ j, (Value.slice (some ⟨gg, 0, none⟩) (ac2.length + 1) cap2).ownBlock = some j → u6.ownBlock ≠ some j) := by
                    intro j hj e
                    obtain rfl : gg = j := Option.some.inj hj
                    have h5 := (T0.out.lt e).2
                    rcases hat with h | h
                    · rcases L1.out gg h with h2 | h2
                      · exact HE.out.ap gg h2 e
                      · omega
                    · have h6 := S1.out
                      try simp at h
                      omega
                  clear hown hgrow hat hlt E1 T1 R1 R1' B1 B1' L1 S1 RE
                  go_wp2
                  refine anyNext_mk ⟨⟨_, R3.out.c0⟩, rfl⟩ ?_
                  refine anyC_pick1 9 (by kernel_rfl) (by kernel_rfl) ?_
                  simp only [pickAll, pickAt, List.nil_append, List.cons_append, List.append_nil]
                  go_wp2
                  refine anyNext_last (anyC_done (by kernel_rfl) ?_)
                  go_wp2
                  go_meet
                  exact ⟨E3, T3, R3, A3, B3⟩
                · simp only [pickAll, pickAt, List.nil_append, List.cons_append, List.append_nil]
                  go_wp2
                  have RE0 := Hid.mk7 (Re.new W0 (.int .i64 en) (.int .i64 f) (.string ⟨#[]⟩))
                  have E1 := Hid.mk7 (E0.out.alloc (.cells #[.int .i64 en, .int .i64 f, .string ⟨#[]⟩] 55))
                  have T1 := Hid.mk7 (T0.out.alloc (.cells #[.int .i64 en, .int .i64 f, .string ⟨#[]⟩] 55))
                  have R1 := Hid.mk7 (R0.out.alloc (.cells #[.int .i64 en, .int .i64 f, .string ⟨#[]⟩] 55))
                  have B1 := Hid.mk7 (B0.out.alloc B0.out.size (.cells #[.int .i64 en, .int .i64 f, .string ⟨#[]⟩] 55))
                  refine anyNext_mk ⟨⟨_, R1.out.c0⟩, rfl⟩ ?_
                  refine anyC_pick1 2 (by kernel_rfl) (by kernel_rfl) ?_
                  simp only [pickAll, pickAt, List.nil_append, List.cons_append, List.append_nil]
                  have hNB : ∀ j, u5.ownBlock = some j → j ≠ W0.heap.size := fun j hj => by have := (E0.out.lt hj).2; omega
                  have hbz : W0.heap.size < (W0.alloc (.cells #[.int .i64 en, .int .i64 f, .string ⟨#[]⟩] 55)).heap.size := by simp
                  generalize W0.heap.size = bb at *
                  generalize W0.alloc (.cells #[.int .i64 en, .int .i64 f, .string ⟨#[]⟩] 55) = W1 at *
                  clear E0 T0 R0 B0 bd
                  go_wp2_with fail
                  refine (addText_any w.heap.size w.heap.size u5 u6 acc txt W1 B1.out.size (by omega) (by omega) E1.out T1.out).mono ?_
                  rintro e w2 ⟨v1, rfl, o1, g1, l1⟩
                  rw [HA2.out] at o1
                  have E2 := Hid.mk7 o1
                  have T2 := Hid.mk7 (T1.out.kept g1 (by
                    rcases e : u6.ownBlock with _ | j
                    · exact Or.inl rfl
                    · exact Or.inr fun h => HE.out.ap j h.symm e))
                  have R2 := Hid.mk7 (R1.out.grown g1 (fun h => hNE z h.symm rfl))
                  have B2 := Hid.mk7 (B1.out.grown g1 B1.out.size (fun j hj => (E1.out.lt hj).1))
                  have L1 := Hid.mk7 l1
                  have S1 := Hid.mk7 g1.size
                  have RE : Hid (Re w2 bb (.int .i64 en) (.int .i64 f) (.string ⟨#[]⟩)) := (g1.block bb hbz (fun h => hNB bb h.symm rfl)).trans RE0.out
                  clear o1 g1 l1 RE0
                  go_wp2
                  refine anyNext_mk ⟨⟨_, R2.out.c0⟩, rfl⟩ ?_
                  refine anyC_pick1 8 (by kernel_rfl) (by kernel_rfl) ?_
                  simp only [pickAll, pickAt, List.nil_append, List.cons_append, List.append_nil]
                  go_wp2_with (at_builtin; refine wpList_append_lies _ rfl _ _ 23 rfl w.heap.size 55 i0 (.agg #[.int .i64 0, .int .i64 0, .string ⟨#[]⟩]) 3 32 Tryd.underlying23 HI.out hz0 hz1 hz2 rfl (by decide) _ _ _ rfl E2.out ⟨_, 0, none⟩ 1 1 [.int .i64 en, .int .i64 f, .string ⟨#[]⟩] rfl rfl (World.news_of_block RE.out) (fun u hu => by simp at hu; rcases hu with rfl | rfl | rfl <;> rfl) (by omega) (by unfold maxLen; omega) (by omega) B2.out.size _ rfl ?_)
                  intro gg cap2 w3 hown hgrow hat hlt
                  have E3 : Hid (OwnE w3 w.heap.size (.slice (some ⟨gg, 0, none⟩) (ac2.length + 1) cap2) (ac2 ++ [(en, f, [])])) := by
                    unfold OwnE
                    rw [List.length_append, c3_append, c3_one]
                    exact hown
                  have T3 := Hid.mk7 (T2.out.kept hgrow (by
                    rcases e : u6.ownBlock with _ | j
                    · exact Or.inl rfl
                    · right
                      intro h
                      rcases L1.out j h.symm with h2 | h2
                      · exact HE.out.ap j h2 e
                      · have := (T1.out.lt e).2; omega))
                  have R3 := Hid.mk7 (R2.out.grown hgrow (by
                    intro h
                    rcases L1.out z h.symm with h2 | h2
                    · exact hNE z h2 rfl
                    · have := R1.out.lt; omega))
                  have B3 := Hid.mk7 (B2.out.grown hgrow B2.out.size (fun j hj => (E2.out.lt hj).1))
                  have A3 : Hid (∀ j, (Value.slice (some ⟨gg, 0, none⟩) (ac2.length + 1) cap2).ownBlock = some j → u6.ownBlock ≠ some j) := by
                    intro j hj e
                    obtain rfl : gg = j := Option.some.inj hj
                    have h5 := (T1.out.lt e).2
                    rcases hat with h | h
                    · rcases L1.out gg h with h2 | h2
                      · exact HE.out.ap gg h2 e
                      · omega
                    · have h6 := S1.out
                      omega
                  clear hown hgrow hat hlt E1 T1 R1 B1 E2 T2 R2 B2 L1 S1 RE
                  go_wp2
                  refine anyNext_mk ⟨⟨_, R3.out.c0⟩, rfl⟩ ?_
                  refine anyC_pick1 9 (by kernel_rfl) (by kernel_rfl) ?_
                  simp only [pickAll, pickAt, List.nil_append, List.cons_append, List.append_nil]
                  go_wp2
                  refine anyNext_last (anyC_done (by kernel_rfl) ?_)
                  go_wp2
                  go_meet
                  exact ⟨E3, T3, R3, A3, B3⟩
            case rest =>
              obtain ⟨E3, T3, R3, A3, B3⟩ := hcut
              have HNZ : Hid (u6.ownBlock ≠ some z) := fun h => HNT.out z h rfl
              clear c9 HEO HTO HNE HNT HBX HRC c0 c1 c2
              obtain ⟨ta, tcap, rfl, htc, htg⟩ := T3.out.shape
              obtain ⟨hrs, hrb⟩ := reset_value T3.out
              have T4 := Hid.mk7 hrs
              have HRB := Hid.mk7 hrb
              have r0 := R3.out.c0
              have r1 := R3.out.c1
              have r2 := R3.out.c2
              clear hrs hrb htg
              go_wp2_with (at_builtin; refine wpList_append_text8 rfl _ _ rfl w.heap.size _ [] rfl T4.out s rfl (by simp only [List.length_nil]; omega) B3.out.size ?_)
              intro tv2 w4 hown2 hgrow2 hlie2
              have HT2 : Hid (OwnB w4 w.heap.size tv2 ([] ++ T)) := by rw [← HCT.out]; exact hown2
              have HE2 : Hid (OwnE w4 w.heap.size u5 (ac2 ++ [(en, f, [])])) := E3.out.kept hgrow2 (by
                rcases e : u5.ownBlock with _ | j
                · exact Or.inl rfl
                · exact Or.inr (fun h => A3.out j e (by rw [← HRB.out]; exact h.symm)))
              have HR2 := Hid.mk7 (R3.out.grown hgrow2 (fun h => HNZ.out (by rw [← HRB.out]; exact h.symm)))
              have HB2 : Hid (RowKit.Below w.heap.size w w4) := B3.out.grown hgrow2 B3.out.size (fun j hj => (T4.out.lt hj).1)
              have HAP : Hid (∀ j, u5.ownBlock = some j → tv2.ownBlock ≠ some j) := by
                intro j hj h
                rcases hlie2 with h1 | h1 | h1
                · exact A3.out j hj (by rw [← HRB.out]; exact h1.symm.trans h)
                · have h2 := (E3.out.lt hj).2
                  rw [h1] at h
                  simp at h
                  omega
                · rw [h1] at h; cases h
              have HEX : Hid (Em base l w w.heap.size w4 (k + 1) u5 tv2 (ac2 ++ [(en, f, [])]) T f) := by
                refine ⟨HE2.out, HT2.out, HAP.out, ?_, ?_, ?_, HB2.out⟩
                · rw [List.length_append]; simp only [List.length_cons, List.length_nil]; omega
                · rw [inS_take HR.out]; simp only; omega
                · rw [HE.out.eq, HQ.out, ← HA2.out]; simp
              have d1 := HR2.out.c1
              clear HE HCT HSC hown2 hgrow2 hlie2 HT2 HE2 HB2 HAP r0 r1 r2 E3 T3 T4 R3 A3 B3
              go_wp2
              go_roundw
              case rel => exact ⟨k + 1, _, _, f, by omega, by go_num, rfl, HEX⟩
              case measure => simp [intOf]; omega
          · have e1 : (f == t) = false := by simpa using hft
            have e2 : decide (f = t) = false := by simpa using hft
            have hzz : w.heap.size ≤ wr.heap.size := hsz
            obtain ⟨ac2, HA2⟩ : ∃ x, Hid (acc ++ tx txt = x) := ⟨_, rfl⟩
            have hEL : ac2.length ≤ 2 * k + 1 := by
              rw [← HA2.out, List.length_append]
              have : (tx txt).length ≤ 1 := by unfold tx; split <;> simp
              omega
            go_upto_region 9 with fail
            generalize hz : wr.heap.size = z at *
            generalize wr.alloc (.cells #[.int .i64 f, .int .i64 t, .string s] 51) = W at *
            have c9 := HRC.out.c0
            go_cut [5] from 30 to 38 (fun s5 wx => Hid (OwnE wx w.heap.size s5 (ac2 ++ [(en, f, [])])) ∧ Hid (OwnB wx w.heap.size u6 txt) ∧ Hid (Rc wx z (.int .i64 f) (.int .i64 t) (.string s)) ∧ Hid (∀ j, s5.ownBlock = some j → u6.ownBlock ≠ some j) ∧ Hid (RowKit.Below w.heap.size w wx))
            case first =>
              refine wp_region_turns (fun w' => ∃ x0 : (GW (fun W => W.cell? ⟨z, 0, none⟩ = some (.int .i64 f))), w' = x0.w) [0, 1, 3, 4, 5] 9 5 (by kernel_rfl) (by kernel_rfl) (fun d => ⟨⟨redrawn W d, c9⟩, rfl⟩) ?_
              intro d
              have k0 : ∀ x0 : (GW (fun W => W.cell? ⟨z, 0, none⟩ = some (.int .i64 f))), x0.w.cell? ⟨z, 0, none⟩ = some (.int .i64 f) := fun x0 => x0.h
              simp only [pickAll, pickAt, List.nil_append, List.cons_append, List.append_nil]
              have hne : Nonempty (GW (fun W => W.cell? ⟨z, 0, none⟩ = some (.int .i64 f))) := ⟨⟨W, c9⟩⟩
              clear c0 c1 c2
              repeat (go_big_quiet_step (fail))
              refine wpQuiet_nil ?_
              clear hne k0 c9
              have bd := below_redrawnE W d
              have E0 := Hid.mk7 (HEO.out.later bd)
              have T0 := Hid.mk7 (HTO.out.later bd)
              have R0 := Hid.mk7 (HRC.out.later bd)
              have B0 := Hid.mk7 (HBX.out.trans (bd.mono HBX.out.size))
              have hNE := HNE.out
              generalize redrawn W d = W0 at *
              refine anyC_pick2 2 6 (by kernel_rfl) (by kernel_rfl) (by kernel_rfl) ?_ ?_
              · simp only [pickAll, pickAt, List.nil_append, List.cons_append, List.append_nil]
                go_wp2_with fail
                refine (addText_any w.heap.size w.heap.size u5 u6 acc txt W0 B0.out.size (by omega) (by omega) E0.out T0.out).mono ?_
                rintro e w1 ⟨v1, rfl, o1, g1, l1⟩
                rw [HA2.out] at o1
                have E1 := Hid.mk7 (o1.alloc (.cells #[.int .i64 en, .int .i64 f, .string ⟨#[]⟩] 55))
                have T1 := Hid.mk7 ((T0.out.kept g1 (by
                  rcases e : u6.ownBlock with _ | j
                  · exact Or.inl rfl
                  · exact Or.inr fun h => HE.out.ap j h.symm e)).alloc (.cells #[.int .i64 en, .int .i64 f, .string ⟨#[]⟩] 55))
                have R1 := Hid.mk7 (R0.out.grown g1 (fun h => hNE z h.symm rfl))
                have R1' := Hid.mk7 (R1.out.alloc (.cells #[.int .i64 en, .int .i64 f, .string ⟨#[]⟩] 55))
                have B1 := Hid.mk7 (B0.out.grown g1 B0.out.size (fun j hj => (E0.out.lt hj).1))
                have B1' := Hid.mk7 (B1.out.alloc B1.out.size (.cells #[.int .i64 en, .int .i64 f, .string ⟨#[]⟩] 55))
                have L1 := Hid.mk7 l1
                have S1 := Hid.mk7 g1.size
                have RE := Hid.mk7 (Re.new w1 (.int .i64 en) (.int .i64 f) (.string ⟨#[]⟩))
                clear o1 g1 l1 bd
                go_wp2
                refine anyNext_mk ⟨⟨_, R1.out.c0⟩, rfl⟩ ?_
                refine anyC_pick1 6 (by kernel_rfl) (by kernel_rfl) ?_
                simp only [pickAll, pickAt, List.nil_append, List.cons_append, List.append_nil]
                go_wp2
                refine anyNext_mk ⟨⟨_, R1.out.c0⟩, rfl⟩ ?_
                refine anyC_pick1 7 (by kernel_rfl) (by kernel_rfl) ?_
                simp only [pickAll, pickAt, List.nil_append, List.cons_append, List.append_nil]
                go_wp2
                refine anyNext_mk ⟨⟨_, R1'.out.c0⟩, rfl⟩ ?_
                refine anyC_pick1 8 (by kernel_rfl) (by kernel_rfl) ?_
                simp only [pickAll, pickAt, List.nil_append, List.cons_append, List.append_nil]
                go_wp2_with (at_builtin; refine wpList_append_lies _ rfl _ _ 23 rfl w.heap.size 55 i0 (.agg #[.int .i64 0, .int .i64 0, .string ⟨#[]⟩]) 3 32 Tryd.underlying23 HI.out hz0 hz1 hz2 rfl (by decide) _ _ _ rfl E1.out ⟨_, 0, none⟩ 1 1 [.int .i64 en, .int .i64 f, .string ⟨#[]⟩] rfl rfl (World.news_of_block RE.out) (fun u hu => by simp at hu; rcases hu with rfl | rfl | rfl <;> rfl) (by omega) (by unfold maxLen; omega) (by omega) B1'.out.size _ rfl ?_)
                intro gg cap2 w3 hown hgrow hat hlt
                have E3 : Hid (OwnE w3 w.heap.size (.slice (some ⟨gg, 0, none⟩) (ac2.length + 1) cap2) (ac2 ++ [(en, f, [])])) := by
                  unfold OwnE
                  rw [List.length_append, c3_append, c3_one]
                  exact hown
                have T3 := Hid.mk7 (T1.out.kept hgrow (by
                  rcases e : u6.ownBlock with _ | j
                  · exact Or.inl rfl
                  · right
                    intro h
                    rcases L1.out j h.symm with h2 | h2
                    · exact HE.out.ap j h2 e
                    · have := (T0.out.lt e).2; omega))
                have R3 := Hid.mk7 (R1'.out.grown hgrow (by
                  intro h
                  rcases L1.out z h.symm with h2 | h2
                  · exact hNE z h2 rfl
                  · have := R0.out.lt; omega))
                have B3 := Hid.mk7 (B1'.out.grown hgrow B1'.out.size (fun j hj => (E1.out.lt hj).1))
                have A3 : Hid (∀ j, (Value.slice (some ⟨gg, 0, none⟩) (ac2.length + 1) cap2).ownBlock = some j → u6.ownBlock ≠ some j) := by
                  intro j hj e
                  obtain rfl : gg = j := Option.some.inj hj
                  have h5 := (T0.out.lt e).2
                  rcases hat with h | h
                  · rcases L1.out gg h with h2 | h2
                    · exact HE.out.ap gg h2 e
                    · omega
                  · have h6 := S1.out
                    try simp at h
                    omega
                clear hown hgrow hat hlt E1 T1 R1 R1' B1 B1' L1 S1 RE
                go_wp2
                refine anyNext_mk ⟨⟨_, R3.out.c0⟩, rfl⟩ ?_
                refine anyC_pick1 9 (by kernel_rfl) (by kernel_rfl) ?_
                simp only [pickAll, pickAt, List.nil_append, List.cons_append, List.append_nil]
                go_wp2
                refine anyNext_last (anyC_done (by kernel_rfl) ?_)
                go_wp2
                go_meet
                exact ⟨E3, T3, R3, A3, B3⟩
              · simp only [pickAll, pickAt, List.nil_append, List.cons_append, List.append_nil]
                go_wp2
                refine anyNext_mk ⟨⟨_, R0.out.c0⟩, rfl⟩ ?_
                refine anyC_pick2 2 7 (by kernel_rfl) (by kernel_rfl) (by kernel_rfl) ?_ ?_
                · simp only [pickAll, pickAt, List.nil_append, List.cons_append, List.append_nil]
                  go_wp2_with fail
                  refine (addText_any w.heap.size w.heap.size u5 u6 acc txt W0 B0.out.size (by omega) (by omega) E0.out T0.out).mono ?_
                  rintro e w1 ⟨v1, rfl, o1, g1, l1⟩
                  rw [HA2.out] at o1
                  have E1 := Hid.mk7 (o1.alloc (.cells #[.int .i64 en, .int .i64 f, .string ⟨#[]⟩] 55))
                  have T1 := Hid.mk7 ((T0.out.kept g1 (by
                    rcases e : u6.ownBlock with _ | j
                    · exact Or.inl rfl
                    · exact Or.inr fun h => HE.out.ap j h.symm e)).alloc (.cells #[.int .i64 en, .int .i64 f, .string ⟨#[]⟩] 55))
                  have R1 := Hid.mk7 (R0.out.grown g1 (fun h => hNE z h.symm rfl))
                  have R1' := Hid.mk7 (R1.out.alloc (.cells #[.int .i64 en, .int .i64 f, .string ⟨#[]⟩] 55))
                  have B1 := Hid.mk7 (B0.out.grown g1 B0.out.size (fun j hj => (E0.out.lt hj).1))
                  have B1' := Hid.mk7 (B1.out.alloc B1.out.size (.cells #[.int .i64 en, .int .i64 f, .string ⟨#[]⟩] 55))
                  have L1 := Hid.mk7 l1
                  have S1 := Hid.mk7 g1.size
                  have RE := Hid.mk7 (Re.new w1 (.int .i64 en) (.int .i64 f) (.string ⟨#[]⟩))
                  clear o1 g1 l1 bd
                  go_wp2
                  refine anyNext_mk ⟨⟨_, R1.out.c0⟩, rfl⟩ ?_
                  refine anyC_pick1 7 (by kernel_rfl) (by kernel_rfl) ?_
                  simp only [pickAll, pickAt, List.nil_append, List.cons_append, List.append_nil]
                  go_wp2
                  refine anyNext_mk ⟨⟨_, R1'.out.c0⟩, rfl⟩ ?_
                  refine anyC_pick1 8 (by kernel_rfl) (by kernel_rfl) ?_
                  simp only [pickAll, pickAt, List.nil_append, List.cons_append, List.append_nil]
                  go_wp2_with (at_builtin; refine wpList_append_lies _ rfl _ _ 23 rfl w.heap.size 55 i0 (.agg #[.int .i64 0, .int .i64 0, .string ⟨#[]⟩]) 3 32 Tryd.underlying23 HI.out hz0 hz1 hz2 rfl (by decide) _ _ _ rfl E1.out ⟨_, 0, none⟩ 1 1 [.int .i64 en, .int .i64 f, .string ⟨#[]⟩] rfl rfl (World.news_of_block RE.out) (fun u hu => by simp at hu; rcases hu with rfl | rfl | rfl <;> rfl) (by omega) (by unfold maxLen; omega) (by omega) B1'.out.size _ rfl ?_)
                  intro gg cap2 w3 hown hgrow hat hlt
                  have E3 : Hid (OwnE w3 w.heap.size (.slice (some ⟨gg, 0, none⟩) (ac2.length + 1) cap2) (ac2 ++ [(en, f, [])])) := by
                    unfold OwnE
                    rw [List.length_append, c3_append, c3_one]
                    exact hown
                  have T3 := Hid.mk7 (T1.out.kept hgrow (by
                    rcases e : u6.ownBlock with _ | j
                    · exact Or.inl rfl
                    · right
                      intro h
                      rcases L1.out j h.symm with h2 | h2
                      · exact HE.out.ap j h2 e
                      · have := (T0.out.lt e).2; omega))
                  have R3 := Hid.mk7 (R1'.out.grown hgrow (by
                    intro h
                    rcases L1.out z h.symm with h2 | h2
                    · exact hNE z h2 rfl
                    · have := R0.out.lt; omega))
                  have B3 := Hid.mk7 (B1'.out.grown hgrow B1'.out.size (fun j hj => (E1.out.lt hj).1))
                  have A3 : Hid (∀ j, (Value.slice (some ⟨gg, 0, none⟩) (ac2.length + 1) cap2).ownBlock = some j → u6.ownBlock ≠ some j) := by
                    intro j hj e
                    obtain rfl : gg = j := Option.some.inj hj
                    have h5 := (T0.out.lt e).2
                    rcases hat with h | h
                    · rcases L1.out gg h with h2 | h2
                      · exact HE.out.ap gg h2 e
                      · omega
                    · have h6 := S1.out
                      try simp at h
                      omega
                  clear hown hgrow hat hlt E1 T1 R1 R1' B1 B1' L1 S1 RE
                  go_wp2
                  refine anyNext_mk ⟨⟨_, R3.out.c0⟩, rfl⟩ ?_
                  refine anyC_pick1 9 (by kernel_rfl) (by kernel_rfl) ?_
                  simp only [pickAll, pickAt, List.nil_append, List.cons_append, List.append_nil]
                  go_wp2
                  refine anyNext_last (anyC_done (by kernel_rfl) ?_)
                  go_wp2
                  go_meet
                  exact ⟨E3, T3, R3, A3, B3⟩
                · simp only [pickAll, pickAt, List.nil_append, List.cons_append, List.append_nil]
                  go_wp2
                  have RE0 := Hid.mk7 (Re.new W0 (.int .i64 en) (.int .i64 f) (.string ⟨#[]⟩))
                  have E1 := Hid.mk7 (E0.out.alloc (.cells #[.int .i64 en, .int .i64 f, .string ⟨#[]⟩] 55))
                  have T1 := Hid.mk7 (T0.out.alloc (.cells #[.int .i64 en, .int .i64 f, .string ⟨#[]⟩] 55))
                  have R1 := Hid.mk7 (R0.out.alloc (.cells #[.int .i64 en, .int .i64 f, .string ⟨#[]⟩] 55))
                  have B1 := Hid.mk7 (B0.out.alloc B0.out.size (.cells #[.int .i64 en, .int .i64 f, .string ⟨#[]⟩] 55))
                  refine anyNext_mk ⟨⟨_, R1.out.c0⟩, rfl⟩ ?_
                  refine anyC_pick1 2 (by kernel_rfl) (by kernel_rfl) ?_
                  simp only [pickAll, pickAt, List.nil_append, List.cons_append, List.append_nil]
                  have hNB : ∀ j, u5.ownBlock = some j → j ≠ W0.heap.size := fun j hj => by have := (E0.out.lt hj).2; omega
                  have hbz : W0.heap.size < (W0.alloc (.cells #[.int .i64 en, .int .i64 f, .string ⟨#[]⟩] 55)).heap.size := by simp
                  generalize W0.heap.size = bb at *
                  generalize W0.alloc (.cells #[.int .i64 en, .int .i64 f, .string ⟨#[]⟩] 55) = W1 at *
                  clear E0 T0 R0 B0 bd
                  go_wp2_with fail
                  refine (addText_any w.heap.size w.heap.size u5 u6 acc txt W1 B1.out.size (by omega) (by omega) E1.out T1.out).mono ?_
                  rintro e w2 ⟨v1, rfl, o1, g1, l1⟩
                  rw [HA2.out] at o1
                  have E2 := Hid.mk7 o1
                  have T2 := Hid.mk7 (T1.out.kept g1 (by
                    rcases e : u6.ownBlock with _ | j
                    · exact Or.inl rfl
                    · exact Or.inr fun h => HE.out.ap j h.symm e))
                  have R2 := Hid.mk7 (R1.out.grown g1 (fun h => hNE z h.symm rfl))
                  have B2 := Hid.mk7 (B1.out.grown g1 B1.out.size (fun j hj => (E1.out.lt hj).1))
                  have L1 := Hid.mk7 l1
                  have S1 := Hid.mk7 g1.size
                  have RE : Hid (Re w2 bb (.int .i64 en) (.int .i64 f) (.string ⟨#[]⟩)) := (g1.block bb hbz (fun h => hNB bb h.symm rfl)).trans RE0.out
                  clear o1 g1 l1 RE0
                  go_wp2
                  refine anyNext_mk ⟨⟨_, R2.out.c0⟩, rfl⟩ ?_
                  refine anyC_pick1 8 (by kernel_rfl) (by kernel_rfl) ?_
                  simp only [pickAll, pickAt, List.nil_append, List.cons_append, List.append_nil]
                  go_wp2_with (at_builtin; refine wpList_append_lies _ rfl _ _ 23 rfl w.heap.size 55 i0 (.agg #[.int .i64 0, .int .i64 0, .string ⟨#[]⟩]) 3 32 Tryd.underlying23 HI.out hz0 hz1 hz2 rfl (by decide) _ _ _ rfl E2.out ⟨_, 0, none⟩ 1 1 [.int .i64 en, .int .i64 f, .string ⟨#[]⟩] rfl rfl (World.news_of_block RE.out) (fun u hu => by simp at hu; rcases hu with rfl | rfl | rfl <;> rfl) (by omega) (by unfold maxLen; omega) (by omega) B2.out.size _ rfl ?_)
                  intro gg cap2 w3 hown hgrow hat hlt
                  have E3 : Hid (OwnE w3 w.heap.size (.slice (some ⟨gg, 0, none⟩) (ac2.length + 1) cap2) (ac2 ++ [(en, f, [])])) := by
                    unfold OwnE
                    rw [List.length_append, c3_append, c3_one]
                    exact hown
                  have T3 := Hid.mk7 (T2.out.kept hgrow (by
                    rcases e : u6.ownBlock with _ | j
                    · exact Or.inl rfl
                    · right
                      intro h
                      rcases L1.out j h.symm with h2 | h2
                      · exact HE.out.ap j h2 e
                      · have := (T1.out.lt e).2; omega))
                  have R3 := Hid.mk7 (R2.out.grown hgrow (by
                    intro h
                    rcases L1.out z h.symm with h2 | h2
                    · exact hNE z h2 rfl
                    · have := R1.out.lt; omega))
                  have B3 := Hid.mk7 (B2.out.grown hgrow B2.out.size (fun j hj => (E2.out.lt hj).1))
                  have A3 : Hid (∀ j, (Value.slice (some ⟨gg, 0, none⟩) (ac2.length + 1) cap2).ownBlock = some j → u6.ownBlock ≠ some j) := by
                    intro j hj e
                    obtain rfl : gg = j := Option.some.inj hj
                    have h5 := (T1.out.lt e).2
                    rcases hat with h | h
                    · rcases L1.out gg h with h2 | h2
                      · exact HE.out.ap gg h2 e
                      · omega
                    · have h6 := S1.out
                      omega
                  clear hown hgrow hat hlt E1 T1 R1 B1 E2 T2 R2 B2 L1 S1 RE
                  go_wp2
                  refine anyNext_mk ⟨⟨_, R3.out.c0⟩, rfl⟩ ?_
                  refine anyC_pick1 9 (by kernel_rfl) (by kernel_rfl) ?_
                  simp only [pickAll, pickAt, List.nil_append, List.cons_append, List.append_nil]
                  go_wp2
                  refine anyNext_last (anyC_done (by kernel_rfl) ?_)
                  go_wp2
                  go_meet
                  exact ⟨E3, T3, R3, A3, B3⟩
            case rest =>
              obtain ⟨E3, T3, R3, A3, B3⟩ := hcut
              have HNZ : Hid (u6.ownBlock ≠ some z) := fun h => HNT.out z h rfl
              clear c9 HEO HTO HNE HNT HBX HRC c0 c1 c2
              obtain ⟨ta, tcap, rfl, htc, htg⟩ := T3.out.shape
              obtain ⟨hrs, hrb⟩ := reset_value T3.out
              have T4 := Hid.mk7 hrs
              have HRB := Hid.mk7 hrb
              have r0 := R3.out.c0
              have r1 := R3.out.c1
              have r2 := R3.out.c2
              clear hrs hrb htg
              go_wp2_with (at_builtin; refine wpList_append_text8 rfl _ _ rfl w.heap.size _ [] rfl T4.out s rfl (by simp only [List.length_nil]; omega) B3.out.size ?_)
              intro tv2 w4 hown2 hgrow2 hlie2
              have HT2 : Hid (OwnB w4 w.heap.size tv2 ([] ++ T)) := by rw [← HCT.out]; exact hown2
              have HE2 : Hid (OwnE w4 w.heap.size u5 (ac2 ++ [(en, f, [])])) := E3.out.kept hgrow2 (by
                rcases e : u5.ownBlock with _ | j
                · exact Or.inl rfl
                · exact Or.inr (fun h => A3.out j e (by rw [← HRB.out]; exact h.symm)))
              have HR2 := Hid.mk7 (R3.out.grown hgrow2 (fun h => HNZ.out (by rw [← HRB.out]; exact h.symm)))
              have HB2 : Hid (RowKit.Below w.heap.size w w4) := B3.out.grown hgrow2 B3.out.size (fun j hj => (T4.out.lt hj).1)
              have HAP : Hid (∀ j, u5.ownBlock = some j → tv2.ownBlock ≠ some j) := by
                intro j hj h
                rcases hlie2 with h1 | h1 | h1
                · exact A3.out j hj (by rw [← HRB.out]; exact h1.symm.trans h)
                · have h2 := (E3.out.lt hj).2
                  rw [h1] at h
                  simp at h
                  omega
                · rw [h1] at h; cases h
              have HEX : Hid (Em base l w w.heap.size w4 (k + 1) u5 tv2 (ac2 ++ [(en, f, [])]) T t) := by
                refine ⟨HE2.out, HT2.out, HAP.out, ?_, ?_, ?_, HB2.out⟩
                · rw [List.length_append]; simp only [List.length_cons, List.length_nil]; omega
                · rw [inS_take HR.out]; simp only; omega
                · rw [HE.out.eq, HQ.out, ← HA2.out]; simp
              have d1 := HR2.out.c1
              clear HE HCT HSC hown2 hgrow2 hlie2 HT2 HE2 HB2 HAP r0 r1 r2 E3 T3 T4 R3 A3 B3
              go_wp2
              go_roundw
              case rel => exact ⟨k + 1, _, _, t, by omega, by go_num, rfl, HEX⟩
              case measure => simp [intOf]; omega
        · have HQ := Hid.mk7 (elG_text (base := base) (txt := txt) HR.out HNS.out hen)
          have den : decide (en < f) = false := decide_eq_false hen
          rcases hfts with ⟨hft, hse⟩ | hft
          · subst hft
            have hse2 : s.toList.isEmpty = false := by simpa using hse
            have hse3 : ¬ s.toList = [] := by simpa using hse
            clear hse
            have r0 := HRC.out.c0
            have r1 := HRC.out.c1
            have r2 := HRC.out.c2
            go_wp2_with (at_builtin; refine wpList_append_text8 rfl _ _ rfl w.heap.size _ txt rfl HTO.out s rfl (by omega) HBX.out.size ?_)
            intro tv2 w4 hown2 hgrow2 hlie2
            have HT2 : Hid (OwnB w4 w.heap.size tv2 (txt ++ T)) := by rw [← HCT.out]; exact hown2
            have HE2 : Hid (OwnE w4 w.heap.size u5 acc) := HEO.out.kept hgrow2 (by
              rcases e : u5.ownBlock with _ | j
              · exact Or.inl rfl
              · exact Or.inr (fun h => HE.out.ap j e h.symm))
            have HR2 := Hid.mk7 (HRC.out.grown hgrow2 (fun h => HNT.out _ h.symm rfl))
            have HB2 : Hid (RowKit.Below w.heap.size w w4) := HBX.out.grown hgrow2 HBX.out.size (fun j hj => (HTO.out.lt hj).1)
            have HAP : Hid (∀ j, u5.ownBlock = some j → tv2.ownBlock ≠ some j) := by
              intro j hj h
              rcases hlie2 with h1 | h1 | h1
              · exact HE.out.ap j hj (h1.symm.trans h)
              · have h2 := (HE.out.eo.lt hj).2
                rw [h1] at h
                simp at h
                omega
              · rw [h1] at h; cases h
            have HEX : Hid (Em base l w w.heap.size w4 (k + 1) u5 tv2 acc (txt ++ T) f) := by
              refine ⟨HE2.out, HT2.out, HAP.out, by omega, ?_, by rw [HE.out.eq, HQ.out], HB2.out⟩
              rw [inS_take HR.out, List.length_append]
              have := HE.out.tl
              simp only; omega
            have d1 := HR2.out.c1
            clear HE HEO HTO HNE HNT HBX HRC HCT HSC hown2 hgrow2 hlie2 HT2 HE2 HB2 HAP r0 r1 r2 c0 c1 c2
            go_wp2
            go_roundw
            case rel => exact ⟨k + 1, acc, _, f, by omega, by go_num, rfl, HEX⟩
            case measure => simp [intOf]; omega
          · have e1 : (f == t) = false := by simpa using hft
            have e2 : decide (f = t) = false := by simpa using hft
            have r0 := HRC.out.c0
            have r1 := HRC.out.c1
            have r2 := HRC.out.c2
            go_wp2_with (at_builtin; refine wpList_append_text8 rfl _ _ rfl w.heap.size _ txt rfl HTO.out s rfl (by omega) HBX.out.size ?_)
            intro tv2 w4 hown2 hgrow2 hlie2
            have HT2 : Hid (OwnB w4 w.heap.size tv2 (txt ++ T)) := by rw [← HCT.out]; exact hown2
            have HE2 : Hid (OwnE w4 w.heap.size u5 acc) := HEO.out.kept hgrow2 (by
              rcases e : u5.ownBlock with _ | j
              · exact Or.inl rfl
              · exact Or.inr (fun h => HE.out.ap j e h.symm))
            have HR2 := Hid.mk7 (HRC.out.grown hgrow2 (fun h => HNT.out _ h.symm rfl))
            have HB2 : Hid (RowKit.Below w.heap.size w w4) := HBX.out.grown hgrow2 HBX.out.size (fun j hj => (HTO.out.lt hj).1)
            have HAP : Hid (∀ j, u5.ownBlock = some j → tv2.ownBlock ≠ some j) := by
              intro j hj h
              rcases hlie2 with h1 | h1 | h1
              · exact HE.out.ap j hj (h1.symm.trans h)
              · have h2 := (HE.out.eo.lt hj).2
                rw [h1] at h
                simp at h
                omega
              · rw [h1] at h; cases h
            have HEX : Hid (Em base l w w.heap.size w4 (k + 1) u5 tv2 acc (txt ++ T) t) := by
              refine ⟨HE2.out, HT2.out, HAP.out, by omega, ?_, by rw [HE.out.eq, HQ.out], HB2.out⟩
              rw [inS_take HR.out, List.length_append]
              have := HE.out.tl
              simp only; omega
            have d1 := HR2.out.c1
            clear HE HEO HTO HNE HNT HBX HRC HCT HSC hown2 hgrow2 hlie2 HT2 HE2 HB2 HAP r0 r1 r2 c0 c1 c2
            go_wp2
            go_roundw
            case rel => exact ⟨k + 1, acc, _, t, by omega, by go_num, rfl, HEX⟩
            case measure => simp [intOf]; omega
    · obtain rfl : k = l.length := by omega
      have hq : elG base [] 0 l = acc ++ tx txt ++ if en < base then [(en, base, [])] else [] := by
        rw [HE.out.eq, List.drop_length, elG, List.append_assoc]
      have HQ := Hid.mk7 hq
      obtain ⟨ac2, HA2⟩ : ∃ x, Hid (acc ++ tx txt = x) := ⟨_, rfl⟩
      rw [HA2.out] at HQ
      have hEL : ac2.length ≤ 2 * l.length + 1 := by
        rw [← HA2.out, List.length_append]
        have : (tx txt).length ≤ 1 := by unfold tx; split <;> simp
        omega
      have HA := Hid.mk7 (addText_any w.heap.size w.heap.size u5 u6 acc txt wr hsz (by omega) (by omega) HE.out.eo HE.out.tw)
      clear hq
      go_wp2_with fail
      refine HA.out.mono ?_
      rintro e w1 ⟨v1, rfl, o1, g1, l1⟩
      rw [HA2.out] at o1
      have E1 := Hid.mk7 o1
      have B1 := Hid.mk7 (hb.grown g1 hsz (fun j hj => (HE.out.eo.lt hj).1))
      clear o1 g1 l1 HA HE
      by_cases hen : en < base
      · have den : decide (en < base) = true := decide_eq_true hen
        have HQ2 : Hid (elG base [] 0 l = ac2 ++ [(en, base, [])]) := by show _ = _; rw [HQ.out, if_pos hen]
        have RE := Hid.mk7 (Re.new w1 (.int .i64 en) (.int .i64 base) (.string ⟨#[]⟩))
        have E1' := Hid.mk7 (E1.out.alloc (.cells #[.int .i64 en, .int .i64 base, .string ⟨#[]⟩] 55))
        have B1' := Hid.mk7 (B1.out.alloc B1.out.size (.cells #[.int .i64 en, .int .i64 base, .string ⟨#[]⟩] 55))
        go_wp2_with (at_builtin; refine wpList_append_lies _ rfl _ _ 23 rfl w.heap.size 55 i0 (.agg #[.int .i64 0, .int .i64 0, .string ⟨#[]⟩]) 3 32 Tryd.underlying23 HI.out hz0 hz1 hz2 rfl (by decide) _ _ _ rfl E1'.out ⟨_, 0, none⟩ 1 1 [.int .i64 en, .int .i64 base, .string ⟨#[]⟩] rfl rfl (World.news_of_block RE.out) (fun u hu => by simp at hu; rcases hu with rfl | rfl | rfl <;> rfl) (by omega) (by unfold maxLen; omega) (by omega) B1'.out.size _ rfl ?_)
        intro gg cap2 w3 hown hgrow hat hlt
        have E3 : Hid (OwnE w3 w.heap.size (.slice (some ⟨gg, 0, none⟩) (ac2.length + 1) cap2) (elG base [] 0 l)) := by
          rw [HQ2.out]
          unfold OwnE
          rw [List.length_append, c3_append, c3_one]
          exact hown
        have B3 := Hid.mk7 (B1'.out.grown hgrow B1'.out.size (fun j hj => (E1'.out.lt hj).1))
        clear hown hgrow hat hlt E1 E1' B1 B1' RE
        go_wp2
        go_ret
        exact ⟨_, rfl, E3.out, B3.out⟩
      · have den : decide (en < base) = false := decide_eq_false hen
        have HQ2 : Hid (elG base [] 0 l = ac2) := by show _ = _; rw [HQ.out, if_neg hen, List.append_nil]
        go_wp2
        go_ret
        exact ⟨_, rfl, by rw [HQ2.out]; exact E1.out, B1.out⟩
end Go.Proofs.YtafhogfbjklboaaDoor
namespace Go.Proofs.YtafhogfbjklboaaDoor
open Go.RowKit Go.Sort Go.Lib
set_option linter.unusedSimpArgs false
set_option linter.unusedVariables false

theorem results_del2 {fn : Func} {p u : Tmp} (h : fn.results = #[.cell p 25, .tmp u]) (tmps : Array Value) (w : World) (g : Nat) (x y z : Value)
    (hp : tmps.getD p undef = .pointer (some ⟨g, 0, none⟩)) (hu : tmps.getD u undef = z) (hg : Rd w g x y) : (results fn tmps).run Tryd.prog w = .ok (.tuple #[.agg #[x, y], z]) w := by
  have hp' : tmps[p]?.getD undef = .pointer (some ⟨g, 0, none⟩) := by simpa using hp
  have hu' : tmps[u]?.getD undef = z := by simpa using hu
  simp [results, h, hp', hu', asAddr, run_loadVar_row w g 25 25 _ (0, 0) _ hg Tryd.underlying25 rfl (by kernel_rfl)]
theorem below_set2 {B g : Nat} {a w : World} (h : RowKit.Below B a w) (hg : B ≤ g) (y0 y1 : Value) :
    RowKit.Below B a ((w.setCell ⟨g, 0, none⟩ y0).setCell ⟨g, 1, none⟩ y1) := (h.setCell (p := ⟨g, 0, none⟩) hg _).setCell (p := ⟨g, 1, none⟩) hg _
theorem OwnE.set2 {w : World} {B g : Nat} {v : Value} {es : List El} (h : OwnE w B v es) (hg : g < B) (y0 y1 : Value) : OwnE ((w.setCell ⟨g, 0, none⟩ y0).setCell ⟨g, 1, none⟩ y1) B v es :=
  ownsRow_setCell_below (ownsRow_setCell_below h hg y0) hg y1
/-- Build's error. -/
def bldE (base : Int) (l : List El) : Int := if flt base l ≠ 0 then flt base l else if 60 < (elG base [] 0 l).length then 70 else 0
set_option maxHeartbeats 2000000 in
set_option maxRecDepth 100000 in
theorem build_bad {w : World} {v : Value} {l : List El} (base : Int) (h : ElAt w v l) (hsm : Sm l 281474976710656) (hl : l.length ≤ 1000) (tb : Nat × Nat) (hT : Tab w tb) (hf : flt base l ≠ 0) :
    Calls Tryd.prog 26 #[.int .i64 base, v] w fun e w' => e = .returned (.tuple #[.agg #[.int .i64 0, .slice none 0 0], .int .i64 (flt base l)]) ∧ RowKit.Below w.heap.size w w' := by
  have HB := Hid.mk7 (below_newE (RowKit.Below.refl w.heap.size w) (.cells #[.int .i64 0, .slice none 0 0] 25))
  have HR := Hid.mk7 (Rd.new w (.int .i64 0) (.slice none 0 0))
  have HF := Hid.mk7 (fault_any base (h.later HB.out) hsm hl tb (hT.later HB.out))
  obtain ⟨r, HRR⟩ : ∃ r, Hid (flt base l = r) := ⟨_, rfl⟩
  rw [HRR.out] at HF hf ⊢
  have d0 : (r != 0) = true := by simpa using hf
  have d1 : decide (r = 0) = false := by simpa using hf
  clear h hT
  go_enter Tryd.func26, Tryd.ntmps26
  go_wp2_with fail
  refine HF.out.mono ?_
  rintro e w1 ⟨rfl, b1⟩
  have HR1 := HR.out.later b1
  have HB1 := Hid.mk7 (HB.out.trans (b1.mono HB.out.size))
  have fz := HR1.fz
  have hlt := HR1.lt
  have r0 := HR1.c0
  have r1 := HR1.c1
  clear b1
  go_wp2
  exact bodyPost_ret (results_del2 rfl _ _ w.heap.size _ _ _ rfl rfl (HR1.set _ _)) rfl ⟨rfl, below_set2 HB1.out (Nat.le_refl _) _ _⟩
set_option maxHeartbeats 2000000 in
set_option maxRecDepth 100000 in
theorem build_good {w : World} {v : Value} {l : List El} (base : Int) (h : ElAt w v l) (hsm : Sm l 281474976710656) (hl : l.length ≤ 1000) (hin : inS l ≤ 100000) (tb : Nat × Nat) (hT : Tab w tb) (hf : flt base l = 0) (hm : (elG base [] 0 l).length ≤ 60) :
    Calls Tryd.prog 26 #[.int .i64 base, v] w fun e w' => ∃ v', e = .returned (.tuple #[.agg #[.int .i64 base, v'], .int .i64 0]) ∧ ElAt w' v' (elG base [] 0 l) ∧ RowKit.Below w.heap.size w w' := by
  have HB := Hid.mk7 (below_newE (RowKit.Below.refl w.heap.size w) (.cells #[.int .i64 0, .slice none 0 0] 25))
  have HR := Hid.mk7 (Rd.new w (.int .i64 0) (.slice none 0 0))
  have HF := Hid.mk7 (fault_any base (h.later HB.out) hsm hl tb (hT.later HB.out))
  have HV := Hid.mk7 (h.later HB.out)
  have hsz : w.heap.size < (w.alloc (.cells #[.int .i64 0, .slice none 0 0] 25)).heap.size := by simp
  rw [hf] at HF
  clear h hT
  obtain ⟨es, HE⟩ : ∃ es, Hid (elG base [] 0 l = es) := ⟨_, rfl⟩
  rw [HE.out] at hm ⊢
  go_enter Tryd.func26, Tryd.ntmps26
  go_wp2_with fail
  refine HF.out.mono ?_
  rintro e w1 ⟨rfl, b1⟩
  have HR1 := Hid.mk7 (HR.out.later b1)
  have HB1 := Hid.mk7 (HB.out.trans (b1.mono HB.out.size))
  have HEL := Hid.mk7 (elements_any base (HV.out.later b1) hl hin)
  have hsz1 : w.heap.size < w1.heap.size := by have := b1.size; omega
  clear b1
  go_wp2_with fail
  refine HEL.out.mono ?_
  rintro e w2 ⟨v2, rfl, o2, b2⟩
  rw [HE.out] at o2
  obtain ⟨a2, cap2, rfl, hc2, _⟩ := own_shapeE o2
  have HR2 := HR1.out.later b2
  have HB2 := Hid.mk7 (HB1.out.trans (b2.mono HB1.out.size))
  have HO2 := Hid.mk7 o2
  have fz := HR2.fz
  have hlt := HR2.lt
  have r0 := HR2.c0
  have r1 := HR2.c1
  clear o2 b2
  go_wp2
  refine bodyPost_ret (results_del2 rfl _ _ w.heap.size _ _ _ rfl rfl (HR2.set _ _)) rfl ?_
  exact ⟨_, rfl, (HO2.out.set2 (g := w.heap.size) hsz1 _ _).row, below_set2 HB2.out (Nat.le_refl _) _ _⟩
set_option maxHeartbeats 2000000 in
set_option maxRecDepth 100000 in
theorem build_many {w : World} {v : Value} {l : List El} (base : Int) (h : ElAt w v l) (hsm : Sm l 281474976710656) (hl : l.length ≤ 1000) (hin : inS l ≤ 100000) (tb : Nat × Nat) (hT : Tab w tb) (hf : flt base l = 0) (hm : 60 < (elG base [] 0 l).length) :
    Calls Tryd.prog 26 #[.int .i64 base, v] w fun e w' => e = .returned (.tuple #[.agg #[.int .i64 0, .slice none 0 0], .int .i64 70]) ∧ RowKit.Below w.heap.size w w' := by
  have HB := Hid.mk7 (below_newE (RowKit.Below.refl w.heap.size w) (.cells #[.int .i64 0, .slice none 0 0] 25))
  have HR := Hid.mk7 (Rd.new w (.int .i64 0) (.slice none 0 0))
  have HF := Hid.mk7 (fault_any base (h.later HB.out) hsm hl tb (hT.later HB.out))
  have HV := Hid.mk7 (h.later HB.out)
  rw [hf] at HF
  clear h hT
  obtain ⟨es, HE⟩ : ∃ es, Hid (elG base [] 0 l = es) := ⟨_, rfl⟩
  rw [HE.out] at hm
  go_enter Tryd.func26, Tryd.ntmps26
  go_wp2_with fail
  refine HF.out.mono ?_
  rintro e w1 ⟨rfl, b1⟩
  have HR1 := Hid.mk7 (HR.out.later b1)
  have HB1 := Hid.mk7 (HB.out.trans (b1.mono HB.out.size))
  have HEL := Hid.mk7 (elements_any base (HV.out.later b1) hl hin)
  clear b1
  go_wp2_with fail
  refine HEL.out.mono ?_
  rintro e w2 ⟨v2, rfl, o2, b2⟩
  rw [HE.out] at o2
  obtain ⟨a2, cap2, rfl, hc2, _⟩ := own_shapeE o2
  have HR2 := HR1.out.later b2
  have HB2 := Hid.mk7 (HB1.out.trans (b2.mono HB1.out.size))
  have fz := HR2.fz
  have hlt := HR2.lt
  have r0 := HR2.c0
  have r1 := HR2.c1
  clear o2 b2
  go_wp2
  exact bodyPost_ret (results_del2 rfl _ _ w.heap.size _ _ _ rfl rfl (HR2.set _ _)) rfl ⟨rfl, below_set2 HB2.out (Nat.le_refl _) _ _⟩
end Go.Proofs.YtafhogfbjklboaaDoor
