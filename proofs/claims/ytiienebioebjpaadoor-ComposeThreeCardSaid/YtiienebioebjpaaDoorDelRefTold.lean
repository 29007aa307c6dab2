/- The reference's Told. -/
import Derived.Test.YtiienebioebjpaaDoorDelCell
import Derived.Test.YtiienebioebjpaaDoorTurnsP
namespace Go.Proofs.YtiienebioebjpaaDoor
open Go.RowKit Go.Sort Go.Lib
set_option linter.unusedSimpArgs false
set_option linter.unusedVariables false

theorem puc_len (c : Ce) (es : List El) : (puc c es).length ≤ es.length + 1 := by
  unfold puc
  split
  · split
    · split <;> simp
    · simp
  · split
    · split <;> simp
    · simp
theorem tld_len : ∀ (l : List Ce), (tld l).length ≤ l.length
  | [] => Nat.le_refl _
  | c :: l => by
    have h1 := tld_len l
    have h2 := puc_len c (tld l)
    rw [tld_cons, List.length_cons]
    omega
theorem noTx_nil : NoTx (tld []) := fun e r h => by cases h
theorem noAt_nil (q : Int) : NoAt q (tld []) := fun e r h => by cases h
theorem noTx_cons {c : Ce} (l : List Ce) (hc : 0 ≤ c.1) : NoTx (tld (c :: l)) := by
  rw [tld_cons]
  intro e r h
  unfold puc at h
  rw [if_neg (by omega)] at h
  split at h
  · split at h
    · cases h; rfl
    · cases h; rfl
  · cases h; rfl
theorem noAt_neg {c : Ce} (l : List Ce) (q : Int) (hc : c.1 < 0) : NoAt q (tld (c :: l)) := by
  rw [tld_cons]
  intro e r h
  unfold puc at h
  rw [if_pos hc] at h
  intro hT
  split at h
  · split at h
    · cases h; simp at hT
    · cases h; simp at hT
  · cases h; simp at hT
theorem noAt_pos {c : Ce} (l : List Ce) (q : Int) (hc : 0 ≤ c.1) (hne : c.1 ≠ q) : NoAt q (tld (c :: l)) := by
  rw [tld_cons]
  intro e r h
  unfold puc at h
  rw [if_neg (by omega)] at h
  intro _
  split at h
  · split at h
    · cases h; exact hne
    · cases h; exact hne
  · cases h; exact hne
theorem drop_consK {cs : List Ce} {k : Nat} {c : Ce} (h : cs[k]? = some c) : cs.drop k = c :: cs.drop (k + 1) := by
  obtain ⟨hk, rfl⟩ := List.getElem?_eq_some_iff.1 h
  exact List.drop_eq_getElem_cons hk
theorem Rd.other2 {w : World} {g g' : Nat} {x y : Value} (h : Rd w g x y) (hne : g ≠ g') (a b : Value) : Rd ((w.setCell ⟨g', 0, none⟩ a).setCell ⟨g', 1, none⟩ b) g x y := by
  unfold Rd; rw [heap_setCell_other _ _ _ _ hne, heap_setCell_other _ _ _ _ hne]; exact h
theorem Rd.other1 {w : World} {g g' : Nat} {x y : Value} (h : Rd w g x y) (hne : g ≠ g') (b : Value) : Rd (w.setCell ⟨g', 1, none⟩ b) g x y := by
  unfold Rd; rw [heap_setCell_other _ _ _ _ hne]; exact h
theorem Rd.grown {w w' : World} {row : Option Nat} {g : Nat} {x y : Value} (h : Rd w g x y) (hg : w.grownBy w' row) (hne : some g ≠ row) : Rd w' g x y := (hg.block g h.lt hne).trans h
theorem OwnE.lt' {w : World} {B : Nat} {v : Value} {es : List El} (h : OwnE w B v es) {g : Nat} (hg : v.ownBlock = some g) : B ≤ g ∧ g < w.heap.size := World.ownsRow.lt h g hg
/-- What the loops hand on. -/
structure Td (w wr : World) (base : Int) (lv : Value) (done : List El) : Prop where
  rd : Rd wr (w.heap.size + 1) (.int .i64 base) lv
  ra : Rd wr w.heap.size (.int .i64 0) (.slice none 0 0)
  ow : OwnE wr (w.heap.size + 2) lv done
  be : RowKit.Below w.heap.size w wr
  sz : w.heap.size + 2 ≤ wr.heap.size
theorem Td.later {w wr w' : World} {base : Int} {lv : Value} {done : List El} (h : Td w wr base lv done) (hb : RowKit.Below wr.heap.size wr w') : Td w w' base lv done :=
  ⟨h.rd.later hb, h.ra.later hb, h.ow.later hb, h.be.trans (hb.mono h.be.size), Nat.le_trans h.sz hb.size⟩
theorem Td.alloc {w wr : World} {base : Int} {lv : Value} {done : List El} (h : Td w wr base lv done) (o : Obj) : Td w (wr.alloc o) base lv done :=
  h.later ((RowKit.Below.refl _ _).alloc (Nat.le_refl _) o)
/-- One more, stored. -/
theorem Td.rdG {w W w3 : World} {base : Int} {lv : Value} {done : List El} (h : Td w W base lv done) (hg : W.grownBy w3 lv.ownBlock) : Rd w3 (w.heap.size + 1) (.int .i64 base) lv :=
  h.rd.grown hg (fun e => by have := (h.ow.lt' e.symm).1; omega)
theorem Td.beG {w W w3 : World} {base : Int} {lv : Value} {done : List El} (h : Td w W base lv done) (hg : W.grownBy w3 lv.ownBlock) : RowKit.Below w.heap.size w w3 :=
  h.be.grown hg h.be.size (fun j hj => by have := (h.ow.lt' hj).1; omega)
theorem Td.store {w W w3 : World} {base : Int} {lv nv : Value} {done dn : List El} (h : Td w W base lv done) (hg : W.grownBy w3 lv.ownBlock) (ho : OwnE w3 (w.heap.size + 2) nv dn) :
    Td w (w3.setCell ⟨w.heap.size + 1, 1, none⟩ nv) base nv dn := by
  have hr := h.rd.grown hg (fun e => by have := (h.ow.lt' e.symm).1; omega)
  have ha := h.ra.grown hg (fun e => by have := (h.ow.lt' e.symm).1; omega)
  have hb := h.be.grown hg h.be.size (fun j hj => by have := (h.ow.lt' hj).1; omega)
  exact ⟨hr.set1 _, ha.other1 (by omega) _, ownsRow_setCell_below ho (show w.heap.size + 1 < w.heap.size + 2 by omega) _, hb.setCell (p := ⟨w.heap.size + 1, 1, none⟩) (by show _ ≤ w.heap.size + 1; omega) _, by
    have := hg.size; have := h.sz; simp [World.setCell]; omega⟩
theorem own_one {w : World} (b : UInt8) : OwnB (w.alloc (.cells #[.int .u8 (b.toNat : Int)] 5)) w.heap.size (.slice (some ⟨w.heap.size, 0, none⟩) 1 1) [b] :=
  ⟨rfl, Or.inr ⟨w.heap.size, 1, #[.int .u8 (b.toNat : Int)], rfl, Nat.le_refl _, heap_alloc_new _ _, Nat.le_refl _, by unfold maxLen; omega, by simp, by simp [byteCells]⟩⟩
/-- What is asked of the bytes. -/
structure Cw (cs : List Ce) : Prop where
  one : ∀ c ∈ cs, c.1 = -1 ∨ (0 ≤ c.1 ∧ c.1 ≤ 20000 ∧ c.2 = 0)
  len : cs.length ≤ 20000
  vl : ∀ e ∈ tld cs, vld e.2.2 = true ∧ e.2.2.length ≤ 20000
/-- What Told answers. -/
def ToldR (base : Int) (B : Nat) (es : List El) (e : Ending) (w' : World) : Prop :=
  if 60 < es.length then e = .returned (.tuple #[.agg #[.int .i64 0, .slice none 0 0], .int .i64 70]) else ∃ v', e = .returned (.tuple #[.agg #[.int .i64 base, v'], .int .i64 0]) ∧ OwnE w' B v' es
set_option maxHeartbeats 16000000 in
set_option maxRecDepth 100000 in
theorem rtold_any {w : World} {v : Value} {cs : List Ce} (base : Int) (h : KAt w v cs) (hw : Cw cs) :
    Calls Tryd.prog 14 #[.int .i64 base, v] w fun e w' => ToldR base (w.heap.size + 2) (tld cs) e w' ∧ RowKit.Below w.heap.size w w' := by
  obtain ⟨i0, hi, hz0, hz1, hz2⟩ := info_parts Tryd.info_el
  obtain ⟨j0, hj0, hy0, hy1, hy2⟩ := info_parts Tryd.info_u8
  have HI := Hid.mk7 hi
  have HJ := Hid.mk7 hj0
  obtain ⟨a, cap, rfl, hcap, hcells⟩ := h
  have HC := Hid.mk7 hcells
  have HW := Hid.mk7 hw
  have hlen := hw.len
  clear hcells hi hj0 hw
  obtain ⟨W0, HW0⟩ : ∃ W0, Hid (W0 = (w.alloc (.cells #[.int .i64 0, .slice none 0 0] 24)).alloc (.cells #[.int .i64 base, .slice none 0 0] 24)) := ⟨_, rfl⟩
  have TD0 : Hid (Td w W0 base (.slice none 0 0) []) := by
    rw [HW0.out]
    exact ⟨Rd.new' (by simp) (.int .i64 base) (.slice none 0 0), (Rd.new w (.int .i64 0) (.slice none 0 0)).alloc _, OwnE.nil _ _, below_newE (below_newE (RowKit.Below.refl w.heap.size w) _) _, by simp⟩
  go_enter Tryd.func14, Tryd.ntmps14
  go_wp2
  rw [← HW0.out]
  clear HW0
  go_loopw [7] (fun iv wr => ∃ (k : Nat) (done : List El) (lv : Value), k ≤ cs.length ∧ iv = .int .i64 (k : Nat) ∧ Hid (done ++ tld (cs.drop k) = tld cs) ∧ Hid (Td w wr base lv done)) (fun iv _ => cs.length - (intOf iv).toNat)
  case atStart => exact ⟨0, [], _, Nat.zero_le _, rfl, Hid.mk7 rfl, TD0⟩
  case round =>
    obtain ⟨k, done, lv, hk, rfl, HEQ, TD⟩ := hrel
    obtain ⟨da, dcap, rfl, hdc, _⟩ := own_shapeE TD.out.ow
    have hdn : done.length ≤ 20000 := by
      have h1 := congrArg List.length HEQ.out
      have h2 := tld_len cs
      rw [List.length_append] at h1
      omega
    have hsz := TD.out.sz
    clear TD0
    generalize wr = wo at *
    by_cases hlt : k < cs.length
    · obtain ⟨⟨p, b⟩, hr⟩ : ∃ r, cs[k]? = some r := ⟨cs[k], List.getElem?_eq_getElem hlt⟩
      obtain ⟨g, off, rfl, q0, q1⟩ := HC.out k _ hr
      have hp := HW.out.one _ (List.mem_of_getElem? hr)
      have HR := Hid.mk7 hr
      have c0 := cell_later7 TD.out.be (Nat.le_refl _) q0
      have c1 := cell_later7 TD.out.be (Nat.le_refl _) q1
      have Q0 := Hid.mk7 q0
      simp only at c0 c1 hp
      clear q0 q1 hr
      by_cases hneg : p < 0
      · obtain rfl : p = -1 := by omega
        clear hp hneg
        have HS0 : Hid (cs.drop k = ownT [b] ++ cs.drop (k + 1)) := by show _ = _; rw [drop_consK HR.out]; rfl
        have OB0 := Hid.mk7 (own_one (w := wo) b)
        go_wp2
        go_loopw [8, 9] (fun jv tv wx => ∃ (j : Nat) (T : List UInt8), k + 1 ≤ j ∧ j ≤ cs.length ∧ jv = .int .i64 (j : Nat) ∧ Hid (T ≠ [] ∧ cs.drop k = ownT T ++ cs.drop j) ∧ Hid (OwnB wx wo.heap.size tv T) ∧ Hid (RowKit.Below wo.heap.size wo wx)) (fun jv _ _ => cs.length - (intOf jv).toNat)
        case atStart => exact ⟨k + 1, [b], Nat.le_refl _, by omega, by go_num, ⟨by simp, HS0.out⟩, OB0, below_newE (RowKit.Below.refl _ _) _⟩
        case round =>
          obtain ⟨j, T, hj0, hj1, rfl, HT, HO, HB⟩ := hrel
          obtain ⟨ta, tcap, rfl, htc, _⟩ := HO.out.shape
          clear c0 c1
          have hTl : T.length ≤ 20000 ∧ (j < cs.length → T.length + 1 ≤ 20000) := by
            have h1 := congrArg List.length HT.out.2
            rw [List.length_append, own_len, List.length_drop, List.length_drop] at h1
            omega
          have wz := HB.out.size
          have MORE : j < cs.length → ∃ q b', cs[j]? = some (q, b') := fun h => ⟨_, _, List.getElem?_eq_getElem h⟩
          by_cases hgo : ∃ b', cs[j]? = some (-1, b')
          · obtain ⟨b', hr2⟩ := hgo
            have hjl : j < cs.length := (List.getElem?_eq_some_iff.1 hr2).1
            obtain ⟨g', off', he', q2, q3⟩ := HC.out j _ hr2
            cases he'
            have c2 := cell_later7 HB.out (Nat.le_refl _) (cell_later7 TD.out.be (Nat.le_refl _) q2)
            have c3 := cell_later7 HB.out (Nat.le_refl _) (cell_later7 TD.out.be (Nat.le_refl _) q3)
            simp only at c2 c3
            have HT2 : Hid (T ++ [b'] ≠ [] ∧ cs.drop k = ownT (T ++ [b']) ++ cs.drop (j + 1)) := ⟨by simp, by rw [HT.out.2, drop_consK hr2, own_append, List.append_assoc]; rfl⟩
            have gl : g < wr.heap.size := World.block_lt_of_cell? wr ⟨g, _, none⟩ c2
            have hl1 := hTl.2 hjl
            clear q2 q3 hr2 hTl MORE HT
            go_wp2_with (at_builtin; refine wpList_append_lies _ rfl _ _ 63 rfl wo.heap.size 5 j0 (.int .u8 0) 1 1 Tryd.underlying63 HJ.out hy0 hy1 hy2 rfl (by decide) _ _ _ rfl (World.ownsRow.alloc HO.out _) ⟨_, 0, none⟩ 1 1 [.int .u8 (b'.toNat : Int)] rfl rfl (World.news_of_block (heap_alloc_new _ _)) (fun u hu => by simp at hu; subst hu; rfl) (by omega) (by unfold maxLen; omega) (by omega) (by simp; omega) _ rfl ?_)
            intro gg cap2 w3 hown hgrow hat hlt2
            have HO3 : Hid (OwnB w3 wo.heap.size (.slice (some ⟨gg, 0, none⟩) (T.length + 1) cap2) (T ++ [b'])) := by
              unfold OwnB
              rw [List.length_append, byteCells_append]
              exact hown
            have HB3 : Hid (RowKit.Below wo.heap.size wo w3) := (HB.out.alloc HB.out.size _).grown hgrow (HB.out.alloc HB.out.size _).size (fun q hq => (World.ownsRow.lt HO.out q hq).1)
            clear hown hgrow hat hlt2 HO HB c2 c3
            go_wp2
            go_roundw
            case rel => exact ⟨j + 1, _, by omega, by omega, by go_num, HT2, HO3, HB3⟩
            case measure => simp [intOf]; omega
          · have TD2 := Hid.mk7 (TD.out.later HB.out)
            have HNT : Hid (NoTx (tld (cs.drop j))) := by
              by_cases hjl : j < cs.length
              · obtain ⟨q, b', hr2⟩ := MORE hjl
                have := HW.out.one _ (List.mem_of_getElem? hr2)
                simp only at this
                have hq : 0 ≤ q := by
                  rcases this with rfl | h
                  · exact absurd ⟨b', hr2⟩ hgo
                  · exact h.1
                rw [drop_consK hr2]
                exact noTx_cons _ hq
              · rw [List.drop_eq_nil_of_le (by omega)]
                exact noTx_nil
            have HEQ2 : Hid ((done ++ [(0, 0, T)]) ++ tld (cs.drop j) = tld cs) := by
              show _ = _
              rw [← HEQ.out, HT.out.2, tld_own T _ HT.out.1 HNT.out]
              simp
            have hcv := HO.out.conv HT.out.1
            obtain ⟨s, HS⟩ : ∃ s, Hid (s = cacc T) := ⟨_, rfl⟩
            rw [← HS.out] at hcv
            have hend : (j = cs.length) ∨ ∃ q, j < cs.length ∧ 0 ≤ q ∧ wr.cell? ⟨g, off + j * 2, none⟩ = some (.int .i64 q) := by
              by_cases hjl : j < cs.length
              · right
                obtain ⟨q, b', hr2⟩ := MORE hjl
                have := HW.out.one _ (List.mem_of_getElem? hr2)
                simp only at this
                obtain ⟨g', off', he', q2, q3⟩ := HC.out j _ hr2
                cases he'
                refine ⟨q, hjl, ?_, cell_later7 HB.out (Nat.le_refl _) (cell_later7 TD.out.be (Nat.le_refl _) q2)⟩
                rcases this with rfl | h
                · exact absurd ⟨b', hr2⟩ hgo
                · exact h.1
              · left; omega
            have r0 := TD2.out.rd.c0
            have r1 := TD2.out.rd.c1
            have fz := TD2.out.rd.fz
            have rlt := TD2.out.rd.lt
            clear MORE hgo HNT HO HB HEQ hTl TD
            rcases hend with rfl | ⟨q, hjl, hq0, hcq⟩
            · have dn : decide ((cs.length : Int) < (cs.length : Int)) = false := decide_eq_false (by omega)
              go_wp2_with (at_builtin; refine wpList_append_lies _ rfl _ _ 22 rfl (w.heap.size + 2) 57 i0 (.agg #[.int .i64 0, .int .i64 0, .string ⟨#[]⟩]) 3 32 Tryd.underlying22 HI.out hz0 hz1 hz2 rfl (by decide) _ _ _ rfl (World.ownsRow.alloc TD2.out.ow _) ⟨_, 0, none⟩ 1 1 [.int .i64 0, .int .i64 0, .string s] rfl rfl (World.news_of_block (heap_alloc_new _ _)) (fun u hu => by simp at hu; rcases hu with rfl | rfl | rfl <;> rfl) (by omega) (by unfold maxLen; omega) (by omega) (by have := TD2.out.sz; simp; omega) _ rfl ?_)
              intro gg cap2 w3 hown hgrow hat hlt2
              have HO3 : Hid (OwnE w3 (w.heap.size + 2) (.slice (some ⟨gg, 0, none⟩) (done.length + 1) cap2) (done ++ [(0, 0, T)])) := by
                unfold OwnE
                rw [List.length_append, c3_append, c3_one, ← HS.out]
                exact hown
              have TA := Hid.mk7 (TD2.out.alloc (.cells #[.int .i64 0, .int .i64 0, .string s] 57))
              have RD3 := Hid.mk7 (TA.out.rdG hgrow)
              have TD3 := Hid.mk7 (TA.out.store hgrow HO3.out)
              have fz3 := RD3.out.fz
              have lt3 := RD3.out.lt
              have p1 := RD3.out.c1
              clear hown hgrow hat hlt2 TA RD3 HO3 TD2 r0 r1 fz rlt hcv
              go_wp2
              go_roundw
              case rel => exact ⟨_, _, _, hj1, rfl, HEQ2, TD3⟩
              case measure => simp [intOf]; omega
            · have dn : decide ((j : Int) < (cs.length : Int)) = true := decide_eq_true (by omega)
              have dq : decide (q < 0) = false := decide_eq_false (by omega)
              go_wp2_with (at_builtin; refine wpList_append_lies _ rfl _ _ 22 rfl (w.heap.size + 2) 57 i0 (.agg #[.int .i64 0, .int .i64 0, .string ⟨#[]⟩]) 3 32 Tryd.underlying22 HI.out hz0 hz1 hz2 rfl (by decide) _ _ _ rfl (World.ownsRow.alloc TD2.out.ow _) ⟨_, 0, none⟩ 1 1 [.int .i64 0, .int .i64 0, .string s] rfl rfl (World.news_of_block (heap_alloc_new _ _)) (fun u hu => by simp at hu; rcases hu with rfl | rfl | rfl <;> rfl) (by omega) (by unfold maxLen; omega) (by omega) (by have := TD2.out.sz; simp; omega) _ rfl ?_)
              intro gg cap2 w3 hown hgrow hat hlt2
              have HO3 : Hid (OwnE w3 (w.heap.size + 2) (.slice (some ⟨gg, 0, none⟩) (done.length + 1) cap2) (done ++ [(0, 0, T)])) := by
                unfold OwnE
                rw [List.length_append, c3_append, c3_one, ← HS.out]
                exact hown
              have TA := Hid.mk7 (TD2.out.alloc (.cells #[.int .i64 0, .int .i64 0, .string s] 57))
              have RD3 := Hid.mk7 (TA.out.rdG hgrow)
              have TD3 := Hid.mk7 (TA.out.store hgrow HO3.out)
              have fz3 := RD3.out.fz
              have lt3 := RD3.out.lt
              have p1 := RD3.out.c1
              clear hown hgrow hat hlt2 TA RD3 HO3 TD2 r0 r1 fz rlt hcv
              go_wp2
              go_roundw
              case rel => exact ⟨_, _, _, hj1, rfl, HEQ2, TD3⟩
              case measure => simp [intOf]; omega
      · have hp2 : 0 ≤ p ∧ p ≤ 20000 ∧ b = 0 := by
          rcases hp with h1 | h1
          · omega
          · exact h1
        obtain ⟨hp0, hp1, rfl⟩ := hp2
        have dneg : decide (p < 0) = false := decide_eq_false hneg
        have HS0 : Hid (cs.drop k = rng p (p + 1) ++ cs.drop (k + 1)) := by show _ = _; rw [drop_consK HR.out, rng_snoc (Int.le_refl p), rng_none (Int.le_refl p)]; rfl
        clear hp hneg c1
        go_wp2
        go_loopw [8] (fun jv wx => ∃ (j : Nat) (q : Int), k ≤ j ∧ j + 1 ≤ cs.length ∧ p ≤ q ∧ q ≤ 20000 ∧ jv = .int .i64 ((j : Int) + 1) ∧ Hid (cs[j]? = some (q, 0)) ∧ Hid (cs.drop k = rng p (q + 1) ++ cs.drop (j + 1)) ∧ RowKit.Below wo.heap.size wo wx) (fun jv _ => cs.length + 1 - (intOf jv).toNat)
        case atStart => exact ⟨k, p, Nat.le_refl _, by omega, Int.le_refl _, hp1, by go_num, HR, HS0, RowKit.Below.refl _ _⟩
        case round =>
          obtain ⟨j, q, hj0, hj1, hpq, hq1, rfl, HRJ, HSJ, hb⟩ := hrel
          obtain ⟨g', off', he', q2, _⟩ := HC.out j _ HRJ.out
          cases he'
          have c2 := cell_later7 hb (Nat.le_refl _) (cell_later7 TD.out.be (Nat.le_refl _) q2)
          simp only at c2
          have Q2 := Hid.mk7 q2
          clear c0 q2
          by_cases hjl : j + 1 < cs.length
          · obtain ⟨⟨q', b'⟩, hr2⟩ : ∃ r, cs[j + 1]? = some r := ⟨_, List.getElem?_eq_getElem hjl⟩
            obtain ⟨g', off', he', q4, _⟩ := HC.out (j + 1) _ hr2
            cases he'
            have c4 := cell_later7 hb (Nat.le_refl _) (cell_later7 TD.out.be (Nat.le_refl _) q4)
            simp only at c4
            have hw2 := HW.out.one _ (List.mem_of_getElem? hr2)
            simp only at hw2
            have HR2 := Hid.mk7 hr2
            have dl : decide ((j : Int) + 1 < (cs.length : Int)) = true := decide_eq_true (by omega)
            clear q4 hr2
            by_cases hqq : q' = q + 1
            · have hb0 : b' = 0 := by
                rcases hw2 with h1 | h1
                · omega
                · exact h1.2.2
              have hq2 : q + 1 ≤ 20000 := by omega
              have HS2 : Hid (cs.drop k = rng p (q + 1 + 1) ++ cs.drop (j + 1 + 1)) := by show _ = _; rw [HSJ.out, drop_consK HR2.out, rng_snoc (show p ≤ q + 1 by omega), hqq, hb0, List.append_assoc]; rfl
              subst hqq hb0
              clear hw2 HSJ
              go_wp2
              go_quiet (fail)
              go_wp2
              go_roundw
              case rel => exact ⟨j + 1, q + 1, by omega, by omega, by omega, hq2, by go_num, HR2, HS2, below_drewN hb nq⟩
              case measure => simp [intOf]; omega
            · have e1 : (q' == q + 1) = false := by simpa using hqq
              have e2 : decide (q' = q + 1) = false := by simpa using hqq
              have HNA : Hid (NoAt (q + 1) (tld (cs.drop (j + 1)))) := by
                rw [drop_consK HR2.out]
                rcases hw2 with h1 | h1
                · exact noAt_neg _ _ (by simp only; omega)
                · exact noAt_pos _ _ h1.1 hqq
              clear hw2 hqq
              go_wp2
              go_quiet (fail)
              go_wp2
              have BD := Hid.mk7 (below_drewN hb nq)
              generalize wr.drewN nq = W at *
              have TD2 := Hid.mk7 (TD.out.later BD.out)
              have HEQ2 : Hid ((done ++ [(p, q + 1, [])]) ++ tld (cs.drop (j + 1)) = tld cs) := by
                show _ = _
                rw [← HEQ.out, HSJ.out, tld_rng _ p (q + 1) _ rfl hp0 (by omega) HNA.out]
                simp
              have y0 := TD2.out.rd.c1
              have y1 := cell_later7 TD2.out.be (Nat.le_refl _) Q0.out
              have y2 := cell_later7 TD2.out.be (Nat.le_refl _) Q2.out
              try simp only at y1 y2
              clear HSJ HNA hb c2 HRJ
              refine wp_region_turns (fun w' => ∃ x0 : (GW (fun W => W.cell? ⟨w.heap.size + 1, 1, none⟩ = some (.slice da done.length dcap) ∧ W.cell? ⟨g, off + k * 2, none⟩ = some (.int .i64 p) ∧ W.cell? ⟨g, off + j * 2, none⟩ = some (.int .i64 q))), w' = x0.w) [0, 1, 2, 3, 4, 5, 6, 7, 8, 9, 10, 11, 12, 13] 18 5 (by kernel_rfl) (by kernel_rfl) (fun d => ⟨⟨redrawn W d, y0, y1, y2⟩, rfl⟩) ?_
              intro d
              have k0 : ∀ x0 : (GW (fun W => W.cell? ⟨w.heap.size + 1, 1, none⟩ = some (.slice da done.length dcap) ∧ W.cell? ⟨g, off + k * 2, none⟩ = some (.int .i64 p) ∧ W.cell? ⟨g, off + j * 2, none⟩ = some (.int .i64 q))), x0.w.cell? ⟨w.heap.size + 1, 1, none⟩ = some (.slice da done.length dcap) := fun x0 => x0.h.1
              have k1 : ∀ x0 : (GW (fun W => W.cell? ⟨w.heap.size + 1, 1, none⟩ = some (.slice da done.length dcap) ∧ W.cell? ⟨g, off + k * 2, none⟩ = some (.int .i64 p) ∧ W.cell? ⟨g, off + j * 2, none⟩ = some (.int .i64 q))), x0.w.cell? ⟨g, off + k * 2, none⟩ = some (.int .i64 p) := fun x0 => x0.h.2.1
              have k2' : ∀ x0 : (GW (fun W => W.cell? ⟨w.heap.size + 1, 1, none⟩ = some (.slice da done.length dcap) ∧ W.cell? ⟨g, off + k * 2, none⟩ = some (.int .i64 p) ∧ W.cell? ⟨g, off + j * 2, none⟩ = some (.int .i64 q))), x0.w.cell? ⟨g, off + j * 2, none⟩ = some (.int .i64 q) := fun x0 => x0.h.2.2
              simp only [pickAll, pickAt, List.nil_append, List.cons_append, List.append_nil]
              have hne : Nonempty (GW (fun W => W.cell? ⟨w.heap.size + 1, 1, none⟩ = some (.slice da done.length dcap) ∧ W.cell? ⟨g, off + k * 2, none⟩ = some (.int .i64 p) ∧ W.cell? ⟨g, off + j * 2, none⟩ = some (.int .i64 q))) := ⟨⟨W, y0, y1, y2⟩⟩
              repeat (go_big_quiet_step (fail))
              refine wpQuiet_nil ?_
              clear hne k0 k1 k2' y0 y1 y2
              have TD3 := Hid.mk7 (TD2.out.later (below_redrawnE W d))
              clear TD2 BD
              generalize redrawn W d = W3 at *
              refine anyC_pick1 14 (by kernel_rfl) (by kernel_rfl) ?_
              simp only [pickAll, pickAt, List.nil_append, List.cons_append, List.append_nil]
              go_wp2
              refine anyNext_mk ⟨⟨_, TD3.out.rd.c1, cell_later7 TD3.out.be (Nat.le_refl _) Q0.out, cell_later7 TD3.out.be (Nat.le_refl _) Q2.out⟩, rfl⟩ ?_
              refine anyC_pick1 15 (by kernel_rfl) (by kernel_rfl) ?_
              simp only [pickAll, pickAt, List.nil_append, List.cons_append, List.append_nil]
              have TA := Hid.mk7 (TD3.out.alloc (.cells #[.int .i64 p, .int .i64 (q + 1), .string ⟨#[]⟩] 57))
              go_wp2
              refine anyNext_mk ⟨⟨_, TA.out.rd.c1, cell_later7 TA.out.be (Nat.le_refl _) Q0.out, cell_later7 TA.out.be (Nat.le_refl _) Q2.out⟩, rfl⟩ ?_
              refine anyC_pick1 16 (by kernel_rfl) (by kernel_rfl) ?_
              simp only [pickAll, pickAt, List.nil_append, List.cons_append, List.append_nil]
              have hsz3 := TA.out.sz
              go_wp2_with (at_builtin; refine wpList_append_lies _ rfl _ _ 22 rfl (w.heap.size + 2) 57 i0 (.agg #[.int .i64 0, .int .i64 0, .string ⟨#[]⟩]) 3 32 Tryd.underlying22 HI.out hz0 hz1 hz2 rfl (by decide) _ _ _ rfl (TA.out.ow) ⟨_, 0, none⟩ 1 1 [.int .i64 p, .int .i64 (q + 1), .string ⟨#[]⟩] rfl rfl (World.news_of_block (heap_alloc_new _ _)) (fun u hu => by simp at hu; rcases hu with rfl | rfl | rfl <;> rfl) (by omega) (by unfold maxLen; omega) (by omega) (by omega) _ rfl ?_)
              intro gg cap2 w3 hown hgrow hat hlt2
              have HO3 : Hid (OwnE w3 (w.heap.size + 2) (.slice (some ⟨gg, 0, none⟩) (done.length + 1) cap2) (done ++ [(p, q + 1, [])])) := by
                unfold OwnE
                rw [List.length_append, c3_append, c3_one]
                exact hown
              have RD3 := Hid.mk7 (TA.out.rdG hgrow)
              have BE3 := Hid.mk7 (TA.out.beG hgrow)
              have TD4 := Hid.mk7 (TA.out.store hgrow HO3.out)
              have fz3 := RD3.out.fz
              have lt3 := RD3.out.lt
              have p1 := RD3.out.c1
              clear hown hgrow hat hlt2 TA HO3 TD3
              go_wp2
              refine anyNext_mk ⟨⟨_, RD3.out.c1, cell_later7 BE3.out (Nat.le_refl _) Q0.out, cell_later7 BE3.out (Nat.le_refl _) Q2.out⟩, rfl⟩ ?_
              refine anyC_pick1 17 (by kernel_rfl) (by kernel_rfl) ?_
              simp only [pickAll, pickAt, List.nil_append, List.cons_append, List.append_nil]
              go_wp2
              refine anyNext_mk ⟨⟨_, RD3.out.c1, cell_later7 BE3.out (Nat.le_refl _) Q0.out, cell_later7 BE3.out (Nat.le_refl _) Q2.out⟩, rfl⟩ ?_
              refine anyC_pick1 18 (by kernel_rfl) (by kernel_rfl) ?_
              simp only [pickAll, pickAt, List.nil_append, List.cons_append, List.append_nil]
              go_wp2
              refine anyNext_last (anyC_done (by kernel_rfl) ?_)
              clear RD3 BE3
              go_wp2
              go_roundw
              case rel => exact ⟨j + 1, _, _, hj1, by go_num, HEQ2, TD4⟩
              case measure => simp [intOf]; omega
          · have dl : decide ((j : Int) + 1 < (cs.length : Int)) = false := decide_eq_false (by omega)
            have HNA : Hid (NoAt (q + 1) (tld (cs.drop (j + 1)))) := by
              rw [List.drop_eq_nil_of_le (by omega)]
              exact noAt_nil _
            go_wp2
            go_quiet (fail)
            go_wp2
            have BD := Hid.mk7 (below_drewN hb nq)
            generalize wr.drewN nq = W at *
            have TD2 := Hid.mk7 (TD.out.later BD.out)
            have HEQ2 : Hid ((done ++ [(p, q + 1, [])]) ++ tld (cs.drop (j + 1)) = tld cs) := by
              show _ = _
              rw [← HEQ.out, HSJ.out, tld_rng _ p (q + 1) _ rfl hp0 (by omega) HNA.out]
              simp
            have y0 := TD2.out.rd.c1
            have y1 := cell_later7 TD2.out.be (Nat.le_refl _) Q0.out
            have y2 := cell_later7 TD2.out.be (Nat.le_refl _) Q2.out
            try simp only at y1 y2
            clear HSJ HNA hb c2 HRJ
            refine wp_region_turns (fun w' => ∃ x0 : (GW (fun W => W.cell? ⟨w.heap.size + 1, 1, none⟩ = some (.slice da done.length dcap) ∧ W.cell? ⟨g, off + k * 2, none⟩ = some (.int .i64 p) ∧ W.cell? ⟨g, off + j * 2, none⟩ = some (.int .i64 q))), w' = x0.w) [0, 1, 2, 3, 4, 5, 6, 7, 8, 9, 10, 11, 12, 13] 18 5 (by kernel_rfl) (by kernel_rfl) (fun d => ⟨⟨redrawn W d, y0, y1, y2⟩, rfl⟩) ?_
            intro d
            have k0 : ∀ x0 : (GW (fun W => W.cell? ⟨w.heap.size + 1, 1, none⟩ = some (.slice da done.length dcap) ∧ W.cell? ⟨g, off + k * 2, none⟩ = some (.int .i64 p) ∧ W.cell? ⟨g, off + j * 2, none⟩ = some (.int .i64 q))), x0.w.cell? ⟨w.heap.size + 1, 1, none⟩ = some (.slice da done.length dcap) := fun x0 => x0.h.1
            have k1 : ∀ x0 : (GW (fun W => W.cell? ⟨w.heap.size + 1, 1, none⟩ = some (.slice da done.length dcap) ∧ W.cell? ⟨g, off + k * 2, none⟩ = some (.int .i64 p) ∧ W.cell? ⟨g, off + j * 2, none⟩ = some (.int .i64 q))), x0.w.cell? ⟨g, off + k * 2, none⟩ = some (.int .i64 p) := fun x0 => x0.h.2.1
            have k2' : ∀ x0 : (GW (fun W => W.cell? ⟨w.heap.size + 1, 1, none⟩ = some (.slice da done.length dcap) ∧ W.cell? ⟨g, off + k * 2, none⟩ = some (.int .i64 p) ∧ W.cell? ⟨g, off + j * 2, none⟩ = some (.int .i64 q))), x0.w.cell? ⟨g, off + j * 2, none⟩ = some (.int .i64 q) := fun x0 => x0.h.2.2
            simp only [pickAll, pickAt, List.nil_append, List.cons_append, List.append_nil]
            have hne : Nonempty (GW (fun W => W.cell? ⟨w.heap.size + 1, 1, none⟩ = some (.slice da done.length dcap) ∧ W.cell? ⟨g, off + k * 2, none⟩ = some (.int .i64 p) ∧ W.cell? ⟨g, off + j * 2, none⟩ = some (.int .i64 q))) := ⟨⟨W, y0, y1, y2⟩⟩
            repeat (go_big_quiet_step (fail))
            refine wpQuiet_nil ?_
            clear hne k0 k1 k2' y0 y1 y2
            have TD3 := Hid.mk7 (TD2.out.later (below_redrawnE W d))
            clear TD2 BD
            generalize redrawn W d = W3 at *
            refine anyC_pick1 14 (by kernel_rfl) (by kernel_rfl) ?_
            simp only [pickAll, pickAt, List.nil_append, List.cons_append, List.append_nil]
            go_wp2
            refine anyNext_mk ⟨⟨_, TD3.out.rd.c1, cell_later7 TD3.out.be (Nat.le_refl _) Q0.out, cell_later7 TD3.out.be (Nat.le_refl _) Q2.out⟩, rfl⟩ ?_
            refine anyC_pick1 15 (by kernel_rfl) (by kernel_rfl) ?_
            simp only [pickAll, pickAt, List.nil_append, List.cons_append, List.append_nil]
            have TA := Hid.mk7 (TD3.out.alloc (.cells #[.int .i64 p, .int .i64 (q + 1), .string ⟨#[]⟩] 57))
            go_wp2
            refine anyNext_mk ⟨⟨_, TA.out.rd.c1, cell_later7 TA.out.be (Nat.le_refl _) Q0.out, cell_later7 TA.out.be (Nat.le_refl _) Q2.out⟩, rfl⟩ ?_
            refine anyC_pick1 16 (by kernel_rfl) (by kernel_rfl) ?_
            simp only [pickAll, pickAt, List.nil_append, List.cons_append, List.append_nil]
            have hsz3 := TA.out.sz
            go_wp2_with (at_builtin; refine wpList_append_lies _ rfl _ _ 22 rfl (w.heap.size + 2) 57 i0 (.agg #[.int .i64 0, .int .i64 0, .string ⟨#[]⟩]) 3 32 Tryd.underlying22 HI.out hz0 hz1 hz2 rfl (by decide) _ _ _ rfl (TA.out.ow) ⟨_, 0, none⟩ 1 1 [.int .i64 p, .int .i64 (q + 1), .string ⟨#[]⟩] rfl rfl (World.news_of_block (heap_alloc_new _ _)) (fun u hu => by simp at hu; rcases hu with rfl | rfl | rfl <;> rfl) (by omega) (by unfold maxLen; omega) (by omega) (by omega) _ rfl ?_)
            intro gg cap2 w3 hown hgrow hat hlt2
            have HO3 : Hid (OwnE w3 (w.heap.size + 2) (.slice (some ⟨gg, 0, none⟩) (done.length + 1) cap2) (done ++ [(p, q + 1, [])])) := by
              unfold OwnE
              rw [List.length_append, c3_append, c3_one]
              exact hown
            have RD3 := Hid.mk7 (TA.out.rdG hgrow)
            have BE3 := Hid.mk7 (TA.out.beG hgrow)
            have TD4 := Hid.mk7 (TA.out.store hgrow HO3.out)
            have fz3 := RD3.out.fz
            have lt3 := RD3.out.lt
            have p1 := RD3.out.c1
            clear hown hgrow hat hlt2 TA HO3 TD3
            go_wp2
            refine anyNext_mk ⟨⟨_, RD3.out.c1, cell_later7 BE3.out (Nat.le_refl _) Q0.out, cell_later7 BE3.out (Nat.le_refl _) Q2.out⟩, rfl⟩ ?_
            refine anyC_pick1 17 (by kernel_rfl) (by kernel_rfl) ?_
            simp only [pickAll, pickAt, List.nil_append, List.cons_append, List.append_nil]
            go_wp2
            refine anyNext_mk ⟨⟨_, RD3.out.c1, cell_later7 BE3.out (Nat.le_refl _) Q0.out, cell_later7 BE3.out (Nat.le_refl _) Q2.out⟩, rfl⟩ ?_
            refine anyC_pick1 18 (by kernel_rfl) (by kernel_rfl) ?_
            simp only [pickAll, pickAt, List.nil_append, List.cons_append, List.append_nil]
            go_wp2
            refine anyNext_last (anyC_done (by kernel_rfl) ?_)
            clear RD3 BE3
            go_wp2
            go_roundw
            case rel => exact ⟨j + 1, _, _, hj1, by go_num, HEQ2, TD4⟩
            case measure => simp [intOf]; omega
    · obtain rfl : k = cs.length := by omega
      obtain rfl : done = tld cs := by rw [← HEQ.out, List.drop_length]; exact (List.append_nil _).symm
      have HCE := Hid.mk7 TD.out.ow.row
      obtain ⟨_, _, ee, _, _, hcel⟩ := id HCE.out
      cases ee
      have HCL := Hid.mk7 hcel
      clear hcel HC HEQ
      have r0 := TD.out.rd.c0
      have r1 := TD.out.rd.c1
      obtain ⟨es, HES⟩ : ∃ es, Hid (tld cs = es) := ⟨_, rfl⟩
      have HVL := Hid.mk7 HW.out.vl
      rw [HES.out] at HVL HCL r1 TD hdn ⊢
      clear HCE HW
      go_wp2
      go_loopw [10] (fun iv wx => ∃ m : Nat, m ≤ es.length ∧ iv = .int .i64 (m : Nat) ∧ RowKit.Below wo.heap.size wo wx) (fun iv _ => es.length - (intOf iv).toNat)
      case atStart => exact ⟨0, Nat.zero_le _, rfl, RowKit.Below.refl _ _⟩
      case round =>
        obtain ⟨m, hm, rfl, hb⟩ := hrel
        have TD2 := Hid.mk7 (TD.out.later hb)
        have s0 := TD2.out.rd.c0
        have s1 := TD2.out.rd.c1
        clear r0 r1
        by_cases hml : m < es.length
        · obtain ⟨⟨f, t, T⟩, hr⟩ : ∃ r, es[m]? = some r := ⟨es[m], List.getElem?_eq_getElem hml⟩
          obtain ⟨g', off', rfl, _, _, q2⟩ := HCL.out m _ hr
          have c2 := cell_later7 hb (Nat.le_refl _) q2
          have hv := HVL.out _ (List.mem_of_getElem? hr)
          simp only at c2 hv
          have HVD := Hid.mk7 (fun W => refvalid_any (cacc T) W (by rw [cacc_size]; unfold maxLen; omega))
          rw [cacc_toList, hv.1] at HVD
          clear q2 hr hv
          generalize cacc T = s at *
          go_wp2_with fail
          refine (HVD.out _).mono ?_
          rintro e w2 ⟨rfl, rfl⟩
          go_wp2
          go_roundw
          case rel => exact ⟨m + 1, by omega, by go_num, hb⟩
          case measure => simp [intOf]; omega
        · obtain rfl : m = es.length := by omega
          have ra0 := TD2.out.ra.c0
          have ra1 := TD2.out.ra.c1
          have fz := TD2.out.ra.fz
          have rlt := TD2.out.ra.lt
          by_cases h60 : 60 < es.length
          · have d60 : decide ((60 : Int) < (es.length : Int)) = true := decide_eq_true (by omega)
            go_wp2
            refine bodyPost_ret (results_del2 rfl _ _ w.heap.size _ _ _ rfl rfl (TD2.out.ra.set _ _)) rfl ?_
            refine ⟨?_, below_set2 TD2.out.be (Nat.le_refl _) _ _⟩
            unfold ToldR
            rw [HES.out, if_pos h60]
            rfl
          · have d60 : decide ((60 : Int) < (es.length : Int)) = false := decide_eq_false (by omega)
            go_wp2
            refine bodyPost_ret (results_del2 rfl _ _ w.heap.size _ _ _ rfl rfl (TD2.out.ra.set _ _)) rfl ?_
            refine ⟨?_, below_set2 TD2.out.be (Nat.le_refl _) _ _⟩
            unfold ToldR
            rw [HES.out, if_neg h60]
            exact ⟨_, rfl, TD2.out.ow.set2 (g := w.heap.size) (by omega) _ _⟩
end Go.Proofs.YtiienebioebjpaaDoor
