/- Of. -/
import Derived.Test.YtfgefdkkjfjjjaaDoorTreeC
namespace Go.Proofs.YtfgefdkkjfjjjaaDoor
open Go.RowKit Go.Sort
set_option linter.unusedSimpArgs false
set_option linter.unusedVariables false

/-- A row of texts in memory. -/
def Strs (w : World) (v : Value) (ls : List ByteArray) : Prop := (v = .slice none 0 0 ∧ ls = []) ∨ ∃ b off cap, v = .slice (some ⟨b, off, none⟩) ls.length cap ∧ ∀ i s, ls[i]? = some s → w.cell? ⟨b, off + i, none⟩ = some (.string s)
theorem strs_of_own {w : World} {B : Nat} {e : TypeId} {v : Value} {ls : List ByteArray} (h : w.ownsRow B e 1 v ls.length (ls.map Value.string)) : Strs w v ls := by
  rcases h.2 with ⟨h1, h2⟩ | ⟨g, cap, cur, h1, _, h3, h4, _, h6, h7⟩
  · exact Or.inl ⟨h1, List.eq_nil_of_length_eq_zero h2⟩
  · refine Or.inr ⟨g, 0, cap, h1, fun i s hs => ?_⟩
    have hi : i < ls.length := (List.getElem?_eq_some_iff.1 hs).1
    rw [Lib.cell_of_heap h3]
    have : (cur.toList.take (ls.length * 1))[0 + i]? = (ls.map Value.string)[0 + i]? := by rw [h7]
    rw [List.getElem?_take, if_pos (by omega)] at this
    simp only [Nat.zero_add] at this ⊢
    rw [List.getElem?_map, hs] at this
    simpa using this

set_option maxHeartbeats 4000000 in
set_option maxRecDepth 100000 in
/-- Of, of a row of texts. -/
theorem of_row (E : Env) (ls : List ByteArray) (b off cap : Nat) (w : World) (hl : ls.length ≤ 1099511627776) (hD : ∀ s ∈ ls, E.D s) (hc : ∀ i s, ls[i]? = some s → w.cell? ⟨b, off + i, none⟩ = some (.string s)) (hT : E.Tb w) :
    Calls Tryd.prog 59 #[.slice (some ⟨b, off, none⟩) ls.length cap] w fun e w' => ∃ v, e = .returned (.agg #[v]) ∧ Tr E w' v ls ∧ Below w.heap.size w w' := by
  obtain ⟨i0, hi, hz0, hz1, hz2⟩ := info_parts Tryd.info_pnode
  have HD := Hid.mk4 hD
  have HC := Hid.mk4 hc
  have b0 : Below w.heap.size w (w.alloc (Obj.cells #[.pointer none] 61)) := (Below.refl _ _).alloc (Nat.le_refl _) _
  have R0 : Hid (Rt 61 (w.alloc (Obj.cells #[.pointer none] 61)) w.heap.size #[.pointer none]) := Rt.new _ w _
  clear hD hc
  go_enter Tryd.func59, Tryd.ntmps59
  go_wp2
  generalize w.alloc (Obj.cells #[.pointer none] 61) = w0 at *
  go_loopw [3, 8] (fun lv ii wr => ∃ (us : List (Nat × List ByteArray)), ii = .int .i64 (us.length : Nat) ∧ us.length ≤ ls.length ∧ Hid (us.flatMap Prod.snd = ls.take us.length) ∧ Hid (wr.ownsRow w0.heap.size 59 1 lv us.length ((us.map Prod.fst).map pv)) ∧ Hid (∀ u ∈ us, NdA E (Off lv) wr 0 u.1 u.2) ∧ Below w0.heap.size w0 wr) (fun _ ii _ => ls.length - (intOf ii).toNat)
  case atStart => exact ⟨[], rfl, by simp, by show _ = _; simp, World.ownsRow_nil _ _ _ _, fun u hu => by simp at hu, Below.refl _ _⟩
  case round =>
    obtain ⟨us, rfl, hul, HF, HO, HU, hb⟩ := hrel
    have bw := b0.trans (hb.mono b0.size)
    by_cases hlt : us.length < ls.length
    · obtain ⟨s, hs⟩ : ∃ s, ls[us.length]? = some s := ⟨ls[us.length], List.getElem?_eq_getElem hlt⟩
      have cs := cell_after (HC.out us.length s hs) bw
      have HF2 : Hid (us.flatMap Prod.snd ++ [s] = ls.take (us.length + 1)) := by
        show _ = _
        obtain ⟨h1, rfl⟩ := List.getElem?_eq_some_iff.1 hs
        rw [HF.out, List.take_succ_eq_append_getElem h1]
      have HDs : Hid (E.D s) := HD.out s (List.mem_of_getElem? hs)
      have HS := Hid.mk4 (single_any E (Off u3) s HDs.out wr (fun b hb' => off_above HO.out hb') (E.later hT bw))
      clear hs
      go_wp2_with fail
      refine HS.out.mono ?_
      rintro e w2 ⟨g2, rfl, hg2, hn2, b2⟩
      have HN2 := Hid.mk4 hn2
      have HO2 := Hid.mk4 (own_later HO.out b2)
      have HU2 : Hid (∀ u ∈ us, NdA E (Off u3) w2 0 u.1 u.2) := fun u hu => (HU.out u hu).later b2
      have hb2 := hb.trans (b2.mono hb.size)
      clear hn2 HS HO HU b2 hb cs bw hg2
      go_wp2_with (at_builtin; refine wpList_append_own_at _ rfl _ _ 96 rfl w0.heap.size 59 i0 (.pointer none) 1 8 Tryd.underlying96 hi hz0 hz1 hz2 rfl (by decide) _ _ _ rfl (HO2.out.alloc _) ⟨w2.heap.size, 0, none⟩ 1 1 [pv g2] rfl rfl (one_ptr _ _ _) ?c2 ?c3 ?c4 ?c5 ?_)
      case c2 => intro u hu; simp at hu; subst hu; rfl
      case c3 => unfold maxLen; omega
      case c4 => omega
      case c5 => have := hb2.size; simp; omega
      intro v' w3 hown' hgrow _ hat0
      have hat : v'.ownBlock = u3.ownBlock ∨ v'.ownBlock = some (w2.alloc (Obj.cells #[pv g2] 59)).heap.size := by simpa using hat0
      clear hat0
      have b3 : Below w2.heap.size w2 (w2.alloc (Obj.cells #[pv g2] 59)) := (Below.refl _ _).alloc (Nat.le_refl _) _
      have HO3 : Hid (w3.ownsRow w0.heap.size 59 1 v' (us ++ [(g2, [s])]).length (((us ++ [(g2, [s])]).map Prod.fst).map pv)) := by
        show World.ownsRow _ _ _ _ _ _ _
        simpa using hown'
      have HU3 : Hid (∀ u ∈ us ++ [(g2, [s])], NdA E (Off v') w3 0 u.1 u.2) := by
        intro u hu
        rcases List.mem_append.1 hu with hu | hu
        · exact ((HU2.out u hu).later b3).put hgrow hat
        · simp at hu
          subst hu
          exact (HN2.out.later b3).put hgrow hat
      have hb3 : Below w0.heap.size w0 w3 := (hb2.trans (b3.mono hb2.size)).grown hgrow (by have := hb2.size; simp; omega) (fun k hk => by have := HO2.out.lt _ hk; omega)
      have HF3 : Hid ((us ++ [(g2, [s])]).flatMap Prod.snd = ls.take (us ++ [(g2, [s])]).length) := by
        show _ = _
        rw [List.flatMap_append, List.length_append]
        simpa using HF2.out
      have hul3 : Hid ((us ++ [(g2, [s])]).length = us.length + 1) := by show _ = _; simp
      clear hown' hgrow hat HU2 HO2 HN2 HF HF2
      generalize us ++ [(g2, [s])] = us3 at *
      go_wp2
      go_roundw
      case rel => exact ⟨us3, by rw [hul3.out]; go_num, by rw [hul3.out]; omega, HF3, HO3, HU3, hb3⟩
      case measure => simp [intOf]; omega
    · have hle : us.length = ls.length := by omega
      have HF1 := HF.out
      rw [hle, List.take_length] at HF1
      have HFF := Hid.mk4 HF1
      have hlt' : decide (us.length < ls.length) = false := by simp; omega
      have HUN : Hid (∀ u ∈ us, Nd E wr 0 u.1 u.2) := fun u hu => (HU.out u hu).nd
      have HRT := Hid.mk4 (R0.out.later' hb)
      have HLE := Hid.mk4 hle
      clear HF1 HF HU hle hlt
      have HSL : Hid ((u3 = .slice none 0 0 ∧ us = []) ∨ ∃ g cap, u3 = .slice (some ⟨g, 0, none⟩) us.length cap ∧ us.length ≤ cap ∧ Ptrs wr g 0 (us.map Prod.fst)) := by
        rcases HO.out.2 with ⟨h1, h2⟩ | ⟨g, cap, cur, h1, h2, h3, h4, h5⟩
        · exact Or.inl ⟨h1, List.eq_nil_of_length_eq_zero h2⟩
        · cases us with
          | nil => exact Or.inr ⟨g, cap, h1, h4, fun i x hx => by simp at hx⟩
          | cons a r =>
            obtain ⟨g', cap', e, _, hc', _, hp⟩ := ptrs_of_own (gs := (a :: r).map Prod.fst) (by simpa using HO.out) (by simp)
            exact Or.inr ⟨g', cap', by simpa using e, by simpa using hc', hp⟩
      clear HO
      go_wp2
      go_loopw [3] (fun lv wr2 => ∃ (us2 : List (Nat × List ByteArray)) (d : Nat), Hid ((lv = .slice none 0 0 ∧ us2 = []) ∨ ∃ g cap, lv = .slice (some ⟨g, 0, none⟩) us2.length cap ∧ us2.length ≤ cap ∧ Ptrs wr2 g 0 (us2.map Prod.fst)) ∧ Hid (∀ u ∈ us2, Nd E wr2 d u.1 u.2) ∧ Hid (us2.flatMap Prod.snd = ls) ∧ us2.length ≤ 1099511627776 ∧ Below wr.heap.size wr wr2) (fun lv _ => lenV lv)
      case atStart => exact ⟨us, 0, HSL, HUN, HFF, by omega, Below.refl _ _⟩
      case round =>
        obtain ⟨us2, d, HSL2, HUN2, HFF2, hul2, hb2⟩ := hrel
        clear HSL HUN HFF
        have HR2 := Hid.mk4 (HRT.out.later' hb2)
        have bw2 := bw.trans (hb2.mono bw.size)
        rcases HSL2.out with ⟨e1, e2⟩ | ⟨g, cap2, e1, hcap2, hp2⟩
        · subst e1
          have HE : Hid (ls = []) := by have := HFF2.out; rw [e2] at this; exact this.symm
          clear e2 HSL2
          go_wp2_with fail
          refine (only_nil E _).mono ?_
          rintro e w3 ⟨v, rfl, hv, b3⟩
          obtain ⟨v, rfl⟩ := hv.ptr
          have HV := Hid.mk4 hv
          have HR3 := Hid.mk4 (HR2.out.later' b3)
          have bw3 := bw2.trans (b3.mono bw2.size)
          have fz := HR3.out.fz
          have cz := HR3.out.cell 0
          have hlt3 := HR3.out.lt
          clear hv b3 HR2 bw2
          go_wp2
          refine bodyPost_ret (results_tree rfl _ _ w.heap.size _ rfl (HR3.out.set1 _)) rfl ⟨_, rfl, ?_, bw3.setCell (p := ⟨w.heap.size, 0, none⟩) (Nat.le_refl _) _⟩
          rw [HE.out]
          exact HV.out.putT HR3.out _
        · subst e1
          have HP2 := Hid.mk4 hp2
          clear hp2 HSL2
          by_cases h1 : 1 < us2.length
          · have hd : d ≤ 1099511627776 := by
              match us2, h1 with
              | a :: r, _ =>
                have h2 := NdA.ge (HUN2.out a (by simp))
                have h3 := congrArg List.length HFF2.out
                rw [List.flatMap_cons, List.length_append] at h3
                omega
            have h1' : (1 : Int) < (us2.length : Int) := by omega
            have HPA := Hid.mk4 (parents_any E d us2 g 0 cap2 _ h1 hd (by rw [HFF2.out]; exact hl) hul2 hcap2 HUN2.out HP2.out)
            go_wp2_with fail
            refine HPA.out.mono ?_
            rintro e w3 ⟨us3, g3, cap3, rfl, hc3, hl3, hf3, hn3, hp3, b3⟩
            have HP3 : Hid ((Value.slice (some ⟨g3, 0, none⟩) us3.length cap3 = .slice none 0 0 ∧ us3 = []) ∨ ∃ g cap, Value.slice (some ⟨g3, 0, none⟩) us3.length cap3 = .slice (some ⟨g, 0, none⟩) us3.length cap ∧ us3.length ≤ cap ∧ Ptrs w3 g 0 (us3.map Prod.fst)) := Or.inr ⟨g3, cap3, rfl, hc3, hp3⟩
            have HN3 := Hid.mk4 hn3
            have HF3 : Hid (us3.flatMap Prod.snd = ls) := hf3.trans HFF2.out
            have bb3 := hb2.trans (b3.mono hb2.size)
            have hl3' : us3.length < us2.length := by omega
            clear hn3 hf3 hp3 b3 HPA hl3
            go_wp2
            go_roundw
            case rel => exact ⟨us3, d + 1, HP3, HN3, HF3, by omega, bb3⟩
            case measure => simp [lenV]; omega
          · have h1' : decide ((1 : Int) < (us2.length : Int)) = false := by simp; omega
            have h1'' : decide (1 < us2.length) = false := by simp; omega
            have hd : d ≤ 1099511627776 ∨ us2 = [] := by
              match us2 with
              | [] => exact Or.inr rfl
              | a :: r =>
                have h2 := NdA.ge (HUN2.out a (by simp))
                have h3 := congrArg List.length HFF2.out
                rw [List.flatMap_cons, List.length_append] at h3
                exact Or.inl (by omega)
            have HPA : Hid (Calls Tryd.prog 72 #[.slice (some ⟨g, 0, none⟩) us2.length cap2] wr fun e w' => ∃ v, e = .returned v ∧ Tr E w' v (us2.flatMap Prod.snd) ∧ Below wr.heap.size wr w') := by
              rcases hd with hd | hd
              · exact only_any E d us2 g 0 cap2 _ (by omega) hd (by rw [HFF2.out]; exact hl) HUN2.out HP2.out
              · exact only_any E 0 us2 g 0 cap2 _ (by omega) (by omega) (by rw [HFF2.out]; exact hl) (fun k hk => by rw [hd] at hk; simp at hk) HP2.out
            clear hd h1
            go_wp2_with fail
            refine HPA.out.mono ?_
            rintro e w3 ⟨v, rfl, hv, b3⟩
            rw [HFF2.out] at hv
            obtain ⟨v, rfl⟩ := hv.ptr
            have HV := Hid.mk4 hv
            have HR3 := Hid.mk4 (HR2.out.later' b3)
            have bw3 := bw2.trans (b3.mono bw2.size)
            have fz := HR3.out.fz
            have cz := HR3.out.cell 0
            have hlt3 := HR3.out.lt
            clear hv b3 HR2 bw2 HPA
            go_wp2
            exact bodyPost_ret (results_tree rfl _ _ w.heap.size _ rfl (HR3.out.set1 _)) rfl ⟨_, rfl, HV.out.putT HR3.out _, bw3.setCell (p := ⟨w.heap.size, 0, none⟩) (Nat.le_refl _) _⟩

set_option maxHeartbeats 4000000 in
set_option maxRecDepth 100000 in
/-- Of, of none. -/
theorem of_nil (E : Env) (w : World) : Calls Tryd.prog 59 #[.slice none 0 0] w fun e w' => ∃ v, e = .returned (.agg #[v]) ∧ Tr E w' v [] ∧ Below w.heap.size w w' := by
  have b0 : Below w.heap.size w (w.alloc (Obj.cells #[.pointer none] 61)) := (Below.refl _ _).alloc (Nat.le_refl _) _
  have R0 : Hid (Rt 61 (w.alloc (Obj.cells #[.pointer none] 61)) w.heap.size #[.pointer none]) := Rt.new _ w _
  go_enter Tryd.func59, Tryd.ntmps59
  go_wp2
  generalize w.alloc (Obj.cells #[.pointer none] 61) = w0 at *
  refine wp_loop_rounds 1 ?_
  rw [rounds_succ]
  go_wp2
  refine wp_loop_rounds 1 ?_
  rw [rounds_succ]
  go_wp2_with fail
  refine (only_nil E _).mono ?_
  rintro e w3 ⟨v, rfl, hv, b3⟩
  obtain ⟨v, rfl⟩ := hv.ptr
  have HV := Hid.mk4 hv
  have HR3 := Hid.mk4 (R0.out.later' b3)
  have bw3 := b0.trans (b3.mono b0.size)
  have fz := HR3.out.fz
  have cz := HR3.out.cell 0
  have hlt3 := HR3.out.lt
  clear hv b3 R0 b0
  go_wp2
  exact bodyPost_ret (results_tree rfl _ _ w.heap.size _ rfl (HR3.out.set1 _)) rfl ⟨_, rfl, HV.out.putT HR3.out _, bw3.setCell (p := ⟨w.heap.size, 0, none⟩) (Nat.le_refl _) _⟩

/-- Of. -/
theorem tof_any (E : Env) (v : Value) (ls : List ByteArray) (w : World) (h : Strs w v ls) (hl : ls.length ≤ 1099511627776) (hD : ∀ s ∈ ls, E.D s) (hT : E.Tb w) :
    Calls Tryd.prog 59 #[v] w fun e w' => ∃ v', e = .returned (.agg #[v']) ∧ Tr E w' v' ls ∧ Below w.heap.size w w' := by
  rcases h with ⟨rfl, rfl⟩ | ⟨b, off, cap, rfl, hc⟩
  · exact of_nil E w
  · exact of_row E ls b off cap w hl hD hc hT
end Go.Proofs.YtfgefdkkjfjjjaaDoor
