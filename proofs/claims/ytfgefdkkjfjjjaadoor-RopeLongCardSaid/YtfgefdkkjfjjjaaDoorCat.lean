/- Rows of pointers to nodes: slices.Clone. only. way. slices.Grow from nothing, slices.Concat of two rows. -/
import Derived.Test.YtfgefdkkjfjjjaaDoorNd
import Derived.Maps.AppendAt
import Derived.Lib.AppendZeros
import Derived.LoopN
namespace Go.Proofs.YtfgefdkkjfjjjaaDoor
open Go.RowKit Go.Sort
set_option linter.unusedSimpArgs false
set_option linter.unusedVariables false

theorem addr_add (b o j : Nat) : (⟨b, o, none⟩ : Addr).add j = ⟨b, o + j, none⟩ := by
  unfold Addr.add
  split
  · subst_vars; rfl
  · rfl
def lenV : Value → Nat | .slice _ n _ => n | _ => 0
def pv (g : Nat) : Value := .pointer (some ⟨g, 0, none⟩)
theorem Tryd.info_pnode : (Tryd.prog.info? 59).map (fun i => (i.zero, i.size, i.bytes)) = some (some (.pointer none), 1, 8) := by kernel_rfl
theorem ptrs_of_own {w : World} {B : Nat} {v : Value} {gs : List Nat} (h : w.ownsRow B 59 1 v gs.length (gs.map pv)) (hne : gs ≠ []) : ∃ g cap, v = .slice (some ⟨g, 0, none⟩) gs.length cap ∧ B ≤ g ∧ gs.length ≤ cap ∧ g < w.heap.size ∧ Ptrs w g 0 gs := by
  rcases h.2 with ⟨_, h2⟩ | ⟨g, cap, cur, h1, h2, h3, h4, _, h6, h7⟩
  · exact absurd (List.eq_nil_of_length_eq_zero h2) hne
  · refine ⟨g, cap, h1, h2, h4, (Array.getElem?_eq_some_iff.1 h3).1, fun i x hx => ?_⟩
    have hi : i < gs.length := (List.getElem?_eq_some_iff.1 hx).1
    rw [Lib.cell_of_heap h3]
    have : (cur.toList.take (gs.length * 1))[0 + i]? = (gs.map pv)[0 + i]? := by rw [h7]
    rw [List.getElem?_take, if_pos (by omega)] at this
    simp only [Nat.zero_add] at this ⊢
    rw [List.getElem?_map, hx] at this
    simpa [pv] using this
theorem own_later {w w' : World} {B n : Nat} {e : TypeId} {size : Nat} {v : Value} {xs : List Value} (h : w.ownsRow B e size v n xs) (hb : Below w.heap.size w w') : w'.ownsRow B e size v n xs := by
  refine ⟨h.1, h.2.imp id ?_⟩
  rintro ⟨g, cap, cur, h1, h2, h3, h4⟩
  exact ⟨g, cap, cur, h1, h2, (hb.block g (Array.getElem?_eq_some_iff.1 h3).1).trans h3, h4⟩
theorem own_empty (w : World) (B : Nat) (e : TypeId) (hB : B ≤ w.heap.size) : (w.alloc (.cells #[] e)).ownsRow B e 1 (.slice (some ⟨w.heap.size, 0, none⟩) 0 0) 0 [] :=
  ⟨rfl, Or.inr ⟨w.heap.size, 0, #[], rfl, hB, heap_alloc_new w _, Nat.le_refl _, by decide, rfl, rfl⟩⟩

set_option maxHeartbeats 1000000 in
set_option maxRecDepth 100000 in
/-- slices.Clone. -/
theorem clone_any (gs : List Nat) (kb off cap : Nat) (w : World) (hne : gs ≠ []) (hl : gs.length ≤ 1099511627776) (hP : Ptrs w kb off gs) :
    Calls Tryd.prog 78 #[.slice (some ⟨kb, off, none⟩) gs.length cap] w fun e w' => ∃ g cap', e = .returned (.slice (some ⟨g, 0, none⟩) gs.length cap') ∧ w.heap.size ≤ g ∧ gs.length ≤ cap' ∧ g < w'.heap.size ∧ Ptrs w' g 0 gs ∧ Below w.heap.size w w' := by
  obtain ⟨i0, hi, hz0, hz1, hz2⟩ := info_parts Tryd.info_pnode
  have b0 : Below w.heap.size w (w.alloc (Obj.cells #[] 59)) := (Below.refl _ _).alloc (Nat.le_refl _) _
  have HP := Hid.mk4 (hP.later b0)
  have HNE := Hid.mk4 hne
  have HL := Hid.mk4 hl
  clear hP hne hl
  have hnn : ∀ w : World, (binOp .eql 96 (.slice (some ⟨kb, off, none⟩) gs.length cap) (.slice none 0 0)).run Tryd.prog w = .ok (.bool false) w := fun _ => by kernel_rfl
  go_enter Tryd.func78, Tryd.ntmps78
  go_wp2_with (at_builtin; refine wpList_append_own _ rfl _ _ 96 rfl w.heap.size 59 i0 (.pointer none) 1 8 Tryd.underlying96 hi hz0 hz1 hz2 rfl (by decide) _ _ _ rfl (own_empty w w.heap.size 59 (Nat.le_refl _)) ⟨kb, off, none⟩ gs.length cap (gs.map pv) rfl (by simp) ?c1 ?c2 ?c3 ?c4 ?c5 ?_)

  case c1 =>
    intro j u hu
    rw [List.getElem?_map] at hu
    cases hg : gs[j]? with
    | none => rw [hg] at hu; cases hu
    | some x =>
      rw [hg] at hu
      cases hu
      rw [addr_add]
      exact HP.out j x hg
  case c2 => intro u hu; obtain ⟨x, _, rfl⟩ := List.mem_map.1 hu; rfl
  case c3 => have := HL.out; unfold maxLen; omega
  case c4 => have := HL.out; omega
  case c5 => simp
  intro v' w2 hown' hgrow _
  have hown2 : w2.ownsRow w.heap.size 59 1 v' gs.length (gs.map pv) := by simpa using hown'
  have hb3 : Below w.heap.size w w2 := b0.grown hgrow (by simp) (fun k hk => by simp [Value.ownBlock] at hk; omega)
  clear hown' hgrow HP b0
  obtain ⟨g, cap', rfl, h1, h2, h3, h4⟩ := ptrs_of_own hown2 HNE.out
  go_wp2
  go_ret
  exact ⟨g, cap', rfl, h1, h2, h3, h4, hb3⟩

theorem clone_ks (ks : List (Nat × List ByteArray)) (kb off cap : Nat) (w : World) (hne : 1 ≤ ks.length) (hl : ks.length ≤ 1099511627776) (hP : Ptrs w kb off (ks.map Prod.fst)) :
    Calls Tryd.prog 78 #[.slice (some ⟨kb, off, none⟩) ks.length cap] w fun e w' => ∃ g cap', e = .returned (.slice (some ⟨g, 0, none⟩) ks.length cap') ∧ w.heap.size ≤ g ∧ ks.length ≤ cap' ∧ g < w'.heap.size ∧ Ptrs w' g 0 (ks.map Prod.fst) ∧ Below w.heap.size w w' := by
  have := clone_any (ks.map Prod.fst) kb off cap w (by intro e; have := congrArg List.length e; simp at this; subst this; simp at hne) (by simpa using hl) hP
  simpa only [List.length_map] using this

/-- A row of one pointer, put behind an own row. -/
theorem one_ptr (w : World) (g : Nat) (e : TypeId) : ∀ j u, ([pv g] : List Value)[j]? = some u → (w.alloc (.cells #[pv g] e)).cell? ((⟨w.heap.size, 0, none⟩ : Addr).add j) = some u := cell_one_new w _ e
/-- Blocks that aren't the row's own. -/
def Off (v : Value) (b : Nat) : Prop := v.ownBlock ≠ some b
theorem off_below {w : World} {B n size : Nat} {e : TypeId} {v : Value} {xs : List Value} (h : w.ownsRow B e size v n xs) {b : Nat} (hb : b < B) : Off v b := by
  rcases h.2 with ⟨rfl, _⟩ | ⟨g, cap, cur, rfl, h2, _⟩
  · intro e; cases e
  · intro e; simp [Value.ownBlock] at e; omega
theorem off_above {w : World} {B n size : Nat} {e : TypeId} {v : Value} {xs : List Value} (h : w.ownsRow B e size v n xs) {b : Nat} (hb : w.heap.size ≤ b) : Off v b := by
  rcases h.2 with ⟨rfl, _⟩ | ⟨g, cap, cur, rfl, _, h3, _⟩
  · intro e; cases e
  · have := (Array.getElem?_eq_some_iff.1 h3).1
    intro e; simp [Value.ownBlock] at e; omega
theorem NdA.put {E : Env} {w w3 : World} {v v' : Value} (hgrow : w.grownBy w3 v.ownBlock) (hat : v'.ownBlock = v.ownBlock ∨ v'.ownBlock = some w.heap.size) {d g : Nat} {ls : List ByteArray} (h : NdA E (Off v) w d g ls) : NdA E (Off v') w3 d g ls := by
  have h1 : NdA E (fun b => Off v b ∧ b < w.heap.size) w d g ls := h.mono fun b hb hl => ⟨hb, hl⟩
  have h2 : NdA E (fun b => Off v b ∧ b < w.heap.size) w3 d g ls := h1.keep fun b hb hl => hgrow.block b hl (fun e => hb.1 e.symm)
  refine h2.mono fun b hb _ => ?_
  rcases hat with e | e
  · intro q; exact hb.1 (e ▸ q)
  · intro q; rw [e] at q; cases q; exact absurd hb.2 (Nat.lt_irrefl _)

set_option maxHeartbeats 2000000 in
set_option maxRecDepth 100000 in
/-- parents. -/
theorem parents_any (E : Env) (d : Nat) (ks : List (Nat × List ByteArray)) (kb off cap : Nat) (w : World) (h2 : 2 ≤ ks.length) (hd : d ≤ 1099511627776) (hl : (ks.flatMap Prod.snd).length ≤ 1099511627776) (hkl : ks.length ≤ 1099511627776)
    (hc : ks.length ≤ cap) (hN : ∀ k ∈ ks, Nd E w d k.1 k.2) (hP : Ptrs w kb off (ks.map Prod.fst)) :
    Calls Tryd.prog 71 #[.slice (some ⟨kb, off, none⟩) ks.length cap] w fun e w' => ∃ (us : List (Nat × List ByteArray)) (g cap' : Nat), e = .returned (.slice (some ⟨g, 0, none⟩) us.length cap') ∧ us.length ≤ cap' ∧ us.length = ks.length / 2 ∧ us.flatMap Prod.snd = ks.flatMap Prod.snd ∧
      (∀ k ∈ us, Nd E w' (d + 1) k.1 k.2) ∧ Ptrs w' g 0 (us.map Prod.fst) ∧ Below w.heap.size w w' := by
  obtain ⟨i0, hi, hz0, hz1, hz2⟩ := info_parts Tryd.info_pnode
  have HN := Hid.mk4 hN
  have HL := Hid.mk4 hl
  have HKL := Hid.mk4 hkl
  have HP := Hid.mk4 hP
  have hkbl := ks_ptr h2 hP
  clear hN hl hP hkl
  go_enter Tryd.func71, Tryd.ntmps71
  go_wp2
  go_loopw [0, 3] (fun lv up wr => ∃ (ks2 us : List (Nat × List ByteArray)) (off2 cap2 : Nat), lv = .slice (some ⟨kb, off2, none⟩) ks2.length cap2 ∧ 2 ≤ ks2.length ∧ ks2.length ≤ cap2 ∧ Hid (ks2.length + 2 * us.length = ks.length) ∧ Hid (∀ k ∈ ks2, k ∈ ks) ∧ Hid (Ptrs wr kb off2 (ks2.map Prod.fst)) ∧
      Hid (us.flatMap Prod.snd ++ ks2.flatMap Prod.snd = ks.flatMap Prod.snd) ∧ Hid (wr.ownsRow w.heap.size 59 1 up us.length ((us.map Prod.fst).map pv)) ∧ Hid (∀ u ∈ us, NdA E (Off up) wr (d + 1) u.1 u.2) ∧ Below w.heap.size w wr) (fun lv _ _ => lenV lv)
  case atStart =>
    exact ⟨ks, [], off, cap, rfl, h2, hc, by show _ = _; simp, fun k hk => hk, HP.out, by show _ = _; simp, World.ownsRow_nil _ _ _ _, fun u hu => by simp at hu, Below.refl _ _⟩
  case round =>
    obtain ⟨ks2, us, off2, cap2, rfl, hk2, hc2, HLEN, HSUB, HPT, HFL, HOWN, HUS, hb⟩ := hrel
    have HBW : Hid (∀ k ∈ ks2, NdA E (Off u3) wr d k.1 k.2) := fun k hk => by
      have := (HN.out k (HSUB.out k hk))
      have h1 : NdA E (fun b => b < w.heap.size) w d k.1 k.2 := this.old fun b hb => hb
      exact (h1.keep fun b hb' _ => hb.block b hb').mono fun b hb' _ => off_below HOWN.out hb'
    have HKB : Hid (Off u3 kb) := off_below HOWN.out hkbl
    have HTOT : Hid ((us.flatMap Prod.snd).length + (ks2.flatMap Prod.snd).length ≤ 1099511627776) := by
      have := congrArg List.length HFL.out
      rw [List.length_append] at this
      have h2 := HL.out
      show _ ≤ _
      omega
    have hul : us.length ≤ 1099511627776 := by have := HLEN.out; have := HKL.out; omega
    by_cases h3 : 3 < ks2.length
    · obtain ⟨ka, kc, kr, hks⟩ : ∃ a b r, ks2 = a :: b :: r := by
        match ks2, h3 with
        | a :: b :: r, _ => exact ⟨a, b, r, rfl⟩
      have hkr : 2 ≤ kr.length := by rw [hks] at h3; simp at h3; omega
      have HKS := Hid.mk4 hks
      have hlk : ks2.length = kr.length + 2 := by rw [hks]; simp
      clear hks
      have HC2 : Hid (Ptrs wr kb off2 [ka.1, kc.1]) := fun i g hi => HPT.out i g (by
        rw [HKS.out]
        match i, hi with
        | 0, hi => simpa using hi
        | 1, hi => simpa using hi)
      have h2c : 2 ≤ cap2 := by omega
      go_wp2_with fail
      refine (clone_any [ka.1, kc.1] kb off2 cap2 wr (by simp) (by simp) HC2.out).mono ?_
      rintro e w1 ⟨g1, cap1, rfl, hg1, hcp1, hg1l, hp1, b1⟩
      have HP1 := Hid.mk4 hp1
      clear hp1
      go_wp2_with fail
      refine (parent_any E (Off u3) d [ka, kc] g1 0 cap1 w1 (by simp) (by simp) hd ?q1 hcp1 (fun b hb' => off_above HOWN.out (Nat.le_trans b1.size hb')) (off_above HOWN.out hg1) ?q2 HP1.out).mono ?_
      case q1 =>
        have := HTOT.out
        rw [HKS.out] at this
        simp only [List.flatMap_cons, List.length_append, List.flatMap_nil, List.length_nil] at this ⊢
        omega
      case q2 =>
        intro k hk
        refine (HBW.out k ?_).later b1
        rw [HKS.out]
        simp at hk ⊢
        rcases hk with rfl | rfl <;> simp
      rintro e w2 ⟨g2, rfl, hg2, hn2, b2⟩
      have b12 := b1.trans (b2.mono b1.size)
      have HN2 := Hid.mk4 hn2
      have HO2 := Hid.mk4 (own_later HOWN.out b12)
      have HU2 : Hid (∀ u ∈ us, NdA E (Off u3) w2 (d + 1) u.1 u.2) := fun u hu => (HUS.out u hu).later b12
      have HP2 := Hid.mk4 (HPT.out.later b12)
      have hb2 := hb.trans (b12.mono hb.size)
      clear hn2 HP1 HOWN HUS HPT b1 b2 b12 HBW HKB hb hg1 hg1l hcp1 HC2 hg2
      go_wp2_with (at_builtin; refine wpList_append_own_at _ rfl _ _ 96 rfl w.heap.size 59 i0 (.pointer none) 1 8 Tryd.underlying96 hi hz0 hz1 hz2 rfl (by decide) _ _ _ rfl (HO2.out.alloc _) ⟨w2.heap.size, 0, none⟩ 1 1 [pv g2] rfl rfl (one_ptr _ _ _) ?c2 ?c3 ?c4 ?c5 ?_)
      case c2 => intro u hu; simp at hu; subst hu; rfl
      case c3 => unfold maxLen; omega
      case c4 => omega
      case c5 => have := hb2.size; simp; omega
      intro v' w3 hown' hgrow _ hat0
      have hat : v'.ownBlock = u3.ownBlock ∨ v'.ownBlock = some (w2.alloc (Obj.cells #[pv g2] 59)).heap.size := by simpa using hat0
      clear hat0
      have b3 : Below w2.heap.size w2 (w2.alloc (Obj.cells #[pv g2] 59)) := (Below.refl _ _).alloc (Nat.le_refl _) _
      have HO3 : Hid (w3.ownsRow w.heap.size 59 1 v' (us ++ [(g2, ka.2 ++ kc.2)]).length (((us ++ [(g2, ka.2 ++ kc.2)]).map Prod.fst).map pv)) := by
        show World.ownsRow _ _ _ _ _ _ _
        simpa using hown'
      have HU3 : Hid (∀ u ∈ us ++ [(g2, ka.2 ++ kc.2)], NdA E (Off v') w3 (d + 1) u.1 u.2) := by
        intro u hu
        rcases List.mem_append.1 hu with hu | hu
        · exact ((HU2.out u hu).later b3).put hgrow hat
        · simp at hu
          subst hu
          have := (HN2.out.later b3).put hgrow hat
          simpa using this
      have hkb2 : kb < w2.heap.size := Nat.lt_of_lt_of_le hkbl hb2.size
      have HP3 : Hid (Ptrs w3 kb (off2 + 2) (kr.map Prod.fst)) := by
        have h1 : Ptrs w3 kb off2 (ks2.map Prod.fst) := (HP2.out.later b3).same (hgrow.block kb (by simp; omega) (fun e => off_below HO2.out hkbl e.symm))
        intro i g hi
        have := h1 (i + 2) g (by rw [HKS.out]; simpa using hi)
        rw [show off2 + 2 + i = off2 + (i + 2) from by omega]
        exact this
      have hb3 : Below w.heap.size w w3 := (hb2.trans (b3.mono hb2.size)).grown hgrow (by have := hb2.size; simp; omega) (fun k hk => by have := HO2.out.lt _ hk; omega)
      have HF3 : Hid ((us ++ [(g2, ka.2 ++ kc.2)]).flatMap Prod.snd ++ kr.flatMap Prod.snd = ks.flatMap Prod.snd) := by
        show _ = _
        rw [← HFL.out, HKS.out]
        simp
      have HL3 : Hid (kr.length + 2 * (us ++ [(g2, ka.2 ++ kc.2)]).length = ks.length) := by
        show _ = _
        rw [← HLEN.out, hlk]
        simp
        omega
      have HS3 : Hid (∀ k ∈ kr, k ∈ ks) := fun k hk => HSUB.out k (by rw [HKS.out]; simp [hk])
      clear hown' hgrow hat HU2 HO2 HP2 HN2 HFL HLEN HSUB HTOT
      generalize us ++ [(g2, ka.2 ++ kc.2)] = us3 at *
      go_wp2
      go_roundw
      case rel => exact ⟨kr, us3, off2 + 2, cap2 - 2, rfl, hkr, by omega, HL3, HS3, HP3, HF3, HO3, HU3, hb3⟩
      case measure => simp [lenV]; try omega
    · have h3' : decide (3 < ks2.length) = false := by simpa using h3
      have h3'' : ks2.length ≤ 3 := by omega
      clear h3
      go_wp2_with fail
      refine (clone_ks ks2 kb off2 cap2 wr (by omega) (by omega) HPT.out).mono ?_
      rintro e w1 ⟨g1, cap1, rfl, hg1, hcp1, hg1l, hp1, b1⟩
      have HP1 := Hid.mk4 hp1
      clear hp1
      go_wp2_with fail
      refine (parent_any E (Off u3) d ks2 g1 0 cap1 w1 hk2 h3'' hd (by have := HTOT.out; omega) hcp1 (fun b hb' => off_above HOWN.out (Nat.le_trans b1.size hb')) (off_above HOWN.out hg1) (fun k hk => (HBW.out k hk).later b1) HP1.out).mono ?_
      rintro e w2 ⟨g2, rfl, hg2, hn2, b2⟩
      have b12 := b1.trans (b2.mono b1.size)
      have HN2 := Hid.mk4 hn2
      have HO2 := Hid.mk4 (own_later HOWN.out b12)
      have HU2 : Hid (∀ u ∈ us, NdA E (Off u3) w2 (d + 1) u.1 u.2) := fun u hu => (HUS.out u hu).later b12
      have hb2 := hb.trans (b12.mono hb.size)
      clear hn2 HP1 HOWN HUS HPT b1 b2 b12 HBW HKB hb hg1 hg1l hcp1 hg2
      go_wp2_with (at_builtin; refine wpList_append_own_at _ rfl _ _ 96 rfl w.heap.size 59 i0 (.pointer none) 1 8 Tryd.underlying96 hi hz0 hz1 hz2 rfl (by decide) _ _ _ rfl (HO2.out.alloc _) ⟨w2.heap.size, 0, none⟩ 1 1 [pv g2] rfl rfl (one_ptr _ _ _) ?c2 ?c3 ?c4 ?c5 ?_)
      case c2 => intro u hu; simp at hu; subst hu; rfl
      case c3 => unfold maxLen; omega
      case c4 => omega
      case c5 => have := hb2.size; simp; omega
      intro v' w3 hown' hgrow _ hat0
      have hat : v'.ownBlock = u3.ownBlock ∨ v'.ownBlock = some (w2.alloc (Obj.cells #[pv g2] 59)).heap.size := by simpa using hat0
      clear hat0
      have b3 : Below w2.heap.size w2 (w2.alloc (Obj.cells #[pv g2] 59)) := (Below.refl _ _).alloc (Nat.le_refl _) _
      have HO3 : Hid (w3.ownsRow w.heap.size 59 1 v' ((us ++ [(g2, ks2.flatMap Prod.snd)]).map Prod.fst).length (((us ++ [(g2, ks2.flatMap Prod.snd)]).map Prod.fst).map pv)) := by
        show World.ownsRow _ _ _ _ _ _ _
        simpa using hown'
      have HU3 : Hid (∀ u ∈ us ++ [(g2, ks2.flatMap Prod.snd)], NdA E (Off v') w3 (d + 1) u.1 u.2) := by
        intro u hu
        rcases List.mem_append.1 hu with hu | hu
        · exact ((HU2.out u hu).later b3).put hgrow hat
        · simp at hu
          subst hu
          exact (HN2.out.later b3).put hgrow hat
      have hb3 : Below w.heap.size w w3 := (hb2.trans (b3.mono hb2.size)).grown hgrow (by have := hb2.size; simp; omega) (fun k hk => by have := HO2.out.lt _ hk; omega)
      have HF3 : Hid ((us ++ [(g2, ks2.flatMap Prod.snd)]).flatMap Prod.snd = ks.flatMap Prod.snd) := by
        show _ = _
        rw [← HFL.out]
        simp
      have HL3 : Hid ((us ++ [(g2, ks2.flatMap Prod.snd)]).length = ks.length / 2) := by
        have := HLEN.out
        show _ = _
        simp
        omega
      have HNE3 : Hid ((us ++ [(g2, ks2.flatMap Prod.snd)]).map Prod.fst ≠ []) := by show _ ≠ _; simp
      clear hown' hgrow hat HU2 HO2 HN2 HFL HLEN HSUB HTOT
      generalize us ++ [(g2, ks2.flatMap Prod.snd)] = us3 at *
      obtain ⟨g4, cap4, rfl, _, hcap4, _, hp4⟩ := ptrs_of_own HO3.out HNE3.out
      have HP4 := Hid.mk4 hp4
      clear hp4 HO3
      go_wp2
      go_ret
      exact ⟨us3, g4, cap4, by simp, by simpa using hcap4, HL3.out, HF3.out, fun k hk => (HU3.out k hk).nd, HP4.out, hb3⟩
end Go.Proofs.YtfgefdkkjfjjjaaDoor
namespace Go.Proofs.YtfgefdkkjfjjjaaDoor
open Go.RowKit Go.Sort
set_option linter.unusedSimpArgs false
set_option linter.unusedVariables false

/-- The tree that a pointer stands for. -/
def Tr (E : Env) (w : World) (v : Value) (ls : List ByteArray) : Prop := (v = .pointer none ∧ ls = []) ∨ ∃ d g, v = .pointer (some ⟨g, 0, none⟩) ∧ Nd E w d g ls
theorem Tr.later {E : Env} {w w' : World} {v : Value} {ls : List ByteArray} (h : Tr E w v ls) (hb : Below w.heap.size w w') : Tr E w' v ls := by
  rcases h with h | ⟨d, g, e, h⟩
  · exact Or.inl h
  · exact Or.inr ⟨d, g, e, h.later hb⟩

theorem Tr.ptr {E : Env} {w : World} {v : Value} {ls : List ByteArray} (h : Tr E w v ls) : ∃ u, v = .pointer u := by
  rcases h with ⟨e, _⟩ | ⟨_, _, e, _⟩
  · exact ⟨_, e⟩
  · exact ⟨_, e⟩

set_option maxHeartbeats 1000000 in
set_option maxRecDepth 100000 in
/-- only, of nodes. -/
theorem only_any (E : Env) (d : Nat) (ks : List (Nat × List ByteArray)) (kb off cap : Nat) (w : World) (h3 : ks.length ≤ 3) (hd : d ≤ 1099511627776) (hl : (ks.flatMap Prod.snd).length ≤ 1099511627776)
    (hN : ∀ k ∈ ks, Nd E w d k.1 k.2) (hP : Ptrs w kb off (ks.map Prod.fst)) :
    Calls Tryd.prog 72 #[.slice (some ⟨kb, off, none⟩) ks.length cap] w fun e w' => ∃ v, e = .returned v ∧ Tr E w' v (ks.flatMap Prod.snd) ∧ Below w.heap.size w w' := by
  have HN := Hid.mk4 hN
  have HP := Hid.mk4 hP
  have HL := Hid.mk4 hl
  clear hN hP hl
  match ks, h3 with
  | [], _ =>
    go_enter Tryd.func72, Tryd.ntmps72
    go_wp2
    go_ret
    exact ⟨_, rfl, Or.inl ⟨rfl, rfl⟩, Below.refl _ _⟩
  | [k], _ =>
    have p0 : w.cell? ⟨kb, off, none⟩ = some (.pointer (some ⟨k.1, 0, none⟩)) := HP.out 0 _ (by simp)
    go_enter Tryd.func72, Tryd.ntmps72
    go_wp2
    go_ret
    exact ⟨_, rfl, Or.inr ⟨d, k.1, rfl, by simpa using HN.out k (by simp)⟩, Below.refl _ _⟩
  | k1 :: k2 :: kr, h3 =>
    obtain ⟨ks, hks⟩ : ∃ ks, ks = k1 :: k2 :: kr := ⟨_, rfl⟩
    have h2 : 2 ≤ ks.length := by rw [hks]; simp
    have h3' : ks.length ≤ 3 := by rw [hks]; exact h3
    rw [← hks] at HN HP HL ⊢
    have e0 : (ks.length == 0) = false := by simp; intro e; rw [e] at h2; simp at h2
    have e1 : (ks.length == 1) = false := by simp; omega
    have i0 : ((ks.length : Int) == 0) = false := by simp; intro e; rw [e] at h2; simp at h2
    have i1 : ((ks.length : Int) == 1) = false := by simp; omega
    clear hks h3
    go_enter Tryd.func72, Tryd.ntmps72
    go_wp2_with fail
    refine (clone_ks ks kb off cap w (by omega) (by omega) HP.out).mono ?_
    rintro e w1 ⟨g1, cap1, rfl, hg1, hcp1, hg1l, hp1, b1⟩
    have HP1 := Hid.mk4 hp1
    clear hp1
    go_wp2_with fail
    refine (parent_any E (fun _ => True) d ks g1 0 cap1 w1 h2 h3' hd HL.out hcp1 (fun _ _ => trivial) trivial (fun k hk => (HN.out k hk).later b1) HP1.out).mono ?_
    rintro e w2 ⟨g2, rfl, hg2, hn2, b2⟩
    have HN2 := Hid.mk4 hn2
    clear hn2
    go_wp2
    go_ret
    exact ⟨_, rfl, Or.inr ⟨d + 1, g2, rfl, HN2.out⟩, b1.trans (b2.mono b1.size)⟩

set_option maxHeartbeats 1000000 in
set_option maxRecDepth 100000 in
theorem only_nil (E : Env) (w : World) : Calls Tryd.prog 72 #[.slice none 0 0] w fun e w' => ∃ v, e = .returned v ∧ Tr E w' v [] ∧ Below w.heap.size w w' := by
  go_enter Tryd.func72, Tryd.ntmps72
  go_wp2
  go_ret
  exact ⟨_, rfl, Or.inl ⟨rfl, rfl⟩, Below.refl _ _⟩
end Go.Proofs.YtfgefdkkjfjjjaaDoor
namespace Go.Proofs.YtfgefdkkjfjjjaaDoor
open Go.RowKit Go.Sort
set_option linter.unusedSimpArgs false
set_option linter.unusedVariables false

set_option maxHeartbeats 1000000 in
set_option maxRecDepth 100000 in
/-- way: which kid has the leaf, and where. -/
theorem way_any (E : Env) (A : Nat → Prop) (d g : Nat) (ks : List (Nat × List ByteArray)) (kb off cap at0 : Nat) (w : World) (hl : (ks.flatMap Prod.snd).length ≤ 1099511627776) (hkl : ks.length ≤ 3)
    (hN : ∀ k ∈ ks, NdA E A w d k.1 k.2) (h7 : w.cell? ⟨g, 7, none⟩ = some (.slice (some ⟨kb, off, none⟩) ks.length cap)) (hP : Ptrs w kb off (ks.map Prod.fst)) (hat : at0 < (ks.flatMap Prod.snd).length) :
    Calls Tryd.prog 64 #[.pointer (some ⟨g, 0, none⟩), .int .i64 (at0 : Nat)] w fun e w' => ∃ (i j : Nat) (k : Nat × List ByteArray), e = .returned (.tuple #[.int .i64 (i : Nat), .int .i64 (j : Nat)]) ∧ ks[i]? = some k ∧ at0 = ((ks.take i).flatMap Prod.snd).length + j ∧ j < k.2.length ∧ w' = w := by
  have HN := Hid.mk4 hN
  have HP := Hid.mk4 hP
  have HL := Hid.mk4 hl
  have HAT := Hid.mk4 hat
  clear hN hP hl hat
  go_enter Tryd.func64, Tryd.ntmps64
  go_wp2
  go_loopw [1, 6] (fun at_ ii wr => ∃ (i j : Nat), at_ = .int .i64 (j : Nat) ∧ ii = .int .i64 (i : Nat) ∧ Hid (at0 = ((ks.take i).flatMap Prod.snd).length + j) ∧ i < ks.length ∧ wr = w) (fun _ ii _ => ks.length - (intOf ii).toNat)
  case atStart =>
    refine ⟨0, at0, rfl, rfl, by show _ = _; simp, ?_, rfl⟩
    have := HAT.out
    rcases Nat.lt_or_ge 0 ks.length with h | h
    · exact h
    · have : ks = [] := List.eq_nil_of_length_eq_zero (by omega)
      subst this
      simp at *
  case round =>
    obtain ⟨i, j, rfl, rfl, HJ, hi, rfl⟩ := hrel
    obtain ⟨k, hk⟩ : ∃ k, ks[i]? = some k := ⟨ks[i], List.getElem?_eq_getElem hi⟩
    have pk : wr.cell? ⟨kb, off + i, none⟩ = some (.pointer (some ⟨k.1, 0, none⟩)) := HP.out i _ (by simp [hk])
    have nk := HN.out k (List.mem_of_getElem? hk)
    have s1 := nk.cells.2.1
    have HT := Hid.mk4 (take_flat hk)
    have hb := take_flat_le ks (i + 1)
    rw [HT.out, List.length_append] at hb
    have hjl : j ≤ 1099511627776 := by have := HJ.out; have := HAT.out; have := HL.out; omega
    have hkk : k.2.length ≤ 1099511627776 := by have := HL.out; omega
    have HK := Hid.mk4 hk
    clear nk hb hk
    by_cases hlt : j < k.2.length
    · have t1 : decide ((j : Int) ≥ (k.2.length : Int)) = false := by simp; omega
      have t2 : decide ((k.2.length : Int) ≤ (j : Int)) = false := by simp; omega
      have t3 : decide (k.2.length ≤ j) = false := by simp; omega
      go_wp2
      go_ret2
      exact ⟨i, j, k, rfl, HK.out, HJ.out, hlt, rfl⟩
    · have t1 : k.2.length ≤ j := by omega
      have HJ2 : Hid (at0 = ((ks.take (i + 1)).flatMap Prod.snd).length + (j - k.2.length)) := by
        show _ = _
        rw [HT.out, List.length_append, HJ.out]
        omega
      have hi2 : i + 1 < ks.length := by
        rcases Nat.lt_or_ge (i + 1) ks.length with h | h
        · exact h
        · have h1 := HJ2.out
          rw [List.take_of_length_le h] at h1
          have := HAT.out
          omega
      clear hlt
      go_wp2
      go_roundw
      case rel => exact ⟨i + 1, j - k.2.length, by go_num, by go_num, HJ2, hi2, trivial⟩
      case measure => simp [intOf]; omega
end Go.Proofs.YtfgefdkkjfjjjaaDoor
namespace Go.Proofs.YtfgefdkkjfjjjaaDoor
open Go.RowKit Go.Sort
set_option linter.unusedSimpArgs false
set_option linter.unusedVariables false

set_option maxHeartbeats 1000000 in
set_option maxRecDepth 100000 in
/-- slices.Grow(nil, n). -/
theorem grow_nil (n : Nat) (h0 : 0 < n) (hn : n ≤ 1099511627776) (w : World) :
    Calls Tryd.prog 81 #[.slice none 0 0, .int .i64 (n : Nat)] w fun e w' => ∃ v, e = .returned v ∧ w'.ownsRow w.heap.size 59 1 v 0 [] ∧ Below w.heap.size w w' := by
  obtain ⟨i0, hi, hz0, hz1, hz2⟩ := info_parts Tryd.info_pnode
  have hrz : ∀ ty, (Builtin.append_ #[96, 3] ty #[.slice none 0 0, .int .i64 (n : Nat)]).run Tryd.prog w = _ := fun ty => Lib.run_append_nil_zeros w 96 3 ty 59 i0 (.pointer none) .i64 .i64 Tryd.underlying96 Tryd.underlying3 hi hz0 n h0 (by omega) (by omega) (by rw [hz2]; omega)
  have hge := grownCap_ge w n 0 59
  have hcm : grownCap w n 0 59 ≤ maxLen := grownCap_le_maxLen w n 0 59 (by unfold maxLen; omega)
  generalize grownCap w n 0 59 = cap at *
  have hgt : (0 : Int) < (n : Int) := by omega
  go_enter Tryd.func81, Tryd.ntmps81
  go_wp2_with (at_builtin; refine Lib.wpList_append_run _ rfl _ _ _ _ rfl _ _ rfl rfl _ _ (hrz _) ?_)
  go_wp2
  go_ret
  refine ⟨_, rfl, ⟨rfl, Or.inr ⟨w.heap.size, cap, _, rfl, Nat.le_refl _, heap_alloc_new w.drew _, Nat.zero_le _, hcm, ?_, ?_⟩⟩, ?_⟩
  · simp [Builtin.zeroCells]
    omega
  · simp
  · exact ((Below.refl _ w).drew).alloc (Nat.le_refl _) _

theorem Ptrs.news {w : World} {kb off : Nat} {gs : List Nat} (h : Ptrs w kb off gs) : ∀ j u, (gs.map pv)[j]? = some u → w.cell? ((⟨kb, off, none⟩ : Addr).add j) = some u := by
  intro j u hu
  rw [List.getElem?_map] at hu
  cases hg : gs[j]? with
  | none => rw [hg] at hu; cases hu
  | some x =>
    rw [hg] at hu
    cases hu
    rw [addr_add]
    exact h j x hg
theorem pvs_one (gs : List Nat) : ∀ u ∈ gs.map pv, u.oneCell' = true := by
  intro u hu
  obtain ⟨x, _, rfl⟩ := List.mem_map.1 hu
  rfl

set_option maxHeartbeats 2000000 in
set_option maxRecDepth 100000 in
/-- slices.Concat of two rows. -/
theorem concat_any (gs1 gs2 : List Nat) (b b1 o1 c1 b2 o2 c2 : Nat) (w : World) (h1 : 0 < gs1.length) (h2 : 0 < gs2.length) (hl : gs1.length + gs2.length ≤ 1099511627776)
    (hc0 : w.cell? ⟨b, 0, none⟩ = some (.slice (some ⟨b1, o1, none⟩) gs1.length c1)) (hc1 : w.cell? ⟨b, 1, none⟩ = some (.slice (some ⟨b2, o2, none⟩) gs2.length c2)) (hP1 : Ptrs w b1 o1 gs1) (hP2 : Ptrs w b2 o2 gs2) :
    Calls Tryd.prog 80 #[.slice (some ⟨b, 0, none⟩) 2 2] w fun e w' => ∃ g cap', e = .returned (.slice (some ⟨g, 0, none⟩) (gs1 ++ gs2).length cap') ∧ (gs1 ++ gs2).length ≤ cap' ∧ Ptrs w' g 0 (gs1 ++ gs2) ∧ Below w.heap.size w w' := by
  obtain ⟨i0, hi, hz0, hz1, hz2⟩ := info_parts Tryd.info_pnode
  have HP1 := Hid.mk4 hP1
  have HP2 := Hid.mk4 hP2
  clear hP1 hP2
  go_enter Tryd.func80, Tryd.ntmps80
  go_wp2
  refine wp_loop_rounds 3 ?_
  rw [rounds_succ]
  go_wp2
  rw [rounds_succ]
  go_wp2
  rw [rounds_succ]
  go_wp2_with fail
  have hg := grow_nil (gs1.length + gs2.length) (by omega) hl w
  simp only [Int.natCast_add] at hg
  refine hg.mono ?_
  rintro e w1 ⟨v1, rfl, ho1, b1'⟩
  have HO1 := Hid.mk4 ho1
  have d0 := cell_after hc0 b1'
  have d1 := cell_after hc1 b1'
  have HQ1 := Hid.mk4 (HP1.out.later b1')
  have HC1 := Hid.mk4 hc1
  clear ho1 hg hc0 hc1
  go_wp2
  refine wp_loop_rounds 3 ?_
  rw [rounds_succ]
  go_wp2_with (at_builtin; refine wpList_append_own _ rfl _ _ 96 rfl w.heap.size 59 i0 (.pointer none) 1 8 Tryd.underlying96 hi hz0 hz1 hz2 rfl (by decide) _ _ _ rfl HO1.out ⟨b1, o1, none⟩ gs1.length c1 (gs1.map pv) rfl (by simp) (HQ1.out.news) ?c2 ?c3 ?c4 ?c5 ?_)
  case c2 => exact pvs_one _
  case c3 => unfold maxLen; omega
  case c4 => omega
  case c5 => exact b1'.size
  intro v2 w2 hown2 hgrow2 _
  have HO2 : Hid (w2.ownsRow w.heap.size 59 1 v2 gs1.length (gs1.map pv)) := by
    show World.ownsRow _ _ _ _ _ _ _
    simpa using hown2
  have bb2 : Below w.heap.size w w2 := b1'.grown hgrow2 b1'.size (fun k hk => by have := HO1.out.lt _ hk; omega)
  have f1 := cell_after HC1.out bb2
  have HQ2 := Hid.mk4 (HP2.out.later bb2)
  clear hown2 hgrow2 HO1 d0 d1 HQ1 b1'
  go_wp2
  rw [rounds_succ]
  go_wp2_with (at_builtin; refine wpList_append_own _ rfl _ _ 96 rfl w.heap.size 59 i0 (.pointer none) 1 8 Tryd.underlying96 hi hz0 hz1 hz2 rfl (by decide) _ _ _ rfl HO2.out ⟨b2, o2, none⟩ gs2.length c2 (gs2.map pv) rfl (by simp) (HQ2.out.news) ?e2 ?e3 ?e4 ?e5 ?_)
  case e2 => exact pvs_one _
  case e3 => unfold maxLen; omega
  case e4 => omega
  case e5 => exact bb2.size
  intro v3 w3 hown3 hgrow3 _
  have HO3 : Hid (w3.ownsRow w.heap.size 59 1 v3 (gs1 ++ gs2).length ((gs1 ++ gs2).map pv)) := by
    show World.ownsRow _ _ _ _ _ _ _
    simpa using hown3
  have bb3 : Below w.heap.size w w3 := bb2.grown hgrow3 bb2.size (fun k hk => by have := HO2.out.lt _ hk; omega)
  obtain ⟨g, cap, rfl, _, hcap, _, hp⟩ := ptrs_of_own HO3.out (by intro e; have := congrArg List.length e; simp at this; rw [this.1] at h1; simp at h1)
  have HP3 := Hid.mk4 hp
  clear hown3 hgrow3 HO2 HO3 hp f1 HQ2
  go_wp2
  rw [rounds_succ]
  go_wp2
  go_ret
  exact ⟨g, cap, rfl, hcap, HP3.out, bb3⟩
end Go.Proofs.YtfgefdkkjfjjjaaDoor
