/- leaves, Tree.All. -/
import Derived.Test.YtbpklbhaoemkkabDoorTreeA
namespace Go.Proofs.YtbpklbhaoemkkabDoor
open Go.RowKit Go.Sort
set_option linter.unusedSimpArgs false
set_option linter.unusedVariables false

theorem Tryd.info_chunk : (Tryd.prog.info? 65).map (fun i => (i.zero, i.size, i.bytes)) = some (some (.string ⟨#[]⟩), 1, 16) := by kernel_rfl
theorem own_mono {w : World} {B B' n size : Nat} {e : TypeId} {v : Value} {xs : List Value} (h : w.ownsRow B e size v n xs) (hb : B' ≤ B) : w.ownsRow B' e size v n xs := by
  refine ⟨h.1, h.2.imp id ?_⟩
  rintro ⟨g, cap, cur, h1, h2, h3⟩
  exact ⟨g, cap, cur, h1, Nat.le_trans hb h2, h3⟩
theorem cell_of_below {w w' : World} {B b o : Nat} {v : Value} (h : w.cell? ⟨b, o, none⟩ = some v) (hb : Below B w w') (hl : b < B) : w'.cell? ⟨b, o, none⟩ = some v := cell_same h (hb.block b hl)
theorem NdA.gA {E : Env} {A : Nat → Prop} {w : World} : ∀ {d g : Nat} {ls : List ByteArray}, NdA E A w d g ls → A g
  | 0, _, _, h => h.1
  | _ + 1, _, _, h => h.1
theorem NdA.kidsA {E : Env} {A : Nat → Prop} {w : World} {d g : Nat} {ls : List ByteArray} (h : NdA E A w (d + 1) g ls) : ∃ (ks : List (Nat × List ByteArray)) (kb off cap : Nat), A kb ∧ 2 ≤ ks.length ∧ ks.length ≤ 3 ∧ (∀ k ∈ ks, NdA E A w d k.1 k.2) ∧ ls = ks.flatMap Prod.snd ∧
      w.cell? ⟨g, 7, none⟩ = some (.slice (some ⟨kb, off, none⟩) ks.length cap) ∧ Ptrs w kb off (ks.map Prod.fst) := by
  obtain ⟨_, ks, kb, off, cap, hkb, hc, h2, h3, hk, e, ⟨_, _, _, _, _, _, hr, _⟩, hp⟩ := h
  exact ⟨ks, kb, off, cap, hkb, h2, h3, hk, e, hr.cell 7, hp⟩

set_option maxHeartbeats 2000000 in
set_option maxRecDepth 100000 in
/-- leaves, of a node. -/
theorem leaves_nd (E : Env) (B : Nat) : ∀ (d g : Nat) (ls : List ByteArray) (v : Value) (n : Nat) (xs : List Value) (w : World), NdA E (· < B) w d g ls → w.ownsRow B 65 1 v n xs → B ≤ w.heap.size → n + ls.length ≤ 1099511627776 →
    Calls Tryd.prog 48 #[.pointer (some ⟨g, 0, none⟩), v] w fun e w' => ∃ v', e = .returned v' ∧ w'.ownsRow B 65 1 v' (n + ls.length) (xs ++ ls.map Value.string) ∧ Below B w w' := by
  obtain ⟨i0, hi, hz0, hz1, hz2⟩ := info_parts Tryd.info_chunk
  intro d
  induction d with
  | zero =>
    intro g ls v n xs w hN hO hB hl
    obtain ⟨s, hs, c6, c7⟩ := NdA.leaf hN
    have HO := Hid.mk4 hO
    subst hs
    simp only [List.length_cons, List.length_nil, Nat.zero_add] at hl ⊢
    clear hN hO
    go_enter Tryd.func48, Tryd.ntmps48
    go_wp2_with (at_builtin; refine wpList_append_own _ rfl _ _ 75 rfl B 65 i0 (.string ⟨#[]⟩) 1 16 Tryd.underlying75 hi hz0 hz1 hz2 rfl (by decide) _ _ _ rfl (HO.out.alloc _) ⟨w.heap.size, 0, none⟩ 1 1 [.string s] rfl rfl (cell_one_new _ _ _) ?c2 ?c3 ?c4 ?c5 ?_)
    case c2 => intro u hu; simp at hu; subst hu; rfl
    case c3 => unfold maxLen; omega
    case c4 => omega
    case c5 => simp; omega
    intro v' w2 hown' hgrow _
    have HO2 := Hid.mk4 hown'
    have b2 : Below B w w2 := ((Below.refl B w).alloc hB _).grown hgrow (by simp; omega) (fun k hk => by have := HO.out.lt _ hk; omega)
    clear hown' hgrow HO
    go_wp2
    go_ret
    exact ⟨_, rfl, by simpa using HO2.out, b2⟩
  | succ d ih =>
    intro g ls v n xs w hN hO hB hl
    obtain ⟨ks, kb, off, cap, hkb, h2, h3, hk, hfl, c7, hp⟩ := NdA.kidsA hN
    have hgB := NdA.gA hN
    have HO := Hid.mk4 hO
    have HK := Hid.mk4 hk
    have HP := Hid.mk4 hp
    subst hfl
    have HL := Hid.mk4 hl
    have HIH := Hid.mk4 ih
    have e0 : (ks.length == 0) = false := by simp; intro e; rw [e] at h2; simp at h2
    have i0' : ((ks.length : Int) == 0) = false := by simp; intro e; rw [e] at h2; simp at h2
    clear hN hO hk hp hl ih
    go_enter Tryd.func48, Tryd.ntmps48
    go_wp2
    go_loopw [1, 28] (fun l ii wr => ∃ (i : Nat), ii = .int .i64 (i : Nat) ∧ i ≤ ks.length ∧ Hid (wr.ownsRow B 65 1 l (n + ((ks.take i).flatMap Prod.snd).length) (xs ++ ((ks.take i).flatMap Prod.snd).map Value.string)) ∧ Below B w wr ∧ B ≤ wr.heap.size) (fun _ ii _ => ks.length - (intOf ii).toNat)
    case atStart => exact ⟨0, rfl, by omega, by show World.ownsRow _ _ _ _ _ _ _; simpa using HO.out, Below.refl _ _, hB⟩
    case round =>
      obtain ⟨i, rfl, hi', HOi, hb, hBr⟩ := hrel
      clear c7
      by_cases hlt : i < ks.length
      · obtain ⟨k, hk⟩ : ∃ k, ks[i]? = some k := ⟨ks[i], List.getElem?_eq_getElem hlt⟩
        have pk : wr.cell? ⟨kb, off + i, none⟩ = some (.pointer (some ⟨k.1, 0, none⟩)) := cell_of_below (HP.out i _ (by simp [hk])) hb hkb
        have HT := Hid.mk4 (take_flat hk)
        have hbd := take_flat_le ks (i + 1)
        rw [HT.out, List.length_append] at hbd
        have HC := Hid.mk4 (HIH.out k.1 k.2 u1 _ _ wr ((HK.out k (List.mem_of_getElem? hk)).keep fun b hb' _ => hb.block b hb') HOi.out hBr (by have := HL.out; omega))
        clear hk hbd
        go_wp2_with fail
        refine HC.out.mono ?_
        rintro e w2 ⟨v2, rfl, ho2, b2⟩
        have HO2 : Hid (w2.ownsRow B 65 1 v2 (n + ((ks.take (i + 1)).flatMap Prod.snd).length) (xs ++ ((ks.take (i + 1)).flatMap Prod.snd).map Value.string)) := by
          show World.ownsRow _ _ _ _ _ _ _
          rw [HT.out]
          simpa [Nat.add_assoc, List.append_assoc] using ho2
        have hB2 : B ≤ w2.heap.size := Nat.le_trans hBr b2.size
        have bb2 : Below B w w2 := hb.trans b2
        clear ho2 HC HOi b2 hb
        go_wp2
        go_roundw
        case rel => exact ⟨i + 1, by go_num, by omega, HO2, bb2, hB2⟩
        case measure => simp [intOf]; omega
      · obtain rfl : i = ks.length := by omega
        have HO' := HOi.out
        rw [List.take_length] at HO'
        have HO2 := Hid.mk4 HO'
        clear HO' HOi
        go_wp2
        go_ret
        exact ⟨_, rfl, HO2.out, hb⟩

set_option maxHeartbeats 1000000 in
set_option maxRecDepth 100000 in
theorem leaves_nil (w : World) (v : Value) : Calls Tryd.prog 48 #[.pointer none, v] w fun e w' => e = .returned v ∧ w' = w := by
  go_enter Tryd.func48, Tryd.ntmps48
  go_wp2
  go_ret
  exact ⟨rfl, rfl⟩

set_option maxHeartbeats 2000000 in
set_option maxRecDepth 100000 in
/-- Tree.All. -/
theorem tall_any (E : Env) (v : Value) (ls : List ByteArray) (w : World) (h : Tr E w v ls) (hl : ls.length ≤ 1099511627776) :
    Calls Tryd.prog 35 #[.agg #[v]] w fun e w' => ∃ v', e = .returned v' ∧ w'.ownsRow w.heap.size 65 1 v' ls.length (ls.map Value.string) ∧ Below w.heap.size w w' := by
  obtain ⟨i0, hi, hz0, hz1, hz2⟩ := info_parts Tryd.info_chunk
  have b0 : Below w.heap.size w (w.alloc (Obj.cells #[v] 38)) := (Below.refl _ _).alloc (Nat.le_refl _) _
  have HT := Hid.mk4 h
  obtain ⟨u, rfl⟩ := h.ptr
  clear h
  go_enter Tryd.func35, Tryd.ntmps35
  go_wp2
  have hbox : (w.alloc (Obj.cells #[.pointer u] 38)).cell? ⟨w.heap.size, 0, none⟩ = some (.pointer u) := (Rt.new 38 w _).cell 0
  generalize w.alloc (Obj.cells #[.pointer u] 38) = w1 at *
  have kb := cell_regrown hbox
  refine wp_region_mix [([0, 1, 2], [3]), ([], [4]), ([], [5]), ([6], [])] (by kernel_rfl) (by kernel_rfl) ?_
  rintro w2 ⟨d2, rfl⟩
  refine wpPlan_cons ?_
  simp only [pickAll, pickAt, List.nil_append, List.cons_append, List.append_nil]
  repeat (go_big_quiet_step (fail))
  refine wpQuiet_nil ?_
  clear kb hbox
  go_wp2_with fail
  refine (tlen_any E _ ls (redrawn w1 d2) ((HT.out.later b0).later (below_redrawn w1 d2))).mono ?_
  rintro e w3 ⟨rfl, b3⟩
  have b13 : Below w1.heap.size w1 w3 := (below_redrawn w1 d2).trans b3
  have g3 := b0.trans (b13.mono b0.size)
  clear b3
  go_wp2
  refine mixNext_below b13 ?_
  refine wpPlan_cons ?_
  simp only [pickAll, pickAt, List.nil_append, List.cons_append, List.append_nil]
  refine wpQuiet_nil ?_
  go_wp2_with (at_make; refine wpList_make_own _ rfl _ _ 75 rfl w1.heap.size 65 i0 (.string ⟨#[]⟩) 1 Tryd.underlying75 hi hz0 hz1 .i64 .i64 _ ls.length rfl rfl rfl ?m1 ?m2 ?m3 ?_)
  case m1 => rw [hz2]; omega
  case m2 => unfold maxLen; omega
  case m3 => exact b13.size
  intro w4 ho4 hg4
  have HO4 := Hid.mk4 ho4
  have b14 : Below w1.heap.size w1 w4 := b13.grown hg4 b13.size (fun k hk => by cases hk)
  have g4 : Below w.heap.size w w4 := b0.trans (b14.mono b0.size)
  clear ho4 hg4 b13 g3
  go_wp2
  refine mixNext_below b14 ?_
  refine wpPlan_cons ?_
  simp only [pickAll, pickAt, List.nil_append, List.cons_append, List.append_nil]
  refine wpQuiet_nil ?_
  rcases HT.out with ⟨e, rfl⟩ | ⟨d, g, e, hN⟩
  · cases e
    go_wp2_with fail
    refine (leaves_nil w4 _).mono ?_
    rintro e w5 ⟨rfl, rfl⟩
    go_wp2
    refine mixNext_below b14 ?_
    refine wpPlan_cons ?_
    simp only [pickAll, pickAt, List.nil_append, List.cons_append, List.append_nil]
    repeat (go_big_quiet_step (fail))
    refine wpQuiet_nil ?_
    refine mixNext_below b14 (wpPlan_nil ?_)
    go_wp2
    go_ret
    exact ⟨_, rfl, by simpa using own_mono HO4.out b0.size, g4⟩
  · cases e
    have hN1 : NdA E (· < w1.heap.size) w1 d g ls := (hN.later b0).old fun b hb => hb
    have HNn := Hid.mk4 (hN1.keep fun b hb _ => b14.block b hb)
    clear hN hN1
    go_wp2_with fail
    refine (leaves_nd E w1.heap.size d g ls _ 0 [] w4 HNn.out HO4.out b14.size (by omega)).mono ?_
    rintro e w5 ⟨v5, rfl, ho5, b5⟩
    have HO5 := Hid.mk4 ho5
    have b15 : Below w1.heap.size w1 w5 := b14.trans b5
    have g5 : Below w.heap.size w w5 := b0.trans (b15.mono b0.size)
    clear ho5 b5
    go_wp2
    refine mixNext_below b15 ?_
    refine wpPlan_cons ?_
    simp only [pickAll, pickAt, List.nil_append, List.cons_append, List.append_nil]
    repeat (go_big_quiet_step (fail))
    refine wpQuiet_nil ?_
    refine mixNext_below b15 (wpPlan_nil ?_)
    go_wp2
    go_ret
    exact ⟨_, rfl, by simpa using own_mono HO5.out b0.size, g5⟩
end Go.Proofs.YtbpklbhaoemkkabDoor
