/- compose's changes, backwards, isValid. -/
import Derived.Test.YtelpinngimohoaaDoorComFn
import Derived.Test.YtelpinngimohoaaDoorTurnsP
import Derived.Test.YtelpinngimohoaaDoorDelHelp
import Derived.Lib.QuietBelow
namespace Go.Proofs.YtelpinngimohoaaDoor
open Go.RowKit Go.Sort
set_option linter.unusedSimpArgs false
set_option linter.unusedVariables false

/-- Rows of other types lie apart. -/
theorem ownB_ownC {w : World} {B B' : Nat} {u v : Value} {T : List UInt8} {es : List El} (k : OwnB w B' u T) (h : OwnC w B v es) : u.ownBlock = none ∨ u.ownBlock ≠ v.ownBlock := by
  rcases k.2 with ⟨k1, _⟩ | ⟨g, cap, cur, k1, _, k3, _⟩
  · left; rw [k1]; rfl
  · right
    rcases h.2 with ⟨h1, _⟩ | ⟨g', cap', cur', h1, _, h3, _⟩
    · rw [k1, h1]; intro e; cases e
    · rw [k1, h1]
      intro e
      obtain rfl : g = g' := Option.some.inj e
      rw [k3] at h3
      have := congrArg (fun o => match o with | some (Obj.cells _ t _) => t | _ => 0) h3
      simp at this
theorem ownC_ownB {w : World} {B B' : Nat} {u v : Value} {T : List UInt8} {es : List El} (k : OwnB w B' u T) (h : OwnC w B v es) : v.ownBlock = none ∨ v.ownBlock ≠ u.ownBlock := by
  rcases ownB_ownC k h with e | e
  · rcases h.2 with ⟨h1, _⟩ | ⟨g', cap', cur', h1, _⟩
    · left; rw [h1]; rfl
    · right; rw [e, h1]; intro e; cases e
  · exact Or.inr fun e' => e e'.symm
theorem re_ownC {w : World} {B g : Nat} {x y z v : Value} {es : List El} (r : Re w g x y z) (h : OwnC w B v es) : some g ≠ v.ownBlock := fun e => by
  rcases h.2 with ⟨h1, _⟩ | ⟨g', cap, cur, h1, _, h3, _⟩
  · rw [h1] at e; cases e
  · rw [h1] at e
    obtain rfl : g = g' := Option.some.inj e
    unfold Re at r
    rw [r] at h3
    have := congrArg (fun o => match o with | some (Obj.cells _ t _) => t | _ => 0) h3
    simp at this
theorem re_ownB {w : World} {B g : Nat} {x y z v : Value} {T : List UInt8} (r : Re w g x y z) (h : OwnB w B v T) : some g ≠ v.ownBlock := fun e => by
  rcases h.2 with ⟨h1, _⟩ | ⟨g', cap, cur, h1, _, h3, _⟩
  · rw [h1] at e; cases e
  · rw [h1] at e
    obtain rfl : g = g' := Option.some.inj e
    unfold Re at r
    rw [r] at h3
    have := congrArg (fun o => match o with | some (Obj.cells _ t _) => t | _ => 0) h3
    simp at this
theorem Re.grownG {w w' : World} {row : Option Nat} {g : Nat} {x y z : Value} (h : Re w g x y z) (hg : w.grownBy w' row) (hne : some g ≠ row) : Re w' g x y z := (hg.block g h.lt hne).trans h
theorem OwnB.convE {w : World} {B : Nat} {v : Value} {T : List UInt8} (h : OwnB w B v T) : (convert 62 9 v).run Tryd.prog w = .ok (.string (cacc T)) w := by
  rcases h.2 with ⟨h1, h2⟩ | ⟨g, cap, cur, h1, _, h3, h4, _⟩
  · obtain rfl := List.eq_nil_of_length_eq_zero h2
    rw [h1]; kernel_rfl
  · have hc := World.ownsRow.cells h (g := g) (by rw [h1]; rfl)
    rw [h1]
    exact run_convert_bytes_back (P := Tryd.prog) w 62 9 5 ⟨g, 0, none⟩ cap T Tryd.underlying62 Tryd.underlying5 Tryd.underlying9 (fun j hj => hc j _ (by simp [Lib.byteCells, hj]))
theorem resetE {a : Option Addr} {cap : Nat} {W : World} {B : Nat} {txt : List UInt8} (h : OwnB W B (.slice a txt.length cap) txt) : OwnB W B (.slice a 0 cap) [] := (reset_value h).1
theorem ownC_push {w' : World} {B : Nat} {v' : Value} {acc : List El} {f t : Int} {T : List UInt8} (h : w'.ownsRow B 38 3 v' (acc.length + 1) (c3 acc ++ [.int .i64 f, .int .i64 t, .string (cacc T)])) : OwnC w' B v' (acc ++ [(f, t, T)]) := by
  unfold OwnC
  rw [List.length_append, c3_append, c3_one]
  exact h
/-- What changes' loop hands on. -/
structure Cnw (w wr : World) (lv tv : Value) (acc : List El) (txt : List UInt8) : Prop where
  lo : OwnC wr w.heap.size lv acc
  tw : OwnB wr w.heap.size tv txt
  be : Below w.heap.size w wr
set_option maxHeartbeats 8000000 in
set_option maxRecDepth 100000 in
theorem cchanges_any {w : World} {v : Value} {base : Int} {cs : List Ce} {ps : List El} (ht : Tg base cs ps) (h : ElAt w v ps) :
    Calls Tryd.prog 34 #[.int .i64 base, v] w fun e w' => ∃ v' l, e = .returned v' ∧ ElAt w' v' l ∧ Cg base cs l ∧ Below w.heap.size w w' := by
  obtain ⟨i0, hi0, hz0, hz1, hz2⟩ := info_parts Tryd.info_ch
  have HI := Hid.mk7 hi0
  obtain ⟨a, cap, rfl, hcap, _, hcells⟩ := h
  have HC := Hid.mk7 hcells
  have HG := Hid.mk7 ht
  have hpl := ht.len
  have hb0 := ht.b0
  have HST := Hid.mk7 (cq_start ht)
  clear hcells hi0 ht
  go_enter Tryd.func34, Tryd.ntmps34
  go_wp2
  go_loopw [5, 6, 7, 12] (fun lv tv nv iv wr => ∃ (k : Nat) (acc : List El) (txt : List UInt8) (en : Int), k ≤ ps.length ∧ iv = .int .i64 (k : Nat) ∧ nv = .int .i64 en ∧ Hid (Cq base cs ps acc k en txt) ∧ Hid (Cnw w wr lv tv acc txt)) (fun _ _ _ iv _ => ps.length - (intOf iv).toNat)
  case atStart => exact ⟨0, [], [], 0, Nat.zero_le _, rfl, rfl, HST, ⟨OwnC.nil _ _, OwnB.nil _ _, Below.refl _ _⟩⟩
  case round =>
    clear HST
    obtain ⟨k, acc, txt, en, hk, rfl, rfl, HP, HE⟩ := hrel
    have hb := HE.out.be
    have hsz := hb.size
    have htl := HP.out.txt HG.out
    have hal := HP.out.len
    have he0 := HP.out.e0
    obtain ⟨ta, tcap, rfl, htc, _⟩ := HE.out.tw.shape
    have ht1 : txt.length ≤ 20000 := by omega
    by_cases hlt : k < ps.length
    · obtain ⟨⟨f, t, T⟩, hr⟩ : ∃ r, ps[k]? = some r := ⟨ps[k], List.getElem?_eq_getElem hlt⟩
      obtain ⟨g, off, rfl, q0, q1, q2⟩ := HC.out k _ hr
      have c0 := cell_later7 hb (Nat.le_refl _) q0
      have c1 := cell_later7 hb (Nat.le_refl _) q1
      have c2 := cell_later7 hb (Nat.le_refl _) q2
      simp only at c0 c1 c2
      have hgd := HG.out.gd (f, t, T) (List.mem_of_getElem? hr)
      have hbx := HG.out.bx (f, t, T) (List.mem_of_getElem? hr)
      obtain ⟨x1, x2, x3, x4⟩ := hbx
      simp only at x1 x2 x3 x4
      have RC := Hid.mk7 (Re.new wr (.int .i64 f) (.int .i64 t) (.string (cacc T)))
      have LO := Hid.mk7 (HE.out.lo.alloc (.cells #[.int .i64 f, .int .i64 t, .string (cacc T)] 51))
      have TO := Hid.mk7 (HE.out.tw.alloc (.cells #[.int .i64 f, .int .i64 t, .string (cacc T)] 51))
      have BX := Hid.mk7 (hb.alloc hsz (.cells #[.int .i64 f, .int .i64 t, .string (cacc T)] 51))
      have hcs : (cacc T).size = T.length := cacc_size T
      clear q0 q1 q2 HE
      by_cases hT0 : T = []
      · subst hT0
        have HQ := Hid.mk7 (cq_copy HP.out hr hgd)
        have HIT := Hid.mk7 (fun W => cisText_v f t (T := []) (x := false) (by simp) W)
        clear hgd hr hcs HP
        generalize hs0 : cacc ([] : List UInt8) = s0 at *
        clear hs0
        go_upto_region 7 with fail
        generalize hz : wr.heap.size = z at *
        generalize wr.alloc (.cells #[.int .i64 f, .int .i64 t, .string s0] 51) = W at *
        have d0 := RC.out.c0
        have d1 := RC.out.c1
        have d2 := RC.out.c2
        clear c0 c1 c2
        go_wp2_with fail
        refine (HIT.out W).mono ?_
        rintro e w2 ⟨rfl, b2⟩
        have R2 := Hid.mk7 (RC.out.later b2)
        have L2 := Hid.mk7 (LO.out.later b2)
        have T2 := Hid.mk7 (TO.out.later b2)
        have B2 := Hid.mk7 (BX.out.trans (b2.mono BX.out.size))
        have hw2 := B2.out.size
        clear d0 d1 d2 RC LO TO BX b2 HIT
        obtain ⟨s, HS⟩ : ∃ s, Hid (s = cacc txt) := ⟨_, rfl⟩
        have hcv := T2.out.convE
        rw [← HS.out] at hcv
        have d0 := R2.out.c0
        have d1 := R2.out.c1
        go_wp2_with (at_builtin; refine wpList_append_own _ rfl _ _ 36 rfl w.heap.size 38 i0 (.agg #[.int .i64 0, .int .i64 0, .string ⟨#[]⟩]) 3 32 Tryd.underlying36 HI.out hz0 hz1 hz2 rfl (by decide) _ _ _ rfl (L2.out.alloc _) ⟨_, 0, none⟩ 1 1 [.int .i64 en, .int .i64 f, .string s] rfl rfl (three_newE _ _ _ _ _) (fun u hu => by simp at hu; rcases hu with rfl | rfl | rfl <;> rfl) (by unfold maxLen; omega) (by omega) (by simp; omega) ?_)
        intro v' w3 hown hgrow _
        rw [HS.out] at hown
        have L3 := Hid.mk7 (ownC_push hown)
        have T3 := Hid.mk7 ((T2.out.alloc _).kept hgrow (ownB_ownC T2.out L2.out))
        have R3 := Hid.mk7 ((R2.out.alloc _).grownG hgrow (re_ownC R2.out L2.out))
        have B3 := Hid.mk7 ((B2.out.alloc B2.out.size _).grown hgrow (by simp; omega) (fun j hj => (L2.out.lt hj).1))
        clear hown hgrow d0 d1 hcv L2 T2 R2 B2
        have d1 := R3.out.c1
        go_wp2
        go_quiet (fail)
        have L4 := Hid.mk7 (L3.out.later (below_drewN (Below.refl _ _) nq))
        have T4 := Hid.mk7 (T3.out.later (below_drewN (Below.refl _ _) nq))
        have B4 := Hid.mk7 (below_drewN B3.out nq)
        clear d1 L3 T3 R3 B3
        generalize w3.drewN nq = w4 at *
        go_wp2
        go_roundw
        case rel => exact ⟨k + 1, _, [], t, by omega, by go_num, rfl, HQ.out.1, ⟨L4.out, resetE T4.out, B4.out⟩⟩
        case measure => simp [intOf]; omega
      · have HQ := Hid.mk7 (cq_text HP.out hr hgd hT0)
        have HIT := Hid.mk7 (fun W => cisText_v f t (T := T) (x := true) (by simpa using hT0) W)
        have htt : txt.length + T.length ≤ 20000 := by
          have := HQ.out.txt HG.out
          rw [List.length_append] at this
          omega
        have HCT : Hid ((cacc T).data.toList = T) := rfl
        clear hgd hr HP hT0
        generalize hs0 : cacc T = s0 at *
        clear hs0
        go_upto_region 7 with fail
        generalize hz : wr.heap.size = z at *
        generalize wr.alloc (.cells #[.int .i64 f, .int .i64 t, .string s0] 51) = W at *
        have d0 := RC.out.c0
        have d1 := RC.out.c1
        have d2 := RC.out.c2
        clear c0 c1 c2
        go_wp2_with fail
        refine (HIT.out W).mono ?_
        rintro e w2 ⟨rfl, b2⟩
        have R2 := Hid.mk7 (RC.out.later b2)
        have L2 := Hid.mk7 (LO.out.later b2)
        have T2 := Hid.mk7 (TO.out.later b2)
        have B2 := Hid.mk7 (BX.out.trans (b2.mono BX.out.size))
        have hw2 := B2.out.size
        clear d0 d1 d2 RC LO TO BX b2 HIT
        have d2 := R2.out.c2
        go_wp2_with (at_builtin; refine wpList_append_text8 rfl _ _ rfl w.heap.size _ txt rfl T2.out s0 rfl (by omega) (by omega) ?_)
        intro v' w3 hown hgrow _
        rw [HCT.out] at hown
        have T3 := Hid.mk7 hown
        have L3 := Hid.mk7 (L2.out.kept hgrow (ownC_ownB T2.out L2.out))
        have B3 := Hid.mk7 (B2.out.grown hgrow (by omega) (fun j hj => (T2.out.lt hj).1))
        clear hown hgrow d2 L2 T2 R2 B2
        go_wp2
        go_roundw
        case rel => exact ⟨k + 1, _, _, en, by omega, by go_num, rfl, HQ, ⟨L3.out, T3.out, B3.out⟩⟩
        case measure => simp [intOf]; omega
    · obtain rfl : k = ps.length := by omega
      have HQ := Hid.mk7 (cq_end HP.out HG.out rfl)
      have L2 := Hid.mk7 HE.out.lo
      have T2 := Hid.mk7 HE.out.tw
      have B2 := Hid.mk7 hb
      clear HP HE hb
      obtain ⟨s, HS⟩ : ∃ s, Hid (s = cacc txt) := ⟨_, rfl⟩
      have hcv := T2.out.convE
      rw [← HS.out] at hcv
      go_wp2_with (at_builtin; refine wpList_append_own _ rfl _ _ 36 rfl w.heap.size 38 i0 (.agg #[.int .i64 0, .int .i64 0, .string ⟨#[]⟩]) 3 32 Tryd.underlying36 HI.out hz0 hz1 hz2 rfl (by decide) _ _ _ rfl (L2.out.alloc _) ⟨_, 0, none⟩ 1 1 [.int .i64 en, .int .i64 base, .string s] rfl rfl (three_newE _ _ _ _ _) (fun u hu => by simp at hu; rcases hu with rfl | rfl | rfl <;> rfl) (by unfold maxLen; omega) (by omega) (by simp; omega) ?_)
      intro v' w3 hown hgrow _
      rw [HS.out] at hown
      have L3 := Hid.mk7 (ownC_push hown)
      have B3 := Hid.mk7 ((B2.out.alloc B2.out.size _).grown hgrow (by simp; omega) (fun j hj => (L2.out.lt hj).1))
      clear hown hgrow hcv L2 T2 B2
      go_wp2
      go_ret
      exact ⟨_, _, rfl, L3.out.row, HQ.out, B3.out⟩
/-- What backwards' loop hands on. -/
structure Bnw (w wr : World) (lv : Value) (acc : List El) : Prop where
  lo : OwnC wr w.heap.size lv acc
  be : Below w.heap.size w wr
theorem ext_take (s : ByteArray) (a b : Nat) : cacc ((s.data.toList.drop a).take (b - a)) = s.extract a b := by
  rw [← bytes_ext, cacc_bytes]
theorem ext_rest (s : ByteArray) (a : Nat) : cacc (s.data.toList.drop a) = s.extract a s.size := by
  have := ext_take s a s.size
  rw [← this, List.take_of_length_le]
  rw [List.length_drop]
  exact Nat.le_refl _
end Go.Proofs.YtelpinngimohoaaDoor
