/- The reference's Kept. -/
import Derived.Test.YtelpinngimohoaaDoorOffRefB
import Derived.Test.YtelpinngimohoaaDoorDelApply
namespace Go.Proofs.YtelpinngimohoaaDoor
open Go.RowKit Go.Sort
set_option linter.unusedSimpArgs false
set_option linter.unusedVariables false

theorem Tryd.info_bool14 : (Tryd.prog.info? 4).map (fun i => (i.zero, i.size, i.bytes)) = some (some (.bool false), 1, 1) := by kernel_rfl
/-- A row of one's own, of yes and no. -/
def OwnBl (w : World) (B : Nat) (v : Value) (X : List Bool) : Prop := w.ownsRow B 4 1 v X.length (X.map Value.bool)
theorem OwnBl.mono14 {w : World} {B B' : Nat} {v : Value} {X : List Bool} (h : OwnBl w B v X) (hB : B' ≤ B) : OwnBl w B' v X := by
  refine ⟨h.1, h.2.imp id ?_⟩
  rintro ⟨g, cap, cur, h1, h2, h3⟩
  exact ⟨g, cap, cur, h1, by omega, h3⟩
theorem made_no14 (n : Nat) : (madeCells #[.bool false] n).toList = (List.replicate n false).map Value.bool := by
  refine List.ext_getElem (by simp [madeCells]) fun i h1 h2 => ?_
  simp [madeCells, Nat.mod_one]
theorem own_made14 {w : World} {B g n cap : Nat} (h : w.ownsRow B 4 1 (.slice (some ⟨g, 0, none⟩) n cap) n (madeCells #[.bool false] n).toList) : OwnBl w B (.slice (some ⟨g, 0, none⟩) n cap) (List.replicate n false) := by
  rw [made_no14] at h
  unfold OwnBl
  rw [List.length_replicate]
  exact h
theorem ownBl_stored {w : World} {B g n cap : Nat} {X : List Bool} (h : OwnBl w B (.slice (some ⟨g, 0, none⟩) n cap) X) (hn : X.length = n) (j : Nat) (c : Bool) :
    OwnBl (w.setCell ⟨g, j, none⟩ (.bool c)) B (.slice (some ⟨g, 0, none⟩) n cap) (X.set j c) ∧ w.grownBy (w.setCell ⟨g, j, none⟩ (.bool c)) (some g) := by
  unfold OwnBl at *
  rw [hn] at h
  obtain ⟨h1, h2⟩ := World.ownsRow.stored h j (.bool c)
  refine ⟨?_, h2⟩
  rw [List.length_set, hn, List.map_set]
  exact h1
theorem ownBl_at {w : World} {B g n cap : Nat} {X : List Bool} (h : OwnBl w B (.slice (some ⟨g, 0, none⟩) n cap) X) (hn : X.length = n) {j : Nat} {c : Bool} (hj : X[j]? = some c) :
    w.cell? ⟨g, j, none⟩ = some (.bool c) ∧ w.frozen? ⟨g, j, none⟩ = false := by
  have hl := (List.getElem?_eq_some_iff.1 hj).1
  unfold OwnBl at h
  rw [hn] at h
  refine ⟨?_, World.ownsRow.frozenAt h j⟩
  rw [World.ownsRow.cellAt h _ (by omega)]
  simp [hj]
/-- What Kept's loops hand on. -/
structure Kp (W0 : World) (g0 N : Nat) (wr : World) (X : List Bool) : Prop where
  own : OwnBl wr g0 (.slice (some ⟨g0, 0, none⟩) N N) X
  xl : X.length = N
  be : RowKit.Below g0 W0 wr
  sz : g0 + 1 ≤ wr.heap.size
theorem Kp.store {W0 wr : World} {g0 N : Nat} {X : List Bool} (h : Kp W0 g0 N wr X) (j : Nat) (c : Bool) : Kp W0 g0 N (wr.setCell ⟨g0, j, none⟩ (.bool c)) (X.set j c) := by
  obtain ⟨h1, h2⟩ := ownBl_stored h.own h.xl j c
  exact ⟨h1, by rw [List.length_set]; exact h.xl, h.be.grown h2 (by have := h.sz; omega) (fun j hj => by cases hj; exact Nat.le_refl _), Nat.le_trans h.sz h2.size⟩
/-- A row where what is kept says yes; in the middle of one. -/
def Kr (N : Nat) (es : List El) (k : Nat) (f q : Int) (X : List Bool) : Prop := ∀ i : Nat, i < N → X[i]? = some (stB (es.take k) i || decide (f ≤ i ∧ (i : Int) < q))
theorem kr_open {N : Nat} {es : List El} {k : Nat} {f q f' : Int} {X : List Bool} (h : Kr N es k f q X) (hq : q ≤ f) : Kr N es k f' f' X := fun i hi => by
  rw [h i hi]
  congr 2
  rw [decide_eq_false (by omega), decide_eq_false (by omega)]
theorem kr_set {N : Nat} {es : List El} {k : Nat} {f q : Int} {X : List Bool} {j : Nat} (h : Kr N es k f q X) (hl : X.length = N) (hj : (j : Int) = q) (hf : f ≤ q) : Kr N es k f (q + 1) (X.set j true) := fun i hi => by
  rw [List.getElem?_set]
  by_cases e : j = i
  · subst e
    rw [if_pos rfl, if_pos (by omega), decide_eq_true (by omega), Bool.or_true]
  · rw [if_neg e, h i hi]
    congr 2
    rw [decide_eq_decide]
    omega
theorem kr_close {N : Nat} {es : List El} {k : Nat} {f t : Int} {T : List UInt8} {X : List Bool} (h : Kr N es k f t X) (hr : es[k]? = some (f, t, T)) : Kr N es (k + 1) 0 0 X := fun i hi => by
  rw [h i hi, stB_take hr]
  congr 1
  rw [show decide ((0 : Int) ≤ (i : Int) ∧ (i : Int) < 0) = false from decide_eq_false (by omega), Bool.or_false]
set_option maxHeartbeats 4000000 in
set_option maxRecDepth 100000 in
theorem rkept_any14 {w : World} {v : Value} {es : List El} (N : Nat) (h : ElAt w v es) (hi : isB (N : Int) es = true) :
    Calls Tryd.prog 11 #[.agg #[.int .i64 (N : Nat), v]] w fun e w' => ∃ g X, e = .returned (.slice (some ⟨g, 0, none⟩) N N) ∧ OwnBl w' w.heap.size (.slice (some ⟨g, 0, none⟩) N N) X ∧ X.length = N ∧ (∀ i : Nat, i < N → X[i]? = some (stB es i)) ∧ RowKit.Below w.heap.size w w' := by
  obtain ⟨ii0, hii0, hiz0, hiz1, hiz2⟩ := info_parts Tryd.info_bool14
  have HII := Hid.mk7 hii0
  have hd := dl_of hi
  obtain ⟨a, cap, rfl, _⟩ := id h
  have BB := Hid.mk7 (below_newE (RowKit.Below.refl w.heap.size w) (.cells #[.int .i64 (N : Nat), .slice a es.length cap] 24))
  have RD := Hid.mk7 (Rd.new w (.int .i64 (N : Nat)) (.slice a es.length cap))
  have HV := Hid.mk7 (h.alloc (.cells #[.int .i64 (N : Nat), .slice a es.length cap] 24))
  have hN : N ≤ 20000 := by have := hd.b1; omega
  have hlen := hd.len
  have HIN := Hid.mk7 (nm_inn (n := N) (Int.le_refl _) es 0 0 (Int.le_refl _) hd.nm)
  clear h hi hd hii0
  obtain ⟨_, _, hve, _, _, hcells⟩ := id HV.out
  cases hve
  have HC := Hid.mk7 hcells
  clear hcells HV
  have r0 := RD.out.c0
  have r1 := RD.out.c1
  go_enter Tryd.func11, Tryd.ntmps11
  go_upto_region 1 with fail
  generalize w.alloc (.cells #[.int .i64 (N : Nat), .slice a es.length cap] 24) = W0 at *
  go_wp2_with (at_make; refine wpList_make_full _ rfl _ _ 29 rfl W0.heap.size 4 ii0 (.bool false) 1 Tryd.underlying29 HII.out hiz0 hiz1 .i64 .i64 _ _ N rfl rfl (by omega) (by omega) (by rw [hiz2]; omega) (by unfold maxLen; omega) (Nat.le_refl _) ?_)
  intro w5 hown hgrow
  generalize hW0 : W0.heap.size = g0 at *
  have SK5 : Hid (Kp W0 g0 N w5 (List.replicate N false)) := by
    have b5 : RowKit.Below g0 W0 w5 := (RowKit.Below.refl g0 W0).grown hgrow (by omega) (fun j hj => by cases hj)
    have o5 : OwnBl w5 g0 (.slice (some ⟨g0, 0, none⟩) N N) (List.replicate N false) := own_made14 (by simpa [Value.cells] using hown)
    refine ⟨o5, by simp, b5, ?_⟩
    have := (hown.lt g0 rfl).2
    omega
  have KR5 : Hid (Kr N es 0 0 0 (List.replicate N false)) := fun i hi => by
    rw [List.getElem?_replicate, if_pos hi]
    simp [stB]
  clear hown hgrow
  have RD5 := Hid.mk7 (RD.out.later (SK5.out.be.mono (by omega)))
  have s0 := RD5.out.c0
  have s1 := RD5.out.c1
  clear r0 r1
  go_wp2
  go_loopw [4] (fun iv wr => ∃ (k : Nat) (X : List Bool), k ≤ es.length ∧ iv = .int .i64 (k : Nat) ∧ Hid (Kp W0 g0 N wr X) ∧ Hid (Kr N es k 0 0 X)) (fun iv _ => es.length - (intOf iv).toNat)
  case atStart => exact ⟨0, _, Nat.zero_le _, rfl, SK5, KR5⟩
  case round =>
    clear SK5 KR5 s0 s1 RD5
    obtain ⟨k, X, hk, rfl, HE, HK⟩ := hrel
    have hbe : Hid (RowKit.Below W0.heap.size W0 wr) := HE.out.be.mono (by omega)
    have RDk := Hid.mk7 (RD.out.later hbe.out)
    have s0 := RDk.out.c0
    have s1 := RDk.out.c1
    by_cases hlt : k < es.length
    · obtain ⟨⟨f, t, T⟩, hr⟩ : ∃ r, es[k]? = some r := ⟨es[k], List.getElem?_eq_getElem hlt⟩
      obtain ⟨g, off, rfl, q0, q1, q2⟩ := HC.out k _ hr
      have c0 := cell_later7 hbe.out (Nat.le_refl _) q0
      have c1 := cell_later7 hbe.out (Nat.le_refl _) q1
      simp only at c0 c1
      have hin := HIN.out _ (List.mem_of_getElem? hr)
      simp only at hin
      have HR := Hid.mk7 hr
      have HK2 : Hid (Kr N es k f f X) := kr_open HK.out (Int.le_refl _)
      clear q0 q1 q2 hr HK
      go_wp2
      go_loopw [5] (fun jv wx => ∃ (q : Int) (Y : List Bool), f ≤ q ∧ q ≤ t ∧ jv = .int .i64 q ∧ Hid (Kp W0 g0 N wx Y) ∧ Hid (Kr N es k f q Y)) (fun jv _ => (t - intOf jv).toNat)
      case atStart => exact ⟨f, X, Int.le_refl _, hin.2.1, rfl, HE, HK2⟩
      case round =>
        clear HE HK2 hbe RDk s0 s1 c0 c1
        obtain ⟨q, Y, hq1, hq2, rfl, HE, HK⟩ := hrel
        have hbe : Hid (RowKit.Below W0.heap.size W0 wr) := HE.out.be.mono (by omega)
        have RDk := Hid.mk7 (RD.out.later hbe.out)
        have s0 := RDk.out.c0
        have s1 := RDk.out.c1
        obtain ⟨g', off', ea, q0, q1, q2⟩ := HC.out k _ HR.out
        cases ea
        have c1 := cell_later7 hbe.out (Nat.le_refl _) q1
        simp only at c1
        clear q0 q1 q2
        by_cases hqt : q < t
        · have dqt : decide (q < t) = true := decide_eq_true hqt
          obtain ⟨j, rfl⟩ : ∃ j : Nat, q = j := ⟨q.toNat, by omega⟩
          have hjN : j < N := by omega
          have HE2 := Hid.mk7 (HE.out.store j true)
          have HK2 := Hid.mk7 (kr_set (j := j) HK.out HE.out.xl rfl hq1)
          obtain ⟨d0, d1⟩ := ownBl_at HE.out.own HE.out.xl (HK.out j hjN)
          clear HE HK
          go_wp2
          go_roundw
          case rel => exact ⟨(j : Int) + 1, _, by omega, by omega, by go_num, HE2, HK2⟩
          case measure => simp [intOf]; omega
        · have dqt : decide (q < t) = false := decide_eq_false hqt
          obtain rfl : q = t := by omega
          have HK2 := Hid.mk7 (kr_close HK.out HR.out)
          clear HK
          go_wp2
          go_roundw
          case rel => exact ⟨k + 1, Y, by omega, by go_num, HE, HK2⟩
          case measure => simp [intOf]; omega
    · obtain rfl : k = es.length := by omega
      have HX : Hid (∀ i : Nat, i < N → X[i]? = some (stB es i)) := fun i hi => by
        have := HK.out i hi
        rw [List.take_length, show decide ((0 : Int) ≤ (i : Int) ∧ (i : Int) < 0) = false from decide_eq_false (by omega), Bool.or_false] at this
        exact this
      go_wp2
      go_ret
      refine ⟨g0, X, rfl, ?_, HE.out.xl, HX.out, BB.out.trans (hbe.out.mono BB.out.size)⟩
      have hs := BB.out.size
      rw [hW0] at hs
      exact HE.out.own.mono14 hs
end Go.Proofs.YtelpinngimohoaaDoor
