/- SpansRows walked. -/
import Derived.Test.YtmgjfmgkmlfjeaaSpAgain
import Derived.Test.YtmgjfmgkmlfjeaaSpMerge
namespace Go.Proofs.Ytmgjfmgkmlfjeaa
open Go.RowKit Go.Sort
set_option linter.unusedSimpArgs false
set_option linter.unusedVariables false

/-- A row of two hundred numbers in a block of its own: place k bears F k. -/
def Ints (w : World) (g : Nat) (F : Nat → Int) : Prop := ∀ k, k < 200 → w.cell? ⟨g, k, none⟩ = some (.int .i64 (F k)) ∧ w.frozen? ⟨g, k, none⟩ = false
theorem Ints.later {w w' : World} {g : Nat} {P : Nat → Int} (h : Ints w g P) (hb : Below w.heap.size w w') (hg : g < w.heap.size) : Ints w' g P := fun k hk =>
  ⟨(hb.cell (p := ⟨g, k, none⟩) hg).trans (h k hk).1, by
    have e := hb.block g hg
    simp only [World.frozen?] at *
    rw [e]; exact (h k hk).2⟩
theorem Ints.set {w : World} {g : Nat} {P : Nat → Int} (h : Ints w g P) (j : Nat) (hj : j < 200) (b : Int) : Ints (w.setCell ⟨g, j, none⟩ (.int .i64 b)) g (fun k => if k = j then b else P k) := fun k hk => by
  refine ⟨?_, by rw [World.frozen?_setCell]; exact (h k hk).2⟩
  by_cases e : k = j
  · subst e; dsimp only; rw [if_pos rfl]; exact World.cell?_setCell_same _ _ _ (h k hk).1
  · dsimp only; rw [if_neg e]; exact (World.cell?_setCell_other _ _ _ _ (by intro e'; simp only [Addr.mk.injEq] at e'; omega)).trans (h k hk).1
theorem Ints.congr {w : World} {g : Nat} {P Q : Nat → Int} (h : Ints w g P) (e : ∀ k, k < 200 → P k = Q k) : Ints w g Q := fun k hk => by rw [← e k hk]; exact h k hk
theorem zv200 : ∃ zs : Array Value, (∀ w, Sem.run Try.prog (zeroValue 24) w = .ok (.agg zs) w) ∧ ¬ zs = #[] ∧ zs.size = 200 ∧ ∀ k, k < 200 → zs[k]? = some (.int .i64 0) :=
  ⟨Array.replicate 200 (.int .i64 0), fun w => by kernel_rfl, by decide, by simp, fun k hk => by simp [hk]⟩
theorem Ints.new {w : World} {zs : Array Value} (e : TypeId) (h : ∀ k, k < 200 → zs[k]? = some (.int .i64 0)) : Ints (w.alloc (.cells zs e)) w.heap.size (fun _ => 0) := fun k hk =>
  ⟨by rw [World.cell?_alloc_new]; exact h k hk, frozen_of_row _ _ _ _ _ (heap_alloc_new w _)⟩
theorem okS_mem {m : Int} {x : Sp} : ∀ {l : List Sp} {a st : Int}, OkS m a st l → x ∈ l → a ≤ x.1 ∧ x.1 < x.2.1 ∧ x.2.1 ≤ m ∧ 1 ≤ x.2.2 ∧ x.2.2 ≤ 100
  | [], _, _, _, h => by cases h
  | (f, t, s) :: l, a, st, ⟨⟨h1, h2, h3, h4, h5, _⟩, h7⟩, hx => by
    rcases List.mem_cons.1 hx with rfl | hx
    · exact ⟨h3, h4, h5, h1, h2⟩
    · have := okS_mem h7 hx; omega
theorem ok_is {M : List Sp} (h : OkS 200 0 0 M) (hl : M.length ≤ 60) : isS 20000 M = true ∧ isS 200 M = true := ⟨isS_spec.2 ⟨hl, h.mono (by omega)⟩, isS_spec.2 ⟨hl, h⟩⟩
theorem mem_top {M : List Sp} {x : Sp} (h : OkS 200 0 0 M) (hx : x ∈ M) : toP x = true := by
  have := okS_mem h hx
  obtain ⟨f, t, s⟩ := x
  exact toP_spec.2 (by simp only at this; omega)
theorem mergeA {M : List Sp} (h : OkS 200 0 0 M) (hl : M.length ≤ 60) : ∀ (k : Nat) (x : Sp), M[k]? = some x → putE (M.take k) x = 0 ∧ putL (M.take k) x = M.take (k + 1) := fun k x hx => by
  have e := putS_take h hx
  have := putE_ok (l := M.take k) (x := x) ⟨(ok_is (h.take k) (by simp; omega)).1, mem_top h (List.mem_of_getElem? hx)⟩ (by rw [e]; simp; omega)
  rwa [e] at this
theorem mergeB {M : List Sp} (h : OkS 200 0 0 M) (hl : M.length ≤ 60) : ∀ (k : Nat) (x : Sp), M[k]? = some x → putE M x = 0 ∧ putL M x = M := fun k x hx => by
  have e := putS_self h (by omega) (List.mem_of_getElem? hx)
  have := putE_ok (l := M) (x := x) ⟨(ok_is h hl).1, mem_top h (List.mem_of_getElem? hx)⟩ (by rw [e]; omega)
  rwa [e] at this
theorem putE_zero {l : List Sp} {x : Sp} (h : putE l x = 0) : toP x = true := by
  unfold putE at h
  split at h
  · rename_i hc; exact hc.2
  · omega
set_option maxHeartbeats 8000000 in
set_option maxRecDepth 100000 in
theorem rows_any15 (L : List Sp) (v : Value) (w : World) (h : SpAt w v L) :
    Calls Try.prog 3 #[v] w fun e w' => e = .returned (.bool true) ∧ Below w.heap.size w w' := by
  have HK := Hid.mk7 (known15_any w)
  have HV := Hid.mk7 h
  obtain ⟨va, vcap, rfl⟩ := h.shape
  clear h
  by_cases hl : L.length ≤ 25
  case neg =>
    have d1 : decide ((25 : Int) < (L.length : Nat)) = true := decide_eq_true (by omega)
    have d2 : decide (25 < L.length) = true := decide_eq_true (by omega)
    go_enter Try.func3, Try.ntmps3
    go_wp2_with fail
    refine HK.out.mono ?_
    rintro e w0 ⟨rfl, b0⟩
    go_wp2
    go_ret
    exact ⟨rfl, b0⟩
  have dl1 : decide ((25 : Int) < (L.length : Nat)) = false := decide_eq_false (by omega)
  have dl2 : decide (25 < L.length) = false := decide_eq_false (by omega)
  go_enter Try.func3, Try.ntmps3
  go_wp2_with fail
  refine HK.out.mono ?_
  rintro e w1 ⟨rfl, b1⟩
  have H1 := Hid.mk7 (HV.out.later b1)
  have G1 := Hid.mk7 b1
  clear b1 HV HK
  obtain ⟨zs, hz31, hzne, hzsz, hzk⟩ := zv200
  have B1 : Hid (Ints (w1.alloc (.cells zs 24)) w1.heap.size (fun k => atS [] k)) := Ints.new _ hzk
  have G2 : Hid (Below w1.heap.size w1 (w1.alloc (.cells zs 24))) := (Below.refl _ _).alloc (Nat.le_refl _) _
  have hg2 : w1.heap.size < (w1.alloc (.cells zs 24)).heap.size := by simp
  clear hzk
  go_wp2
  generalize hgg : w1.heap.size = g at *
  generalize w1.alloc (.cells zs 24) = w2 at *
  clear hz31 hzne hzsz
  have hwg : w.heap.size ≤ g := by have := G1.out.size; omega
  go_loopw [4, 5] (fun mv iv wr => ∃ (i : Nat) (M : List Sp), i ≤ L.length ∧ M.length ≤ 2 * i ∧ iv = .int .i64 (i : Nat) ∧ Hid (SpAt wr mv M) ∧ Hid (HiB (g + 1) mv) ∧ Hid (OkS 200 0 0 M) ∧ Hid (Ints wr g (fun k => atS M k)) ∧ Hid (Below g w1 wr) ∧ Hid (g < wr.heap.size)) (fun _ iv _ => L.length - (intOf iv).toNat)
  case atStart => exact ⟨0, [], Nat.zero_le _, Nat.le_refl _, rfl, SpAt.nil _, HiB.nil _, trivial, B1, G2, hg2⟩
  case round =>
    clear B1 G2 hg2
    obtain ⟨i, M, hi, hml, rfl, HM, HH, HO, HA, HB, HG⟩ := hrel
    by_cases hlt : i < L.length
    · obtain ⟨⟨x, y, z⟩, hr⟩ : ∃ r, L[i]? = some r := ⟨L[i], List.getElem?_eq_getElem hlt⟩
      obtain ⟨_, _, e1, _, _, hc⟩ := id H1.out
      cases e1
      obtain ⟨g1, o1, rfl, q0, q1, q2⟩ := hc i _ hr
      have c0 := cell_later7 HB.out (by omega) q0
      have c1 := cell_later7 HB.out (by omega) q1
      have c2 := cell_later7 HB.out (by omega) q2
      simp only at c0 c1 c2
      clear q0 q1 q2 hc hr
      have HM1 := Hid.mk7 (HM.out.alloc (.cells #[.int .i64 x, .int .i64 y, .int .i64 z] 26))
      have bz : Below wr.heap.size wr (wr.alloc (.cells #[.int .i64 x, .int .i64 y, .int .i64 z] 26)) := (Below.refl _ _).alloc (Nat.le_refl _) _
      have HA1 := Hid.mk7 (HA.out.later bz HG.out)
      have HB1 := Hid.mk7 (HB.out.trans (bz.mono (Nat.le_of_lt HG.out)))
      have HP1 := Hid.mk7 (Rt.new 26 wr (.int .i64 x) (.int .i64 y) (.int .i64 z))
      have HG1 : Hid (g < (wr.alloc (.cells #[.int .i64 x, .int .i64 y, .int .i64 z] 26)).heap.size) := Nat.lt_of_lt_of_le HG.out bz.size
      obtain ⟨s, hs⟩ : ∃ s, wr.heap.size = s := ⟨_, rfl⟩
      have hsg : g < s := by have := HG.out; omega
      clear bz HM HA HB
      rw [hs] at HP1
      have p0 := HP1.out.c0
      have p1 := HP1.out.c1
      have p2 := HP1.out.c2
      have HEP := Hid.mk7 (@putE_zero M (x, y, z))
      by_cases t0 : x < 0
      · have s0 : decide (x < 0) = true := decide_eq_true t0
        go_wp2_with fail
        try rw [hs]
        refine (put_any15 x y z HM1.out).mono ?_
        rintro e w3 ⟨v3, rfl, _, _, b3⟩
        have HM3 := Hid.mk7 (HM1.out.later b3)
        have HA3 := Hid.mk7 (HA1.out.later b3 HG1.out)
        have HB3 := Hid.mk7 (HB1.out.trans (b3.mono (Nat.le_of_lt HG1.out)))
        have HP3 := Hid.mk7 (HP1.out.later b3)
        have HG3 : Hid (g < w3.heap.size) := Nat.lt_of_lt_of_le HG1.out b3.size
        clear b3 p0 p1 p2 HM1 HA1 HB1 HP1
        have p0 := HP3.out.c0
        have p1 := HP3.out.c1
        have p2 := HP3.out.c2
        by_cases hz : putE M (x, y, z) = 0
        · have ht := toP_spec.1 (HEP.out hz)
          omega
        · have f0 : (putE M (x, y, z) == 0) = false := by simpa using hz
          have f0' : decide (putE M (x, y, z) = 0) = false := by simpa using hz
          generalize putE M (x, y, z) = r at *
          clear HEP
          go_wp2
          go_roundw
          case rel => exact ⟨i + 1, M, by omega, by omega, by go_num, HM3, HH, HO, HA3, HB3, HG3⟩
          case measure => simp [intOf]; omega
      have s0 : decide (x < 0) = false := decide_eq_false t0
      by_cases t1 : y < x
      · have s1 : decide (y < x) = true := decide_eq_true t1
        go_wp2_with fail
        try rw [hs]
        refine (put_any15 x y z HM1.out).mono ?_
        rintro e w3 ⟨v3, rfl, _, _, b3⟩
        have HM3 := Hid.mk7 (HM1.out.later b3)
        have HA3 := Hid.mk7 (HA1.out.later b3 HG1.out)
        have HB3 := Hid.mk7 (HB1.out.trans (b3.mono (Nat.le_of_lt HG1.out)))
        have HP3 := Hid.mk7 (HP1.out.later b3)
        have HG3 : Hid (g < w3.heap.size) := Nat.lt_of_lt_of_le HG1.out b3.size
        clear b3 p0 p1 p2 HM1 HA1 HB1 HP1
        have p0 := HP3.out.c0
        have p1 := HP3.out.c1
        have p2 := HP3.out.c2
        by_cases hz : putE M (x, y, z) = 0
        · have ht := toP_spec.1 (HEP.out hz)
          omega
        · have f0 : (putE M (x, y, z) == 0) = false := by simpa using hz
          have f0' : decide (putE M (x, y, z) = 0) = false := by simpa using hz
          generalize putE M (x, y, z) = r at *
          clear HEP
          go_wp2
          go_roundw
          case rel => exact ⟨i + 1, M, by omega, by omega, by go_num, HM3, HH, HO, HA3, HB3, HG3⟩
          case measure => simp [intOf]; omega
      have s1 : decide (y < x) = false := decide_eq_false t1
      by_cases t2 : 200 < y
      · have s2 : decide (200 < y) = true := decide_eq_true t2
        go_wp2_with fail
        try rw [hs]
        refine (put_any15 x y z HM1.out).mono ?_
        rintro e w3 ⟨v3, rfl, _, _, b3⟩
        have HM3 := Hid.mk7 (HM1.out.later b3)
        have HA3 := Hid.mk7 (HA1.out.later b3 HG1.out)
        have HB3 := Hid.mk7 (HB1.out.trans (b3.mono (Nat.le_of_lt HG1.out)))
        have HP3 := Hid.mk7 (HP1.out.later b3)
        have HG3 : Hid (g < w3.heap.size) := Nat.lt_of_lt_of_le HG1.out b3.size
        clear b3 p0 p1 p2 HM1 HA1 HB1 HP1
        have p0 := HP3.out.c0
        have p1 := HP3.out.c1
        have p2 := HP3.out.c2
        by_cases hz : putE M (x, y, z) = 0
        · have ht := toP_spec.1 (HEP.out hz)
          have f1 : decide (20000 < y) = false := decide_eq_false (by omega)
          have f2 : decide (x < 0) = false := decide_eq_false (by omega)
          have f3 : decide (y < x) = false := decide_eq_false (by omega)
          have f4 : decide (z < 0) = false := decide_eq_false (by omega)
          have f5 : decide (100 < z) = false := decide_eq_false (by omega)
          rw [hz]
          clear hz ht
          go_wp2
          go_roundw
          case rel => exact ⟨i + 1, M, by omega, by omega, by go_num, HM3, HH, HO, HA3, HB3, HG3⟩
          case measure => simp [intOf]; omega
        · have f0 : (putE M (x, y, z) == 0) = false := by simpa using hz
          have f0' : decide (putE M (x, y, z) = 0) = false := by simpa using hz
          generalize putE M (x, y, z) = r at *
          clear HEP
          go_wp2
          go_roundw
          case rel => exact ⟨i + 1, M, by omega, by omega, by go_num, HM3, HH, HO, HA3, HB3, HG3⟩
          case measure => simp [intOf]; omega
      have s2 : decide (200 < y) = false := decide_eq_false t2
      by_cases t3 : z < 0
      · have s3 : decide (z < 0) = true := decide_eq_true t3
        go_wp2_with fail
        try rw [hs]
        refine (put_any15 x y z HM1.out).mono ?_
        rintro e w3 ⟨v3, rfl, _, _, b3⟩
        have HM3 := Hid.mk7 (HM1.out.later b3)
        have HA3 := Hid.mk7 (HA1.out.later b3 HG1.out)
        have HB3 := Hid.mk7 (HB1.out.trans (b3.mono (Nat.le_of_lt HG1.out)))
        have HP3 := Hid.mk7 (HP1.out.later b3)
        have HG3 : Hid (g < w3.heap.size) := Nat.lt_of_lt_of_le HG1.out b3.size
        clear b3 p0 p1 p2 HM1 HA1 HB1 HP1
        have p0 := HP3.out.c0
        have p1 := HP3.out.c1
        have p2 := HP3.out.c2
        by_cases hz : putE M (x, y, z) = 0
        · have ht := toP_spec.1 (HEP.out hz)
          omega
        · have f0 : (putE M (x, y, z) == 0) = false := by simpa using hz
          have f0' : decide (putE M (x, y, z) = 0) = false := by simpa using hz
          generalize putE M (x, y, z) = r at *
          clear HEP
          go_wp2
          go_roundw
          case rel => exact ⟨i + 1, M, by omega, by omega, by go_num, HM3, HH, HO, HA3, HB3, HG3⟩
          case measure => simp [intOf]; omega
      have s3 : decide (z < 0) = false := decide_eq_false t3
      by_cases t4 : 100 < z
      · have s4 : decide (100 < z) = true := decide_eq_true t4
        go_wp2_with fail
        try rw [hs]
        refine (put_any15 x y z HM1.out).mono ?_
        rintro e w3 ⟨v3, rfl, _, _, b3⟩
        have HM3 := Hid.mk7 (HM1.out.later b3)
        have HA3 := Hid.mk7 (HA1.out.later b3 HG1.out)
        have HB3 := Hid.mk7 (HB1.out.trans (b3.mono (Nat.le_of_lt HG1.out)))
        have HP3 := Hid.mk7 (HP1.out.later b3)
        have HG3 : Hid (g < w3.heap.size) := Nat.lt_of_lt_of_le HG1.out b3.size
        clear b3 p0 p1 p2 HM1 HA1 HB1 HP1
        have p0 := HP3.out.c0
        have p1 := HP3.out.c1
        have p2 := HP3.out.c2
        by_cases hz : putE M (x, y, z) = 0
        · have ht := toP_spec.1 (HEP.out hz)
          omega
        · have f0 : (putE M (x, y, z) == 0) = false := by simpa using hz
          have f0' : decide (putE M (x, y, z) = 0) = false := by simpa using hz
          generalize putE M (x, y, z) = r at *
          clear HEP
          go_wp2
          go_roundw
          case rel => exact ⟨i + 1, M, by omega, by omega, by go_num, HM3, HH, HO, HA3, HB3, HG3⟩
          case measure => simp [intOf]; omega
      have s4 : decide (100 < z) = false := decide_eq_false t4
      have ht : toP (x, y, z) = true := toP_spec.2 (by omega)
      have hlen := putS_len (S := z) HO.out (show x ≤ y by omega)
      obtain ⟨ok1, at1⟩ := putS_ok (F := x) (T := y) (S := z) HO.out (by omega) (by omega) (by omega) (by omega) (by omega)
      obtain ⟨pe, pl⟩ := putE_ok (l := M) (x := (x, y, z)) ⟨(ok_is HO.out (by omega)).1, ht⟩ (by omega)
      have HPU := Hid.mk7 (put_v HM1.out pe pl)
      have HO2 := Hid.mk7 ok1
      have HAT := Hid.mk7 at1
      have HIS := Hid.mk7 (ok_is ok1 (by omega)).2
      generalize putS M (x, y, z) = M2 at *
      clear pe pl ok1 at1 ht HEP
      go_wp2_with fail
      try rw [hs]
      refine HPU.out.mono ?_
      rintro e w3 ⟨v3, rfl, m3, hi3, b3⟩
      have HM3 := Hid.mk7 m3
      have HI3 : Hid (HiB (g + 1) v3) := hi3.mono HG1.out
      have HA3 : Hid (Ints w3 g (fun (k : Nat) => if x ≤ (k : Int) ∧ (k : Int) < x + ((0 : Nat) : Int) then z else atS M k)) := (HA1.out.later b3 HG1.out).congr fun k hk => by rw [if_neg (by omega)]
      have HB3 := Hid.mk7 (HB1.out.trans (b3.mono (Nat.le_of_lt HG1.out)))
      have HP3 := Hid.mk7 (HP1.out.later b3)
      have HG3 : Hid (g < w3.heap.size) := Nat.lt_of_lt_of_le HG1.out b3.size
      clear b3 m3 hi3 p0 p1 p2 HM1 HA1 HB1 HP1 HPU c0 c1 c2 HG1
      have p0 := HP3.out.c0
      have p1 := HP3.out.c1
      have p2 := HP3.out.c2
      go_wp2
      clear p0 p1 p2
      go_loopw [11] (fun kv wq => ∃ q : Nat, kv = .int .i64 (x + (q : Nat)) ∧ x + (q : Int) ≤ y ∧ Hid (SpAt wq v3 M2) ∧ Hid (Ints wq g (fun (k : Nat) => if x ≤ (k : Int) ∧ (k : Int) < x + (q : Nat) then z else atS M k)) ∧ Hid (Below g w1 wq) ∧ Hid (g < wq.heap.size) ∧ Hid (Rt 26 wq s (.int .i64 x) (.int .i64 y) (.int .i64 z))) (fun kv _ => (y - intOf kv).toNat)
      case atStart => exact ⟨0, by simp, by omega, HM3, HA3, HB3, HG3, HP3⟩
      case round =>
        clear HM3 HA3 HB3 HG3 HP3
        obtain ⟨q, rfl, hq, HM3, HA3, HB3, HG3, HP3⟩ := hrel
        have p0 := HP3.out.c0
        have p1 := HP3.out.c1
        have p2 := HP3.out.c2
        by_cases hlk : x + (q : Int) < y
        · obtain ⟨k, hk⟩ : ∃ k : Nat, x + (q : Int) = (k : Int) := ⟨(x + (q : Int)).toNat, by omega⟩
          have hk200 : k < 200 := by omega
          have hk2 : (k : Int) < y := by omega
          have b0 := (HA3.out k hk200).1
          have f0 := (HA3.out k hk200).2
          have HA4 : Hid (Ints (wr.setCell ⟨g, k, none⟩ (.int .i64 z)) g (fun (j : Nat) => if x ≤ (j : Int) ∧ (j : Int) < x + ((q + 1 : Nat) : Int) then z else atS M j)) := (HA3.out.set k hk200 z).congr fun j hj => by
            by_cases e : j = k
            · rw [if_pos e, if_pos (by omega)]
            · rw [if_neg e]
              by_cases h2 : x ≤ (j : Int) ∧ (j : Int) < x + (q : Nat)
              · rw [if_pos h2, if_pos (by omega)]
              · rw [if_neg h2, if_neg (by omega)]
          have HM4 := Hid.mk7 (HM3.out.set HI3.out k (.int .i64 z))
          have HB4 := Hid.mk7 (HB3.out.setCell (p := ⟨g, k, none⟩) (Nat.le_refl _) (.int .i64 z))
          have HP4 := Hid.mk7 (HP3.out.other (g' := g) (by omega) k (.int .i64 z))
          have HG4 : Hid (g < (wr.setCell ⟨g, k, none⟩ (.int .i64 z)).heap.size) := by show _ < _; simpa using HG3.out
          clear HA3 HM3 HB3 HP3
          go_wp2_with fail
          go_roundw
          case rel => exact ⟨q + 1, by (congr 1; omega), by omega, HM4, HA4, HB4, HG4, HP4⟩
          case measure => simp [intOf]; omega
        · have HA4 : Hid (Ints wr g (fun (k : Nat) => atS M2 k)) := HA3.out.congr fun j hj => by
            rw [HAT.out]
            by_cases h2 : x ≤ (j : Int) ∧ (j : Int) < y
            · rw [if_pos h2, if_pos (by omega)]
            · rw [if_neg h2, if_neg (by omega)]
          have HIV := Hid.mk7 (is_v HM3.out HIS.out)
          clear HA3 HAT HIS
          go_wp2_with fail
          refine HIV.out.mono ?_
          rintro e w5 ⟨rfl, b5⟩
          have HM5 := Hid.mk7 (HM3.out.later b5)
          have HA5 := Hid.mk7 (HA4.out.later b5 HG3.out)
          have HB5 := Hid.mk7 (HB3.out.trans (b5.mono (Nat.le_of_lt HG3.out)))
          have HG5 : Hid (g < w5.heap.size) := Nat.lt_of_lt_of_le HG3.out b5.size
          clear b5 HIV HM3 HA4 HB3 HG3 HP3 p0 p1 p2
          go_wp2
          go_roundw
          case rel => exact ⟨i + 1, M2, by omega, by omega, by go_num, HM5, HI3, HO2, HA5, HB5, HG5⟩
          case measure => simp [intOf]; omega
    · obtain rfl : i = L.length := by omega
      have hm60 : M.length ≤ 60 := by omega
      have GB : Hid (Below w.heap.size w wr) := G1.out.trans (HB.out.mono hwg)
      clear H1 G1 HB
      generalize wr = wa at *
      go_wp2
      go_loopw [12] (fun kv wq => ∃ k : Nat, k ≤ 200 ∧ kv = .int .i64 (k : Nat) ∧ Hid (Below wa.heap.size wa wq)) (fun kv _ => 200 - (intOf kv).toNat)
      case atStart => exact ⟨0, Nat.zero_le _, rfl, Below.refl _ _⟩
      case round =>
        obtain ⟨k, hk, rfl, HQ⟩ := hrel
        have HM3 := Hid.mk7 (HM.out.later HQ.out)
        by_cases hlk : k < 200
        · obtain ⟨zz, hz⟩ : ∃ zz, atS M k = zz := ⟨_, rfl⟩
          have HZ := Hid.mk7 hz
          have b0 : wr.cell? ⟨g, k, none⟩ = some (.int .i64 zz) := by
            have := (HA.out.later HQ.out HG.out k hlk).1
            rw [hz] at this
            exact this
          clear hz
          go_wp2_with fail
          have z0 := cell_regrown b0
          refine wp_region_mixP [([0, 1, 3, 4, 5], [2]), ([6], [])] (by kernel_rfl) (by kernel_rfl) ?_
          rintro x0 ⟨d0, rfl⟩
          have m0 := redrawn15 wr d0
          refine wpPlan_cons ?_
          simp only [pickAll, pickAt, List.nil_append, List.cons_append, List.append_nil]
          repeat (go_big_quiet_step (fail))
          refine wpQuiet_nil ?_
          go_wp2_with fail
          refine (at_v (HM3.out.later m0) (by omega) HZ.out).mono ?_
          rintro e x1 ⟨rfl, b1⟩
          have m1 := m0.trans (b1.mono m0.size)
          go_wp2
          refine mixNext15 m1 ?_
          refine wpPlan_cons ?_
          simp only [pickAll, pickAt, List.nil_append, List.cons_append, List.append_nil]
          repeat (go_big_quiet_step (fail))
          refine wpQuiet_nil ?_
          refine mixNext15 m1 (wpPlan_nil ?_)
          have HQ2 := Hid.mk7 (HQ.out.trans (m1.mono HQ.out.size))
          clear b0 z0 m0 b1 m1 HQ HM3
          go_wp2
          go_roundw
          case rel => exact ⟨k + 1, by omega, by go_num, HQ2⟩
          case measure => simp [intOf]; omega
        · obtain rfl : k = 200 := by omega
          have GB3 := Hid.mk7 (GB.out.trans (HQ.out.mono GB.out.size))
          have HIM := Hid.mk7 (ok_is HO.out hm60).1
          have HMA := Hid.mk7 (mergeA HO.out hm60)
          have HMB := Hid.mk7 (mergeB HO.out hm60)
          clear HA HG HQ GB
          go_wp2_with fail
          refine (merge_any15 (fun k => M.take k) (SpAt.nil _) HM3.out (by simp) HIM.out rfl HMA.out).mono ?_
          rintro e w4 ⟨u, rfl, hu, b4⟩
          have HU4 : Hid (SpAt w4 u M) := by show SpAt _ _ _; rwa [List.take_length] at hu
          have HM4 := Hid.mk7 (HM3.out.later b4)
          have G4 := Hid.mk7 (GB3.out.trans (b4.mono GB3.out.size))
          clear hu b4
          go_wp2_with fail
          refine (merge_any15 (fun _ => M) HM4.out HM4.out (by omega) HIM.out rfl HMB.out).mono ?_
          rintro e w5 ⟨vv, rfl, hv, b5⟩
          have HV5 := Hid.mk7 hv
          have HU5 := Hid.mk7 (HU4.out.later b5)
          have HM5 := Hid.mk7 (HM4.out.later b5)
          have G5 := Hid.mk7 (G4.out.trans (b5.mono G4.out.size))
          clear hv b5
          go_wp2_with fail
          refine (same_v15 HU5.out HM5.out (by omega)).mono ?_
          rintro e w6 ⟨rfl, b6⟩
          have HV6 := Hid.mk7 (HV5.out.later b6)
          have HM6 := Hid.mk7 (HM5.out.later b6)
          have G6 := Hid.mk7 (G5.out.trans (b6.mono G5.out.size))
          clear b6
          go_wp2_with fail
          refine (same_v15 HV6.out HM6.out (by omega)).mono ?_
          rintro e w7 ⟨rfl, b7⟩
          have G7 := Hid.mk7 (G6.out.trans (b7.mono G6.out.size))
          clear b7
          go_wp2
          go_ret
          exact ⟨rfl, G7.out⟩
end Go.Proofs.Ytmgjfmgkmlfjeaa
