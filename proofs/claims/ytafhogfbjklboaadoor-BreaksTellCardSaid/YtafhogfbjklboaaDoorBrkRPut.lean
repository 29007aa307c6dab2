/- The reference's PutBreak. -/
import Derived.Test.YtafhogfbjklboaaDoorBrkIs
namespace Go.Proofs.YtafhogfbjklboaaDoor
open Go.RowKit Go.Sort
set_option linter.unusedSimpArgs false
set_option linter.unusedVariables false

theorem below_old' {a b c : World} (h : Below a.heap.size a b) (k : Below b.heap.size b c) : Below a.heap.size a c := h.trans (k.mono h.size)
/-- The first k of a row, those from k on: whatever address the model gives what is empty. -/
theorem nat_take {w : World} {g off n cap k : Nat} {L : List Int} (h : NAt w (.slice (some ⟨g, off, none⟩) n cap) L) (hk : k ≤ L.length) {c : Nat} (hc : k ≤ c) {u : Nat} (hu : u = k) : NAt w (.slice (some ⟨g, off, none⟩) u c) (L.take k) := by
  obtain ⟨a', cap', e, _, hn, hcell⟩ := h
  cases e
  have hl : (L.take k).length = k := by simp; omega
  refine ⟨some ⟨g, off, none⟩, c, by rw [hl, hu], by rw [hl]; exact hc, (fun e => by cases e), fun i x hx => ?_⟩
  have hx' : L[i]? = some x := by
    rw [List.getElem?_take] at hx
    split at hx
    · exact hx
    · cases hx
  exact hcell i x hx'
theorem nat_drop {w : World} {g off n cap k : Nat} {L : List Int} (h : NAt w (.slice (some ⟨g, off, none⟩) n cap) L) (hk : k ≤ L.length) {c : Nat} (hc : L.length - k ≤ c) {u : Nat} (hu : u = L.length - k) : NAt w (.slice (some ⟨g, off + k, none⟩) u c) (L.drop k) := by
  obtain ⟨a', cap', e, _, hn, hcell⟩ := h
  cases e
  have hl : (L.drop k).length = L.length - k := by simp
  refine ⟨some ⟨g, off + k, none⟩, c, by rw [hl, hu], by rw [hl]; exact hc, (fun e => by cases e), fun i x hx => ?_⟩
  rw [List.getElem?_drop] at hx
  obtain ⟨g', off', e, q⟩ := hcell (k + i) x hx
  cases e
  exact ⟨_, _, rfl, by rw [Nat.add_assoc]; exact q⟩
theorem nat_empty {w : World} {a : Option Addr} {c : Nat} {L : List Int} (hL : L = []) (hn : a = none → c = 0) : NAt w (.slice a 0 c) L := by
  subst hL
  exact ⟨a, c, rfl, Nat.zero_le _, hn, fun i x hx => by simp at hx⟩
set_option maxHeartbeats 8000000 in
set_option maxRecDepth 100000 in
theorem rput_any16 {w : World} {v : Value} {L : List Int} (y : Int) (h : NAt w v L) (hl : L.length ≤ 1000000) :
    Calls Tryd.prog 12 #[v, .int .i64 y] w fun e w' => ∃ v', e = .returned (.tuple #[v', .int .i64 (pbE y L)]) ∧ NAt w' v' (pbL y L) ∧ Below w.heap.size w w' := by
  have HI := Hid.mk7 (ris_any16 20000 h (by omega))
  have HV := Hid.mk7 h
  obtain ⟨a, cap, rfl⟩ := nat_shape h
  clear h
  cases hi : isK 20000 L with
  | false =>
    rw [hi] at HI
    obtain ⟨e1, e2⟩ := pb_bad (y := y) (l := L) (by simp [hi])
    have E1 := Hid.mk7 e1
    have E2 := Hid.mk7 e2
    clear e1 e2 hi
    go_enter Tryd.func12, Tryd.ntmps12
    go_wp2_with fail
    refine HI.out.mono ?_
    rintro e w1 ⟨rfl, b1⟩
    have HB1 := Hid.mk7 b1
    clear b1
    go_wp2
    go_ret2
    exact ⟨_, tup16 E1.out.symm, nat_nil' E2.out, HB1.out⟩
  | true =>
    rw [hi] at HI
    by_cases hy0 : y < 1
    · have d0 : decide (y < 1) = true := decide_eq_true hy0
      obtain ⟨e1, e2⟩ := pb_bad (y := y) (l := L) (fun h => by omega)
      have E1 := Hid.mk7 e1
      have E2 := Hid.mk7 e2
      clear e1 e2 hi
      go_enter Tryd.func12, Tryd.ntmps12
      go_wp2_with fail
      refine HI.out.mono ?_
      rintro e w1 ⟨rfl, b1⟩
      have HB1 := Hid.mk7 b1
      clear b1
      go_wp2
      go_ret2
      exact ⟨_, tup16 E1.out.symm, nat_nil' E2.out, HB1.out⟩
    have d0 : decide (y < 1) = false := decide_eq_false hy0
    by_cases hy1 : 20000 ≤ y
    · have d1 : decide (20000 ≤ y) = true := decide_eq_true hy1
      obtain ⟨e1, e2⟩ := pb_bad (y := y) (l := L) (fun h => by omega)
      have E1 := Hid.mk7 e1
      have E2 := Hid.mk7 e2
      clear e1 e2 hi
      go_enter Tryd.func12, Tryd.ntmps12
      go_wp2_with fail
      refine HI.out.mono ?_
      rintro e w1 ⟨rfl, b1⟩
      have HB1 := Hid.mk7 b1
      clear b1
      go_wp2
      go_ret2
      exact ⟨_, tup16 E1.out.symm, nat_nil' E2.out, HB1.out⟩
    have d1 : decide (20000 ≤ y) = false := decide_eq_false hy1
    have hok : isK 20000 L = true ∧ 1 ≤ y ∧ y < 20000 := ⟨hi, by omega, by omega⟩
    have h60 := (isK_spec.1 hi).1
    have HR := Hid.mk7 (isK_spec.1 hi).2
    have HOK := Hid.mk7 hok
    clear hok hi hy0 hy1
    go_enter Tryd.func12, Tryd.ntmps12
    go_wp2_with fail
    refine HI.out.mono ?_
    rintro e w1 ⟨rfl, b1⟩
    have HB1 := Hid.mk7 b1
    have HV1 := Hid.mk7 (HV.out.later b1)
    clear b1 HV HI
    go_wp2
    go_loopw [6] (fun iv wr => ∃ k : Nat, k ≤ L.length ∧ iv = .int .i64 (k : Nat) ∧ Hid (∀ j x, j < k → L[j]? = some x → x < y) ∧ wr = w1) (fun iv _ => L.length - (intOf iv).toNat)
    case atStart => exact ⟨0, Nat.zero_le _, rfl, fun j x hj => absurd hj (Nat.not_lt_zero _), rfl⟩
    case round =>
      obtain ⟨k, hk, rfl, HK, rfl⟩ := hrel
      by_cases hlt : k < L.length
      · obtain ⟨x, hr⟩ : ∃ r, L[k]? = some r := ⟨L[k], List.getElem?_eq_getElem hlt⟩
        obtain ⟨g, off, rfl, c0⟩ := nat_cell HV1.out hr
        have dk : decide ((k : Int) < (L.length : Int)) = true := decide_eq_true (by omega)
        have dk2 : decide (k < L.length) = true := decide_eq_true hlt
        have HCL := Hid.mk7 (fun h2 => cntL_at (y := y) HR.out hk HK.out h2)
        have HX : Hid (∀ z, L[k]? = some z → z = x) := fun z hz => by rw [hr] at hz; cases hz; rfl
        by_cases h1 : x < y
        · have s1 : decide (x < y) = true := decide_eq_true h1
          have HN : Hid (∀ j z, j < k + 1 → L[j]? = some z → z < y) := fun j z hj hz => by
            by_cases e : j = k
            · subst e; rw [HX.out z hz]; exact h1
            · exact HK.out j z (by omega) hz
          clear hr HK
          go_wp2
          go_roundw
          case rel => exact ⟨k + 1, by omega, by go_num, HN, trivial⟩
          case measure => simp [intOf]; omega
        · have s1 : decide (x < y) = false := decide_eq_false h1
          obtain ⟨hc, hmem⟩ := HCL.out (fun z hz => by rw [HX.out z hz]; omega)
          by_cases h2 : x = y
          · have s2 : (x == y) = true := by simpa using h2
            obtain ⟨e1, e2⟩ := pb_there HOK.out (hmem.2 (by rw [hr, h2]))
            have E1 := Hid.mk7 e1
            have E2 := Hid.mk7 e2
            clear hr HK HCL HX hc hmem e1 e2 h2 h1
            go_wp2
            go_ret2
            exact ⟨_, tup16 E1.out.symm, by rw [E2.out]; exact HV1.out, HB1.out⟩
          have s2 : (x == y) = false := by simpa using h2
          have hnm : ¬ y ∈ L := fun hm => h2 (by have := hmem.1 hm; rw [hr] at this; exact Option.some.inj this)
          by_cases hf : L.length = 60
          · have df : ((L.length : Int) == 60) = true := by simpa using (by omega : (L.length : Int) = 60)
            obtain ⟨e1, e2⟩ := pb_full HOK.out hnm hf
            have E1 := Hid.mk7 e1
            have E2 := Hid.mk7 e2
            clear hr HK HCL HX hc hmem e1 e2 h2 h1 hnm hf
            go_wp2
            go_ret2
            exact ⟨_, tup16 E1.out.symm, nat_nil' E2.out, HB1.out⟩
          have df : ((L.length : Int) == 60) = false := by simpa using (by omega : ¬ (L.length : Int) = 60)
          obtain ⟨e1, e2⟩ := pb_new HOK.out hnm hf
          rw [insK_eq HR.out, hc] at e2
          have E1 := Hid.mk7 e1
          have E2 := Hid.mk7 e2
          clear hr HK HCL HX hc hmem e1 e2 h2 h1 hnm hf
          have hw1 := HB1.out.size
          have hcn : k < cap := by obtain ⟨_, _, e, hc, _⟩ := HV1.out; cases e; omega
          have hcc : L.length ≤ cap := by obtain ⟨_, _, e, hc, _⟩ := HV1.out; cases e; omega
          have hz1 : ¬ cap = 0 := by omega
          have hz2 : ¬ cap = k := by omega
          have HU1 := Hid.mk7 (nat_take HV1.out hk (Nat.le_of_lt hcn) rfl)
          have HUD := Hid.mk7 (fun (W : World) (h : NAt W (.slice (some ⟨g, off, none⟩) L.length cap) L) => nat_drop (c := cap - k) (u := L.length - k) h hk (Nat.sub_le_sub_right hcc k) rfl)
          have hal : (L.take k).length ≤ 60 := by simp; omega
          have hdl : (L.drop k).length ≤ 60 := by simp; omega
          generalize L.take k = A at *
          generalize L.drop k = D at *
          go_wp2_with (at_builtin; refine wpList_append_row16 rfl _ _ rfl wr.heap.size _ _ [] A rfl (OwnZ.nil _ _) rfl (HU1.out) (by simp) (by first | omega | (simp; done) | (simp; omega)) (Nat.le_refl _) ?_)
          intro v2 w2 ho hgrow
          have HO2 : Hid (OwnZ w2 wr.heap.size v2 A) := ho
          have HR2 : Hid (Below wr.heap.size wr w2) := (Below.refl _ wr).grown hgrow (Nat.le_refl _) (fun _ h => by cases h)
          have hs2 := HR2.out.size
          clear ho hgrow
          obtain ⟨ta, tc, hta, _⟩ := HO2.out.shape
          subst hta
          have htl : A.length ≤ 60 := by first | omega | (simp; done) | (simp; omega)
          go_wp2_with (at_builtin; refine wpList_append_row16 rfl _ _ rfl wr.heap.size _ _ A [y] rfl (HO2.out.alloc _) rfl (nat_one rfl _ _) (by omega) (by simp) (by simp; omega) ?_)
          intro v3 w3 ho hgrow
          have ho' : OwnZ w3 wr.heap.size v3 (A ++ [y]) := ho
          obtain ⟨M, hM⟩ : ∃ M, M = A ++ [y] := ⟨_, rfl⟩
          rw [← hM] at ho'
          have htm : M.length ≤ 61 := by rw [hM, List.length_append]; simp; try omega
          have HM := Hid.mk7 hM
          have HO3 := Hid.mk7 ho'
          have HR3 : Hid (Below wr.heap.size wr w3) := (below16 HR2.out _).grown hgrow (by simp; omega) (fun g hg => (World.ownsRow.lt HO2.out g hg).1)
          have HV3 := Hid.mk7 (HV1.out.later HR3.out)
          have hs3 := HR3.out.size
          clear ho ho' hM hgrow HO2 HR2 hs2
          obtain ⟨tb, td, htb, _⟩ := HO3.out.shape
          subst htb
          go_wp2_with (at_builtin; refine wpList_append_row16 rfl _ _ rfl wr.heap.size _ _ M D rfl HO3.out rfl (HUD.out _ HV3.out) (by omega) (by first | omega | (simp; done) | (simp; omega)) hs3 ?_)
          intro v4 w4 ho hgrow
          have HO4 := Hid.mk7 ho.num
          have HB4 := Hid.mk7 (below_old' HB1.out (HR3.out.grown hgrow hs3 (fun g hg => (World.ownsRow.lt HO3.out g hg).1)))
          clear ho hgrow HO3 HR3
          go_wp2
          go_ret2
          exact ⟨_, tup16 E1.out.symm, by rw [E2.out]; have := HO4.out; rw [HM.out] at this; simpa using this, HB4.out⟩
      · obtain rfl : k = L.length := by omega
        have hcn : L.length ≤ cap := by obtain ⟨_, _, e, hc, _⟩ := HV1.out; cases e; omega
        have hw1 := HB1.out.size
        have dk : decide ((L.length : Int) < (L.length : Int)) = false := decide_eq_false (by omega)
        have dk2 : decide (L.length < L.length) = false := decide_eq_false hlt
        obtain ⟨hc, hmem⟩ := cntL_at (y := y) HR.out hk HK.out (fun z hz => by rw [List.getElem?_eq_none (Nat.le_refl _)] at hz; cases hz)
        have hnm : ¬ y ∈ L := fun hm => by have := hmem.1 hm; rw [List.getElem?_eq_none (Nat.le_refl _)] at this; cases this
        by_cases hf : L.length = 60
        · have df : ((L.length : Int) == 60) = true := by simpa using (by omega : (L.length : Int) = 60)
          obtain ⟨e1, e2⟩ := pb_full HOK.out hnm hf
          have E1 := Hid.mk7 e1
          have E2 := Hid.mk7 e2
          clear HK hc hmem e1 e2 hnm hf
          go_wp2
          go_ret2
          exact ⟨_, tup16 E1.out.symm, nat_nil' E2.out, HB1.out⟩
        have df : ((L.length : Int) == 60) = false := by simpa using (by omega : ¬ (L.length : Int) = 60)
        obtain ⟨e1, e2⟩ := pb_new HOK.out hnm hf
        rw [insK_eq HR.out, hc, List.take_length, List.drop_length] at e2
        have E1 := Hid.mk7 e1
        have E2 := Hid.mk7 e2
        clear HK hc hmem e1 e2 hnm hf
        by_cases hL : L = []
        · subst hL
          by_cases hz : cap = 0
          · subst hz
            go_wp2_with (at_builtin; refine wpList_append_row16 rfl _ _ rfl wr.heap.size _ _ [] ([] : List Int) rfl (OwnZ.nil _ _) rfl (nat_empty rfl (fun _ => rfl)) (by simp) (by first | omega | (simp; done) | (simp; omega)) (Nat.le_refl _) ?_)
            intro v2 w2 ho hgrow
            have HO2 : Hid (OwnZ w2 wr.heap.size v2 ([] : List Int)) := ho
            have HR2 : Hid (Below wr.heap.size wr w2) := (Below.refl _ wr).grown hgrow (Nat.le_refl _) (fun _ h => by cases h)
            have hs2 := HR2.out.size
            clear ho hgrow
            obtain ⟨ta, tc, hta, _⟩ := HO2.out.shape
            subst hta
            have htl : ([] : List Int).length ≤ 60 := by first | omega | (simp; done) | (simp; omega)
            go_wp2_with (at_builtin; refine wpList_append_row16 rfl _ _ rfl wr.heap.size _ _ ([] : List Int) [y] rfl (HO2.out.alloc _) rfl (nat_one rfl _ _) (by omega) (by simp) (by simp; omega) ?_)
            intro v3 w3 ho hgrow
            have ho' : OwnZ w3 wr.heap.size v3 (([] : List Int) ++ [y]) := ho
            obtain ⟨M, hM⟩ : ∃ M, M = ([] : List Int) ++ [y] := ⟨_, rfl⟩
            rw [← hM] at ho'
            have htm : M.length ≤ 61 := by rw [hM, List.length_append]; simp; try omega
            have HM := Hid.mk7 hM
            have HO3 := Hid.mk7 ho'
            have HR3 : Hid (Below wr.heap.size wr w3) := (below16 HR2.out _).grown hgrow (by simp; omega) (fun g hg => (World.ownsRow.lt HO2.out g hg).1)
            have HV3 := Hid.mk7 (HV1.out.later HR3.out)
            have hs3 := HR3.out.size
            clear ho ho' hM hgrow HO2 HR2 hs2
            obtain ⟨tb, td, htb, _⟩ := HO3.out.shape
            subst htb
            go_wp2_with (at_builtin; refine wpList_append_row16 rfl _ _ rfl wr.heap.size _ _ M ([] : List Int) rfl HO3.out rfl (nat_empty rfl (fun _ => rfl)) (by omega) (by first | omega | (simp; done) | (simp; omega)) hs3 ?_)
            intro v4 w4 ho hgrow
            have HO4 := Hid.mk7 ho.num
            have HB4 := Hid.mk7 (below_old' HB1.out (HR3.out.grown hgrow hs3 (fun g hg => (World.ownsRow.lt HO3.out g hg).1)))
            clear ho hgrow HO3 HR3
            go_wp2
            go_ret2
            exact ⟨_, tup16 E1.out.symm, by rw [E2.out]; have := HO4.out; rw [HM.out] at this; simpa using this, HB4.out⟩
          · obtain ⟨ad, rfl⟩ : ∃ ad, a = some ad := by
              obtain ⟨_, _, e, _, hn, _⟩ := HV1.out
              cases e
              cases a with
              | none => exact absurd (hn rfl) hz
              | some ad => exact ⟨ad, rfl⟩
            go_wp2_with (at_builtin; refine wpList_append_row16 rfl _ _ rfl wr.heap.size _ _ [] ([] : List Int) rfl (OwnZ.nil _ _) rfl (nat_empty rfl (fun e => by cases e)) (by simp) (by first | omega | (simp; done) | (simp; omega)) (Nat.le_refl _) ?_)
            intro v2 w2 ho hgrow
            have HO2 : Hid (OwnZ w2 wr.heap.size v2 ([] : List Int)) := ho
            have HR2 : Hid (Below wr.heap.size wr w2) := (Below.refl _ wr).grown hgrow (Nat.le_refl _) (fun _ h => by cases h)
            have hs2 := HR2.out.size
            clear ho hgrow
            obtain ⟨ta, tc, hta, _⟩ := HO2.out.shape
            subst hta
            have htl : ([] : List Int).length ≤ 60 := by first | omega | (simp; done) | (simp; omega)
            go_wp2_with (at_builtin; refine wpList_append_row16 rfl _ _ rfl wr.heap.size _ _ ([] : List Int) [y] rfl (HO2.out.alloc _) rfl (nat_one rfl _ _) (by omega) (by simp) (by simp; omega) ?_)
            intro v3 w3 ho hgrow
            have ho' : OwnZ w3 wr.heap.size v3 (([] : List Int) ++ [y]) := ho
            obtain ⟨M, hM⟩ : ∃ M, M = ([] : List Int) ++ [y] := ⟨_, rfl⟩
            rw [← hM] at ho'
            have htm : M.length ≤ 61 := by rw [hM, List.length_append]; simp; try omega
            have HM := Hid.mk7 hM
            have HO3 := Hid.mk7 ho'
            have HR3 : Hid (Below wr.heap.size wr w3) := (below16 HR2.out _).grown hgrow (by simp; omega) (fun g hg => (World.ownsRow.lt HO2.out g hg).1)
            have HV3 := Hid.mk7 (HV1.out.later HR3.out)
            have hs3 := HR3.out.size
            clear ho ho' hM hgrow HO2 HR2 hs2
            obtain ⟨tb, td, htb, _⟩ := HO3.out.shape
            subst htb
            go_wp2_with (at_builtin; refine wpList_append_row16 rfl _ _ rfl wr.heap.size _ _ M ([] : List Int) rfl HO3.out rfl (nat_empty rfl (fun e => by cases e)) (by omega) (by first | omega | (simp; done) | (simp; omega)) hs3 ?_)
            intro v4 w4 ho hgrow
            have HO4 := Hid.mk7 ho.num
            have HB4 := Hid.mk7 (below_old' HB1.out (HR3.out.grown hgrow hs3 (fun g hg => (World.ownsRow.lt HO3.out g hg).1)))
            clear ho hgrow HO3 HR3
            go_wp2
            go_ret2
            exact ⟨_, tup16 E1.out.symm, by rw [E2.out]; have := HO4.out; rw [HM.out] at this; simpa using this, HB4.out⟩
        · have hpos : 0 < L.length := List.length_pos_iff.2 hL
          obtain ⟨g, off, hga, _⟩ := nat_cell HV1.out (List.getElem?_eq_getElem hpos)
          subst hga
          have hz1 : ¬ cap = 0 := by omega
          by_cases hz : cap = L.length
          · subst hz
            clear hL
            go_wp2_with (at_builtin; refine wpList_append_row16 rfl _ _ rfl wr.heap.size _ _ [] L rfl (OwnZ.nil _ _) rfl (by have := nat_take (c := L.length) HV1.out (Nat.le_refl _) (Nat.le_refl _) rfl; rwa [List.take_length] at this) (by simp) (by first | omega | (simp; done) | (simp; omega)) (Nat.le_refl _) ?_)
            intro v2 w2 ho hgrow
            have HO2 : Hid (OwnZ w2 wr.heap.size v2 L) := ho
            have HR2 : Hid (Below wr.heap.size wr w2) := (Below.refl _ wr).grown hgrow (Nat.le_refl _) (fun _ h => by cases h)
            have hs2 := HR2.out.size
            clear ho hgrow
            obtain ⟨ta, tc, hta, _⟩ := HO2.out.shape
            subst hta
            have htl : L.length ≤ 60 := by first | omega | (simp; done) | (simp; omega)
            go_wp2_with (at_builtin; refine wpList_append_row16 rfl _ _ rfl wr.heap.size _ _ L [y] rfl (HO2.out.alloc _) rfl (nat_one rfl _ _) (by omega) (by simp) (by simp; omega) ?_)
            intro v3 w3 ho hgrow
            have ho' : OwnZ w3 wr.heap.size v3 (L ++ [y]) := ho
            obtain ⟨M, hM⟩ : ∃ M, M = L ++ [y] := ⟨_, rfl⟩
            rw [← hM] at ho'
            have htm : M.length ≤ 61 := by rw [hM, List.length_append]; simp; try omega
            have HM := Hid.mk7 hM
            have HO3 := Hid.mk7 ho'
            have HR3 : Hid (Below wr.heap.size wr w3) := (below16 HR2.out _).grown hgrow (by simp; omega) (fun g hg => (World.ownsRow.lt HO2.out g hg).1)
            have HV3 := Hid.mk7 (HV1.out.later HR3.out)
            have hs3 := HR3.out.size
            clear ho ho' hM hgrow HO2 HR2 hs2
            obtain ⟨tb, td, htb, _⟩ := HO3.out.shape
            subst htb
            go_wp2_with (at_builtin; refine wpList_append_row16 rfl _ _ rfl wr.heap.size _ _ M ([] : List Int) rfl HO3.out rfl (nat_empty rfl (fun e => by cases e)) (by omega) (by first | omega | (simp; done) | (simp; omega)) hs3 ?_)
            intro v4 w4 ho hgrow
            have HO4 := Hid.mk7 ho.num
            have HB4 := Hid.mk7 (below_old' HB1.out (HR3.out.grown hgrow hs3 (fun g hg => (World.ownsRow.lt HO3.out g hg).1)))
            clear ho hgrow HO3 HR3
            go_wp2
            go_ret2
            exact ⟨_, tup16 E1.out.symm, by rw [E2.out]; have := HO4.out; rw [HM.out] at this; simpa using this, HB4.out⟩
          · have hz2 : ¬ cap = L.length := hz
            clear hL
            go_wp2_with (at_builtin; refine wpList_append_row16 rfl _ _ rfl wr.heap.size _ _ [] L rfl (OwnZ.nil _ _) rfl (by have := nat_take (c := cap) HV1.out (Nat.le_refl _) hcn rfl; rwa [List.take_length] at this) (by simp) (by first | omega | (simp; done) | (simp; omega)) (Nat.le_refl _) ?_)
            intro v2 w2 ho hgrow
            have HO2 : Hid (OwnZ w2 wr.heap.size v2 L) := ho
            have HR2 : Hid (Below wr.heap.size wr w2) := (Below.refl _ wr).grown hgrow (Nat.le_refl _) (fun _ h => by cases h)
            have hs2 := HR2.out.size
            clear ho hgrow
            obtain ⟨ta, tc, hta, _⟩ := HO2.out.shape
            subst hta
            have htl : L.length ≤ 60 := by first | omega | (simp; done) | (simp; omega)
            go_wp2_with (at_builtin; refine wpList_append_row16 rfl _ _ rfl wr.heap.size _ _ L [y] rfl (HO2.out.alloc _) rfl (nat_one rfl _ _) (by omega) (by simp) (by simp; omega) ?_)
            intro v3 w3 ho hgrow
            have ho' : OwnZ w3 wr.heap.size v3 (L ++ [y]) := ho
            obtain ⟨M, hM⟩ : ∃ M, M = L ++ [y] := ⟨_, rfl⟩
            rw [← hM] at ho'
            have htm : M.length ≤ 61 := by rw [hM, List.length_append]; simp; try omega
            have HM := Hid.mk7 hM
            have HO3 := Hid.mk7 ho'
            have HR3 : Hid (Below wr.heap.size wr w3) := (below16 HR2.out _).grown hgrow (by simp; omega) (fun g hg => (World.ownsRow.lt HO2.out g hg).1)
            have HV3 := Hid.mk7 (HV1.out.later HR3.out)
            have hs3 := HR3.out.size
            clear ho ho' hM hgrow HO2 HR2 hs2
            obtain ⟨tb, td, htb, _⟩ := HO3.out.shape
            subst htb
            go_wp2_with (at_builtin; refine wpList_append_row16 rfl _ _ rfl wr.heap.size _ _ M ([] : List Int) rfl HO3.out rfl (nat_empty rfl (fun e => by cases e)) (by omega) (by first | omega | (simp; done) | (simp; omega)) hs3 ?_)
            intro v4 w4 ho hgrow
            have HO4 := Hid.mk7 ho.num
            have HB4 := Hid.mk7 (below_old' HB1.out (HR3.out.grown hgrow hs3 (fun g hg => (World.ownsRow.lt HO3.out g hg).1)))
            clear ho hgrow HO3 HR3
            go_wp2
            go_ret2
            exact ⟨_, tup16 E1.out.symm, by rw [E2.out]; have := HO4.out; rw [HM.out] at this; simpa using this, HB4.out⟩
end Go.Proofs.YtafhogfbjklboaaDoor
