/- The reference's Not, Expand, Shrink, Delete. -/
import Derived.Test.YtkiiknaoljppdaaAlgRefTwo
import Derived.Lib.BufferRead
namespace Go.Proofs.Ytkiiknaoljppdaa
open Go.RowKit Go.Sort Go.Lib
set_option linter.unusedSimpArgs false
set_option linter.unusedVariables false

set_option maxHeartbeats 800000 in
theorem refTwo_len {w : World} {u v : Value} {L M : List Int} (op : Int) (h1 : NumAt .i64 w u L) (h2 : NumAt .i64 w v M) (hL : L.length ≤ 20000) (hM : M.length ≤ 20000) (hne : L.length ≠ M.length) :
    Calls Try.prog 14 #[.int .i64 op, u, v] w fun e w' => e = .returned (.tuple #[.slice none 0 0, .int .i64 80]) ∧ Below w.heap.size w w' := by
  obtain ⟨a, cap, rfl, hcap, _⟩ := h1
  obtain ⟨a2, cap2, rfl, hcap2, _⟩ := h2
  have d0 : ((L.length : Int) != (M.length : Int)) = true := by simp; omega
  have d1 : (L.length != M.length) = true := by simpa using hne
  go_enter Try.func14, Try.ntmps14
  go_wp2
  go_ret2
  exact ⟨rfl, Below.refl _ _⟩
set_option maxHeartbeats 800000 in
theorem refShrink_len {w : World} {u v : Value} {L M : List Int} (h1 : NumAt .i64 w u L) (h2 : NumAt .i64 w v M) (hL : L.length ≤ 20000) (hM : M.length ≤ 20000) (hne : L.length ≠ M.length) :
    Calls Try.prog 21 #[u, v] w fun e w' => e = .returned (.tuple #[.slice none 0 0, .int .i64 80]) ∧ Below w.heap.size w w' := by
  obtain ⟨a, cap, rfl, hcap, _⟩ := h1
  obtain ⟨a2, cap2, rfl, hcap2, _⟩ := h2
  have d0 : ((L.length : Int) != (M.length : Int)) = true := by simp; omega
  have d1 : (L.length != M.length) = true := by simpa using hne
  go_enter Try.func21, Try.ntmps21
  go_wp2
  go_ret2
  exact ⟨rfl, Below.refl _ _⟩
set_option maxHeartbeats 4000000 in
set_option maxRecDepth 100000 in
theorem refNot_any {w : World} {u : Value} {L : List Int} (h1 : NumAt .i64 w u L) (hL : L.length ≤ 20000) :
    Calls Try.prog 26 #[u] w fun e w' => ∃ t, e = .returned t ∧ NumAt .i64 w' t (notL L) ∧ Below w.heap.size w w' := by
  obtain ⟨i0, hi, hz0, hz1, hz2⟩ := info_parts Try.info_int7
  obtain ⟨a, cap, rfl, hcap, hcells⟩ := h1
  have HC := Hid.mk7 hcells
  obtain ⟨F, hF⟩ : ∃ F, notL L = F := ⟨_, rfl⟩
  have HF := Hid.mk7 hF
  have hFl : F.length = L.length := by rw [← hF]; simp [notL]
  rw [hF]
  clear hcells hF
  go_enter Try.func26, Try.ntmps26
  go_wp2_with (at_make; refine wpList_make_full _ rfl _ _ 24 rfl w.heap.size 3 i0 (.int .i64 0) 1 Try.underlying24 hi hz0 hz1 .i64 .i64 _ _ L.length rfl rfl (by omega) (by omega) (by rw [hz2]; omega) (by unfold maxLen; omega) (Nat.le_refl _) ?_)
  intro w5 hown hgrow
  have b5 : Below w.heap.size w w5 := (Below.refl _ _).grown hgrow (Nat.le_refl _) (fun j hj => by cases hj)
  have HO5 : Hid (OwnI w5 w.heap.size (.slice (some ⟨w.heap.size, 0, none⟩) L.length L.length) (Fl F 0)) := by rw [fl_zero, hFl]; exact own_made (by simpa [Value.cells] using hown)
  clear hown hgrow
  generalize hgn : w.heap.size = n0 at *
  have hgn2 := hgn
  clear hgn
  go_wp2
  go_loopw [4] (fun iv wr => ∃ k : Nat, k ≤ L.length ∧ iv = .int .i64 (k : Nat) ∧ Hid (OwnI wr n0 (.slice (some ⟨n0, 0, none⟩) L.length L.length) (Fl F k)) ∧ Below n0 w wr) (fun iv _ => L.length - (intOf iv).toNat)
  case atStart => exact ⟨0, Nat.zero_le _, rfl, HO5, b5⟩
  case round =>
    clear HO5 b5
    obtain ⟨k, hk, rfl, HO, hb⟩ := hrel
    by_cases hlt : k < L.length
    · obtain ⟨x, hx⟩ : ∃ r, L[k]? = some r := ⟨L[k], List.getElem?_eq_getElem hlt⟩
      obtain ⟨g, off, rfl, q0⟩ := HC.out k _ hx
      have hbb : Below w.heap.size w wr := hb.mono (by rw [hgn2]; exact Nat.le_refl _)
      have c0 := cell_later7 hbb (Nat.le_refl _) q0
      have hFk : F[k]? = some (if x = 0 then 1 else 0) := by rw [← HF.out]; unfold notL; rw [List.getElem?_map, hx]; rfl
      have hfl := fl_len F k (by omega)
      rw [hFl] at hfl
      have hN : n0 ≤ wr.heap.size := by have := hb.size; rw [hgn2] at this; exact this
      by_cases hx0 : x = 0
      · have dx : (x == 0) = true := by simpa using hx0
        rw [if_pos hx0] at hFk
        obtain ⟨s1, s2⟩ := ownI_stored HO.out hfl k 1
        have HO3 : Hid (OwnI (wr.setCell ⟨n0, k, none⟩ (.int .i64 1)) n0 (.slice (some ⟨n0, 0, none⟩) L.length L.length) (Fl F (k + 1))) := by rw [← fl_set hFk]; exact s1
        have hb3 : Below n0 w (wr.setCell ⟨n0, k, none⟩ (.int .i64 1)) := hb.grown s2 hN (fun j hj => by cases hj; exact Nat.le_refl _)
        obtain ⟨d0, d1⟩ := ownI_at HO.out hfl (fl_get (F := F) (k := k) (by omega))
        clear s1 s2 HO hx0 q0 hx hFk hbb
        go_wp2
        go_roundw
        case rel => exact ⟨k + 1, by omega, by go_num, HO3, hb3⟩
        case measure => simp [intOf]; omega
      · have dx : (x == 0) = false := by simpa using hx0
        rw [if_neg hx0] at hFk
        have HO3 : Hid (OwnI wr n0 (.slice (some ⟨n0, 0, none⟩) L.length L.length) (Fl F (k + 1))) := by rw [← fl_same hFk]; exact HO.out
        clear HO hx0 q0 hx hFk hbb
        go_wp2
        go_roundw
        case rel => exact ⟨k + 1, by omega, by go_num, HO3, hb⟩
        case measure => simp [intOf]; omega
    · obtain rfl : k = L.length := by omega
      have HNM : Hid (NumAt .i64 wr (.slice (some ⟨n0, 0, none⟩) L.length L.length) F) := by
        have h1 := HO.out.num
        rw [← hFl, fl_all] at h1
        rw [← hFl]
        exact h1
      rw [← hgn2] at hb
      clear HO
      go_wp2
      go_ret
      exact ⟨_, rfl, HNM.out, hb⟩
theorem zrc_snoc {M : List Int} {k : Nat} {c : Int} (h : M[k]? = some c) : zrc (M.take (k + 1)) = zrc (M.take k) + if c = 0 then 1 else 0 := by
  rw [take_snoc7 h, zrc_append]
  congr 1
  by_cases e : c = 0
  · subst e; rfl
  · simp [zrc, e]
theorem zrc_take_le (M : List Int) (k : Nat) : zrc (M.take k) ≤ zrc M := by
  have e := congrArg zrc (List.take_append_drop k M)
  rw [zrc_append] at e
  omega
theorem expd_at : ∀ (M L : List Int) (k : Nat) (c : Int), M[k]? = some c → (expd L M)[k]? = some (if c = 0 then (L[zrc (M.take k)]?).getD 0 else 0)
  | [], L, k, c, h => by simp at h
  | b :: M, L, 0, c, h => by
    simp at h
    subst h
    show (if b = 0 then L.headD 0 :: expd L.tail M else 0 :: expd L M)[0]? = _
    by_cases e : b = 0
    · rw [if_pos e, if_pos e]; cases L <;> rfl
    · rw [if_neg e, if_neg e]; rfl
  | b :: M, L, k + 1, c, h => by
    have h' : M[k]? = some c := by simpa using h
    have ez : zrc ((b :: M).take (k + 1)) = (if b = 0 then 1 else 0) + zrc (M.take k) := by
      have := zrc_append [b] (M.take k)
      rw [show [b] ++ M.take k = (b :: M).take (k + 1) from rfl] at this
      rw [this]
      congr 1
      by_cases e : b = 0
      · subst e; rfl
      · simp [zrc, e]
    rw [ez]
    show (if b = 0 then L.headD 0 :: expd L.tail M else 0 :: expd L M)[k + 1]? = _
    by_cases e : b = 0
    · rw [if_pos e, if_pos e, List.getElem?_cons_succ, expd_at M L.tail k c h']
      congr 2
      rw [Nat.add_comm 1]
      cases L <;> rfl
    · rw [if_neg e, if_neg e, List.getElem?_cons_succ, expd_at M L k c h', Nat.zero_add]
set_option maxHeartbeats 4000000 in
set_option maxRecDepth 100000 in
theorem refExpand_any {w : World} {u v : Value} {L M : List Int} (h1 : NumAt .i64 w u L) (h2 : NumAt .i64 w v M) (hL : L.length ≤ 20000) (hM : M.length ≤ 20000) :
    Calls Try.prog 19 #[u, v] w fun e w' => (L.length ≠ zrc M ∧ e = .returned (.tuple #[.slice none 0 0, .int .i64 80]) ∨ L.length = zrc M ∧ 200 < (rle (expd L M)).length ∧ e = .returned (.tuple #[.slice none 0 0, .int .i64 70]) ∨ L.length = zrc M ∧ (rle (expd L M)).length ≤ 200 ∧ ∃ t, e = .returned (.tuple #[t, .int .i64 0]) ∧ NumAt .i64 w' t (expd L M)) ∧ Below w.heap.size w w' := by
  obtain ⟨i0, hi, hz0, hz1, hz2⟩ := info_parts Try.info_int7
  obtain ⟨a, cap, rfl, hcap, hcells⟩ := h1
  obtain ⟨a2, cap2, rfl, hcap2, hcells2⟩ := h2
  have HC := Hid.mk7 hcells
  have HC2 := Hid.mk7 hcells2
  clear hcells hcells2
  go_enter Try.func19, Try.ntmps19
  go_wp2
  go_loopw [6, 7] (fun nv iv wr => ∃ k Z : Nat, k ≤ M.length ∧ iv = .int .i64 (k : Nat) ∧ nv = .int .i64 (Z : Nat) ∧ Z ≤ k ∧ Hid (zrc (M.take k) = Z) ∧ w = wr) (fun _ iv _ => M.length - (intOf iv).toNat)
  case atStart => exact ⟨0, 0, Nat.zero_le _, rfl, rfl, Nat.le_refl _, rfl, rfl⟩
  case round =>
    obtain ⟨k, Z, hk, rfl, rfl, hZk, HZ, rfl⟩ := hrel
    by_cases hlt : k < M.length
    · obtain ⟨y, hy⟩ : ∃ r, M[k]? = some r := ⟨M[k], List.getElem?_eq_getElem hlt⟩
      obtain ⟨g2, off2, rfl, c1⟩ := HC2.out k _ hy
      have HS := Hid.mk7 (zrc_snoc hy)
      by_cases hy0 : y = 0
      · have dy : (y == 0) = true := by simpa using hy0
        have HZ2 : Hid (zrc (M.take (k + 1)) = Z + 1) := by have := HS.out; rw [if_pos hy0, HZ.out] at this; exact this
        clear hy0 hy HS
        go_wp2
        go_roundw
        case rel => exact ⟨k + 1, Z + 1, by omega, by go_num, by go_num, by omega, HZ2, trivial⟩
        case measure => simp [intOf]; omega
      · have dy : (y == 0) = false := by simpa using hy0
        have HZ2 : Hid (zrc (M.take (k + 1)) = Z) := by have := HS.out; rw [if_neg hy0, HZ.out] at this; exact this
        clear hy0 hy HS
        go_wp2
        go_roundw
        case rel => exact ⟨k + 1, Z, by omega, by go_num, rfl, by omega, HZ2, trivial⟩
        case measure => simp [intOf]; omega
    · obtain rfl : k = M.length := by omega
      have HZM : Hid (zrc M = Z) := by have := HZ.out; rw [List.take_length] at this; exact this
      clear HZ
      by_cases hne : Z ≠ L.length
      · have d0 : ((Z : Int) != (L.length : Int)) = true := by simp; omega
        have d1 : (Z != L.length) = true := by simpa using hne
        go_wp2
        go_ret2
        exact ⟨Or.inl ⟨by rw [HZM.out]; omega, rfl⟩, Below.refl _ _⟩
      have heq : Z = L.length := by omega
      have d0 : ((Z : Int) != (L.length : Int)) = false := by simp; omega
      have d1 : (Z != L.length) = false := by simp; omega
      have HLZ : Hid (L.length = zrc M) := by show _ = _; rw [HZM.out]; omega
      obtain ⟨F, hF⟩ : ∃ F, expd L M = F := ⟨_, rfl⟩
      have HF := Hid.mk7 hF
      have hFl : F.length = M.length := by rw [← hF, expd_len]
      clear hF hne heq HZM
      go_wp2_with (at_make; refine wpList_make_full _ rfl _ _ 24 rfl w.heap.size 3 i0 (.int .i64 0) 1 Try.underlying24 hi hz0 hz1 .i64 .i64 _ _ M.length rfl rfl (by omega) (by omega) (by rw [hz2]; omega) (by unfold maxLen; omega) (Nat.le_refl _) ?_)
      intro w5 hown hgrow
      have b5 : Below w.heap.size w w5 := (Below.refl _ _).grown hgrow (Nat.le_refl _) (fun j hj => by cases hj)
      have HO5 : Hid (OwnI w5 w.heap.size (.slice (some ⟨w.heap.size, 0, none⟩) M.length M.length) (Fl F 0)) := by rw [fl_zero, hFl]; exact own_made (by simpa [Value.cells] using hown)
      clear hown hgrow d0 d1
      have hgn : ∃ n0, w.heap.size = n0 := ⟨_, rfl⟩
      obtain ⟨n0, hgn2⟩ := hgn
      rw [hgn2] at HO5 b5
      have hsl : Value.slice (some ⟨w.heap.size, 0, none⟩) M.length M.length = .slice (some ⟨n0, 0, none⟩) M.length M.length := by rw [hgn2]
      rw [hsl]
      clear hsl
      have HGN := Hid.mk7 hgn2
      clear hgn2
      go_wp2
      go_loopw [9, 10] (fun jv iv wr => ∃ k j : Nat, k ≤ M.length ∧ iv = .int .i64 (k : Nat) ∧ jv = .int .i64 (j : Nat) ∧ j ≤ k ∧ Hid (zrc (M.take k) = j) ∧ Hid (OwnI wr n0 (.slice (some ⟨n0, 0, none⟩) M.length M.length) (Fl F k)) ∧ Below n0 w wr) (fun _ iv _ => M.length - (intOf iv).toNat)
      case atStart => exact ⟨0, 0, Nat.zero_le _, rfl, rfl, Nat.le_refl _, rfl, HO5, b5⟩
      case round =>
        clear HO5 b5
        obtain ⟨k, j, hk, rfl, rfl, hjk, HJ, HO, hb⟩ := hrel
        have hb0 : Below w.heap.size w wr := hb.mono (by rw [HGN.out]; exact Nat.le_refl _)
        by_cases hlt : k < M.length
        · obtain ⟨y, hy⟩ : ∃ r, M[k]? = some r := ⟨M[k], List.getElem?_eq_getElem hlt⟩
          obtain ⟨g2, off2, rfl, q1⟩ := HC2.out k _ hy
          have c1 := cell_later7 hb0 (Nat.le_refl _) q1
          have HS := Hid.mk7 (zrc_snoc hy)
          have hFk := expd_at M L k y hy
          rw [HF.out, HJ.out] at hFk
          have hfl := fl_len F k (by omega)
          rw [hFl] at hfl
          have hN : n0 ≤ wr.heap.size := by have := hb0.size; rw [HGN.out] at this; exact this
          by_cases hy0 : y = 0
          · have dy : (y == 0) = true := by simpa using hy0
            rw [if_pos hy0] at hFk
            have HJ2 : Hid (zrc (M.take (k + 1)) = j + 1) := by have := HS.out; rw [if_pos hy0, HJ.out] at this; exact this
            have hjL : j < L.length := by
              have h1 := zrc_take_le M (k + 1)
              rw [HJ2.out, ← HLZ.out] at h1
              omega
            obtain ⟨x, hx⟩ : ∃ r, L[j]? = some r := ⟨L[j], List.getElem?_eq_getElem hjL⟩
            obtain ⟨g, off, rfl, q0⟩ := HC.out j _ hx
            have c0 := cell_later7 hb0 (Nat.le_refl _) q0
            rw [hx] at hFk
            have hFk2 : F[k]? = some x := hFk
            obtain ⟨s1, s2⟩ := ownI_stored HO.out hfl k x
            have HO3 : Hid (OwnI (wr.setCell ⟨n0, k, none⟩ (.int .i64 x)) n0 (.slice (some ⟨n0, 0, none⟩) M.length M.length) (Fl F (k + 1))) := by rw [← fl_set hFk2]; exact s1
            have hb3 : Below n0 w (wr.setCell ⟨n0, k, none⟩ (.int .i64 x)) := hb.grown s2 hN (fun j hj => by cases hj; exact Nat.le_refl _)
            obtain ⟨d0, d1⟩ := ownI_at HO.out hfl (fl_get (F := F) (k := k) (by omega))
            clear s1 s2 HO hy0 hy HS hFk hFk2 hx q0 q1 hb0
            go_wp2
            go_roundw
            case rel => exact ⟨k + 1, j + 1, by omega, by go_num, by go_num, by omega, HJ2, HO3, hb3⟩
            case measure => simp [intOf]; omega
          · have dy : (y == 0) = false := by simpa using hy0
            rw [if_neg hy0] at hFk
            have HJ2 : Hid (zrc (M.take (k + 1)) = j) := by have := HS.out; rw [if_neg hy0, HJ.out] at this; exact this
            have HO3 : Hid (OwnI wr n0 (.slice (some ⟨n0, 0, none⟩) M.length M.length) (Fl F (k + 1))) := by rw [← fl_same hFk]; exact HO.out
            clear HO hy0 hy HS hFk q1 hb0
            go_wp2
            go_roundw
            case rel => exact ⟨k + 1, j, by omega, by go_num, rfl, by omega, HJ2, HO3, hb⟩
            case measure => simp [intOf]; omega
        · obtain rfl : k = M.length := by omega
          have HNM : Hid (NumAt .i64 wr (.slice (some ⟨n0, 0, none⟩) M.length M.length) F) := by
            have h1 := HO.out.num
            rw [← hFl, fl_all] at h1
            rw [← hFl]
            exact h1
          have HTD := Hid.mk7 (told_any HNM.out (by omega))
          clear HO
          go_wp2_with fail
          refine HTD.out.mono ?_
          rintro e w7 ⟨ho, b7⟩
          have g7 := hb0.trans (b7.mono hb0.size)
          have HN7 := Hid.mk7 (HNM.out.later b7)
          rcases ho with ⟨hm, rfl⟩ | ⟨hm, rfl⟩
          · go_wp2
            go_ret2
            exact ⟨Or.inr (Or.inl ⟨HLZ.out, by rw [HF.out]; exact hm, rfl⟩), g7⟩
          · go_wp2
            go_ret2
            exact ⟨Or.inr (Or.inr ⟨HLZ.out, by rw [HF.out]; exact hm, _, rfl, by rw [HF.out]; exact HN7.out⟩), g7⟩
set_option maxHeartbeats 4000000 in
set_option maxRecDepth 100000 in
theorem refShrink_any {w : World} {u v : Value} {L M : List Int} (h1 : NumAt .i64 w u L) (h2 : NumAt .i64 w v M) (hL : Ok8 L) (hM : Ok8 M) (hlen : L.length = M.length) :
    Calls Try.prog 21 #[u, v] w fun e w' => (200 < (rle (tog sF L M)).length ∧ e = .returned (.tuple #[.slice none 0 0, .int .i64 70]) ∨ (rle (tog sF L M)).length ≤ 200 ∧ ∃ t, e = .returned (.tuple #[t, .int .i64 0]) ∧ NumAt .i64 w' t (tog sF L M)) ∧ Below w.heap.size w w' := by
  obtain ⟨a, cap, rfl, hcap, hcells⟩ := h1
  obtain ⟨a2, cap2, rfl, hcap2, hcells2⟩ := h2
  have HC := Hid.mk7 hcells
  have HC2 := Hid.mk7 hcells2
  have hMl : M.length ≤ 20000 := hM.1
  have HOL := Hid.mk7 hL
  have HOM := Hid.mk7 hM
  have HLL : Hid (L.length = M.length) := hlen
  rw [hlen] at hcap ⊢
  clear hcells hcells2 hlen hL hM
  go_enter Try.func21, Try.ntmps21
  go_wp2
  go_loopw [6, 7] (fun ov iv wr => ∃ (k : Nat) (S : List Int), k ≤ M.length ∧ iv = .int .i64 (k : Nat) ∧ S.length ≤ k ∧ Hid (tog sF L M = S ++ tog sF (L.drop k) (M.drop k)) ∧ Hid (OwnI wr w.heap.size ov S) ∧ Below w.heap.size w wr) (fun _ iv _ => M.length - (intOf iv).toNat)
  case atStart => exact ⟨0, [], Nat.zero_le _, rfl, Nat.le_refl _, rfl, OwnI.nil _ _, Below.refl _ _⟩
  case round =>
    obtain ⟨k, S, hk, rfl, hSk, HS, HO, hb⟩ := hrel
    by_cases hlt : k < M.length
    · obtain ⟨x, hx⟩ : ∃ r, L[k]? = some r := ⟨L[k]'(by rw [HLL.out]; exact hlt), List.getElem?_eq_getElem _⟩
      obtain ⟨y, hy⟩ : ∃ r, M[k]? = some r := ⟨M[k], List.getElem?_eq_getElem hlt⟩
      obtain ⟨g, off, rfl, q0⟩ := HC.out k _ hx
      obtain ⟨g2, off2, rfl, q1⟩ := HC2.out k _ hy
      have c0 := cell_later7 hb (Nat.le_refl _) q0
      have c1 := cell_later7 hb (Nat.le_refl _) q1
      have hxb := HOL.out.2 x (List.mem_of_getElem? hx)
      have hyb := HOM.out.2 y (List.mem_of_getElem? hy)
      have hdx : L.drop k = x :: L.drop (k + 1) := by
        have hlt := (List.getElem?_eq_some_iff.1 hx).1
        rw [List.drop_eq_getElem_cons hlt]; congr 1; rw [List.getElem?_eq_getElem hlt] at hx; exact Option.some.inj hx
      have hdy : M.drop k = y :: M.drop (k + 1) := by
        rw [List.drop_eq_getElem_cons hlt]; congr 1; rw [List.getElem?_eq_getElem hlt] at hy; exact Option.some.inj hy
      rw [hdx, hdy, zip_rec] at HS
      have hsz := hb.size
      clear hx hy q0 q1 hdx hdy
      by_cases hy0 : y = 0
      · have dy : (y == 0) = true := by simpa using hy0
        have HS2 : Hid (tog sF L M = (S ++ [x]) ++ tog sF (L.drop (k + 1)) (M.drop (k + 1))) := by
          show _ = _
          have e : sF x y = x := by unfold sF; rw [if_neg (by omega)]
          rw [HS.out, e, if_neg (by omega), List.append_assoc]
        clear HS hy0
        go_wp2_with (at_builtin; refine wpList_append_int rfl _ _ rfl w.heap.size _ S rfl (HO.out.later ((Below.refl _ _).alloc (Nat.le_refl _) _)) ⟨_, 0, none⟩ x rfl (cell_one8 _ _ _ 0 _ rfl) rfl (by omega) (by simp; omega) ?_)
        intro v' w3 hown' hgrow _
        have hb3 : Below w.heap.size w w3 := (hb.alloc hb.size _).grown hgrow (by simp; omega) (fun t ht => (ownI_lt HO.out ht).1)
        have HO3 := Hid.mk7 hown'
        clear hown' hgrow HO c0 c1
        go_wp2
        go_roundw
        case rel => exact ⟨k + 1, _, by omega, by go_num, by simp; omega, HS2, HO3, hb3⟩
        case measure => simp [intOf]; omega
      · have dy : (y == 0) = false := by simpa using hy0
        have HS2 : Hid (tog sF L M = S ++ tog sF (L.drop (k + 1)) (M.drop (k + 1))) := by
          show _ = _
          have e : sF x y = -1 := by unfold sF; rw [if_pos (by omega)]
          rw [HS.out, e, if_pos rfl]; rfl
        clear HS hy0
        go_wp2
        go_roundw
        case rel => exact ⟨k + 1, _, by omega, by go_num, by omega, HS2, HO, hb⟩
        case measure => simp [intOf]; omega
    · obtain rfl : k = M.length := by omega
      have hS2 : tog sF L M = S := by
        have := HS.out
        rw [List.drop_length, ← HLL.out, List.drop_length] at this
        simpa [tog] using this
      have HS2 := Hid.mk7 hS2
      have HNM := Hid.mk7 HO.out.num
      have HTD := Hid.mk7 (told_any HNM.out (by omega))
      obtain ⟨ao, co, rfl, _⟩ := id HNM.out
      clear HO HS hS2
      go_wp2_with fail
      refine HTD.out.mono ?_
      rintro e w7 ⟨ho, b7⟩
      have g7 := hb.trans (b7.mono hb.size)
      have HN7 := Hid.mk7 (HNM.out.later b7)
      rcases ho with ⟨hm, rfl⟩ | ⟨hm, rfl⟩
      · go_wp2
        go_ret2
        exact ⟨Or.inl ⟨by rw [HS2.out]; exact hm, rfl⟩, g7⟩
      · go_wp2
        go_ret2
        exact ⟨Or.inr ⟨by rw [HS2.out]; exact hm, _, rfl, by rw [HS2.out]; exact HN7.out⟩, g7⟩
end Go.Proofs.Ytkiiknaoljppdaa
