/- The reference's Two, the law's invert, few; what Told answers (layer 13). -/
import Derived.Test.YtiienebioebjpaaDoorComBld
import Derived.Test.YtiienebioebjpaaDoorComCw
import Derived.Test.YtiienebioebjpaaDoorDelRefIs
import Derived.Test.YtiienebioebjpaaDoorDelRefSame
namespace Go.Proofs.YtiienebioebjpaaDoor
open Go.RowKit Go.Sort Go.Lib
set_option linter.unusedSimpArgs false
set_option linter.unusedVariables false

set_option maxHeartbeats 2000000 in
set_option maxRecDepth 100000 in
theorem fewD13_any {w : World} {v : Value} {l : List El} (base : Int) (h : ElAt w v l) (hl : l.length ≤ maxLen) :
    Calls Tryd.prog 10 #[.agg #[.int .i64 base, v]] w fun e w' => e = .returned (.bool (fewD base l)) ∧ Below w.heap.size w w' := by
  obtain ⟨a, cap, rfl, _⟩ := id h
  have BB := Hid.mk7 (below_newE (Below.refl w.heap.size w) (.cells #[.int .i64 base, .slice a l.length cap] 24))
  have RD := Hid.mk7 (Rd.new w (.int .i64 base) (.slice a l.length cap))
  have HV := Hid.mk7 (h.alloc (.cells #[.int .i64 base, .slice a l.length cap] 24))
  clear h
  obtain ⟨_, _, hve, _, _, hcells⟩ := id HV.out
  cases hve
  have HC := Hid.mk7 hcells
  unfold maxLen at hl
  clear hcells HV
  have r0 := RD.out.c0
  have r1 := RD.out.c1
  go_enter Tryd.func10, Tryd.ntmps10
  go_wp2_with fail
  generalize w.alloc (.cells #[.int .i64 base, .slice a l.length cap] 24) = W0 at *
  go_wp2
  go_loopw [3] (fun iv wr => ∃ k : Nat, k ≤ l.length ∧ iv = .int .i64 (k : Nat) ∧ Hid ((l.take k).all (fun e => decide (e.2.2.length ≤ 200)) = true) ∧ Below W0.heap.size W0 wr) (fun iv _ => l.length - (intOf iv).toNat)
  case atStart => exact ⟨0, Nat.zero_le _, rfl, rfl, Below.refl _ _⟩
  case round =>
    obtain ⟨k, hk, rfl, HA, hb⟩ := hrel
    have s0 := (RD.out.later hb).c0
    have s1 := (RD.out.later hb).c1
    have hb2 := BB.out.trans (hb.mono BB.out.size)
    clear r0 r1
    by_cases hlt : k < l.length
    · obtain ⟨⟨f, t, T⟩, hr⟩ : ∃ r, l[k]? = some r := ⟨l[k], List.getElem?_eq_getElem hlt⟩
      obtain ⟨g, off, rfl, q0, q1, q2⟩ := HC.out k _ hr
      have c2 := cell_later7 hb (Nat.le_refl _) q2
      simp only at c2
      have HT2 := Hid.mk7 (all_take (p := fun e : El => decide (e.2.2.length ≤ 200)) hr)
      have HBAD := Hid.mk7 (all_bad (p := fun e : El => decide (e.2.2.length ≤ 200)) hr)
      have hs : (cacc T).size = T.length := cacc_size T
      clear q0 q1 q2 hr
      generalize cacc T = s at *
      by_cases h1 : 200 < s.size
      · have d1 : decide ((200 : Int) < (s.size : Int)) = true := decide_eq_true (by omega)
        have HF : Hid (fewD base l = false) := by show _ = _; unfold fewD; rw [HBAD.out (decide_eq_false (by simp only; omega)), Bool.false_and]
        go_wp2
        go_ret
        exact ⟨ret_boolE HF.out.symm, hb2⟩
      · have d1 : decide ((200 : Int) < (s.size : Int)) = false := decide_eq_false (by omega)
        have HA2 : Hid ((l.take (k + 1)).all (fun e => decide (e.2.2.length ≤ 200)) = true) := by show _ = _; rw [HT2.out, HA.out, Bool.true_and]; exact decide_eq_true (by simp only; omega)
        go_wp2
        go_roundw
        case rel => exact ⟨k + 1, by omega, by go_num, HA2, hb⟩
        case measure => simp [intOf]; omega
    · obtain rfl : k = l.length := by omega
      have HF : Hid (fewD base l = (decide (base ≤ 400) && decide ((l.length : Int) ≤ 70))) := by
        show _ = _
        have := HA.out
        rw [List.take_length] at this
        unfold fewD
        rw [this, Bool.true_and]
        congr 1
        exact decide_eq_decide.2 (by omega)
      by_cases hb4 : base ≤ 400
      · have e4 : decide (base ≤ 400) = true := decide_eq_true hb4
        rw [e4, Bool.true_and] at HF
        go_wp2
        go_ret
        exact ⟨ret_boolE HF.out.symm, hb2⟩
      · have e4 : decide (base ≤ 400) = false := decide_eq_false hb4
        rw [e4, Bool.false_and] at HF
        go_wp2
        go_ret
        exact ⟨ret_boolE HF.out.symm, hb2⟩
theorem fewD13_of {n : Int} {es : List El} (h : fewD n es = true) : Sm es 200 ∧ n ≤ 400 ∧ es.length ≤ 70 := by
  unfold fewD at h
  simp only [Bool.and_eq_true, decide_eq_true_eq] at h
  refine ⟨fun e he => ?_, h.2.1, h.2.2⟩
  exact of_decide_eq_true (List.all_eq_true.1 h.1 e he)
theorem rsame_self13 {w : World} {u v : Value} {es : List El} (base : Int) (h1 : ElAt w u es) (h2 : ElAt w v es) (hl : es.length ≤ 60) :
    Calls Tryd.prog 16 #[.agg #[.int .i64 base, u], .agg #[.int .i64 base, v]] w fun e w' => e = .returned (.bool true) ∧ RowKit.Below w.heap.size w w' := by
  have := rsame_any base base h1 h2 (by omega)
  rw [decide_eq_true ⟨rfl, rfl⟩] at this
  exact this
theorem ris_yes13 {w : World} {v : Value} {es : List El} {base : Int} (hi : isB base es = true) (h : ElAt w v es) :
    Calls Tryd.prog 12 #[.agg #[.int .i64 base, v]] w fun e w' => e = .returned (.bool true) ∧ RowKit.Below w.heap.size w w' := by
  have := ris_any base h ((dl_of hi).sm.mono (by unfold maxLen; omega))
  rw [hi] at this
  exact this
theorem ris_no13 {w : World} {v : Value} {es : List El} {base : Int} (hi : isB base es = false) (hsm : Sm es maxLen) (h : ElAt w v es) :
    Calls Tryd.prog 12 #[.agg #[.int .i64 base, v]] w fun e w' => e = .returned (.bool false) ∧ RowKit.Below w.heap.size w w' := by
  have := ris_any base h hsm
  rw [hi] at this
  exact this
/-- Told of cells that go up. -/
theorem told_rs {w : World} {v : Value} {base b1 er : Int} {cs : List Ce} {E zs : List El} (hb : base ≤ 20000) (h : KAt w v cs) (hu : Up base 0 cs) (hl : cs.length ≤ 20000) (hE : tld cs = E) (hr : Rs base E b1 zs er) :
    Calls Tryd.prog 14 #[.int .i64 base, v] w fun e w' => ∃ v', e = .returned (.tuple #[.agg #[.int .i64 b1, v'], .int .i64 er]) ∧ ElAt w' v' zs ∧ RowKit.Below w.heap.size w w' := by
  refine (told_up hb h hu hl).mono ?_
  rintro e w' ⟨ht, b⟩
  rw [hE] at ht
  unfold ToldV ToldR at ht
  rcases hr with ⟨h1, h2, rfl, rfl, rfl⟩ | ⟨h1, rfl, rfl, rfl⟩ | ⟨h1, h2, rfl, rfl, rfl⟩
  · rw [if_neg (by rw [h1]; simp), if_neg (by omega)] at ht
    obtain ⟨v', rfl, o⟩ := ht
    exact ⟨v', rfl, o.row, b⟩
  · rw [if_pos h1] at ht
    subst ht
    exact ⟨_, rfl, ElAt.nil _, b⟩
  · rw [if_neg (by rw [h1]; simp), if_pos h2] at ht
    subst ht
    exact ⟨_, rfl, ElAt.nil _, b⟩
theorem two_take {A B : List Ce} {k : Nat} {c : Ce} (hr : B[k]? = some c) : twoC A (B.take (k + 1)) = twoC A (B.take k) ++ [if c.1 < 0 then c else A.getD c.1.toNat (0, 0)] := by
  rw [take_snoc7 hr, twoC_append]; rfl
set_option maxHeartbeats 4000000 in
set_option maxRecDepth 100000 in
theorem rtwo_any {W : World} {u v : Value} {A B : List Ce} (hA : KAt W u A) (hB : KAt W v B) (hin : InC A.length B) (h1 : A.length ≤ 20000) (h2 : B.length ≤ 20000) :
    Calls Tryd.prog 15 #[u, v] W fun e w' => ∃ v', e = .returned v' ∧ KAt w' v' (twoC A B) ∧ RowKit.Below W.heap.size W w' := by
  obtain ⟨i0, hi0, hz0, hz1, hz2⟩ := info_parts Tryd.info_ce
  have HI := Hid.mk7 hi0
  obtain ⟨a, cap, rfl, hcap, hcells⟩ := hA
  obtain ⟨a2, cap2, rfl, hcap2, hcells2⟩ := hB
  have HC := Hid.mk7 hcells
  have HC2 := Hid.mk7 hcells2
  have HIN := Hid.mk7 hin
  clear hcells hcells2 hi0 hin
  go_enter Tryd.func15, Tryd.ntmps15
  go_wp2
  go_loopw [5, 6] (fun lv iv wr => ∃ k : Nat, k ≤ B.length ∧ iv = .int .i64 (k : Nat) ∧ Hid (OwnK wr W.heap.size lv (twoC A (B.take k))) ∧ RowKit.Below W.heap.size W wr) (fun _ iv _ => B.length - (intOf iv).toNat)
  case atStart => exact ⟨0, Nat.zero_le _, rfl, OwnK.nil _ _, RowKit.Below.refl _ _⟩
  case round =>
    obtain ⟨k, hk, rfl, HO, hb⟩ := hrel
    have hsz := hb.size
    by_cases hlt : k < B.length
    · obtain ⟨⟨x, b⟩, hr⟩ : ∃ r, B[k]? = some r := ⟨B[k], List.getElem?_eq_getElem hlt⟩
      obtain ⟨g, off, rfl, q0, q1⟩ := HC2.out k _ hr
      have c0 := cell_later7 hb (Nat.le_refl _) q0
      have c1 := cell_later7 hb (Nat.le_refl _) q1
      simp only at c0 c1
      have gl : g < wr.heap.size := World.block_lt_of_cell? wr ⟨g, _, none⟩ c0
      have HTK := Hid.mk7 (two_take (A := A) hr)
      have hin := HIN.out (x, b) (List.mem_of_getElem? hr)
      simp only at hin HTK
      have htl : (twoC A (B.take k)).length ≤ 20000 := by rw [twoC_len, List.length_take]; omega
      obtain ⟨C1, HC1⟩ : ∃ C1, Hid (twoC A (B.take k) = C1) := ⟨_, Hid.mk7 rfl⟩
      rw [HC1.out] at HO htl HTK
      clear q0 q1 hr
      by_cases hneg : x < 0
      · have d1 : decide (x < 0) = true := decide_eq_true hneg
        rw [if_pos hneg] at HTK
        clear hin
        go_wp2_with (at_builtin; refine wpList_append_own _ rfl _ _ 30 rfl W.heap.size 62 i0 (.agg #[.int .i64 0, .int .u8 0]) 2 16 Tryd.underlying30 HI.out hz0 hz1 hz2 rfl (by decide) _ _ _ rfl (World.ownsRow.alloc HO.out _) ⟨_, 0, none⟩ 1 1 [.int .i64 x, .int .u8 (b.toNat : Int)] rfl rfl (two_newK _ _ _ _) (fun u hu => by simp at hu; rcases hu with rfl | rfl <;> rfl) (by unfold maxLen; omega) (by omega) (by simp; omega) ?_)
        intro v' w3 hown hgrow _
        have HO3 : Hid (OwnK w3 W.heap.size v' (twoC A (B.take (k + 1)))) := by
          rw [HTK.out]
          unfold OwnK
          rw [List.length_append, k2_append, k2_one]
          exact hown
        have hb3 := (hb.alloc hsz (.cells #[.int .i64 x, .int .u8 (b.toNat : Int)] 62)).grown hgrow (by simp; omega) (fun j hj => (HO.out.lt hj).1)
        clear hown hgrow HO hb
        clear c0 c1
        go_wp2
        go_roundw
        case rel => exact ⟨k + 1, by omega, by go_num, HO3, hb3⟩
        case measure => simp [intOf]; omega
      · have d1 : decide (x < 0) = false := decide_eq_false hneg
        obtain ⟨m, rfl⟩ : ∃ m : Nat, x = (m : Int) := ⟨x.toNat, by omega⟩
        have hm : m < A.length := by omega
        obtain ⟨⟨y, d⟩, hz⟩ : ∃ z, A[m]? = some z := ⟨A[m], List.getElem?_eq_getElem hm⟩
        obtain ⟨g2, off2, rfl, q2, q3⟩ := HC.out m _ hz
        have e2 := cell_later7 hb (Nat.le_refl _) q2
        have e3 := cell_later7 hb (Nat.le_refl _) q3
        simp only at e2 e3
        have gl2 : g2 < wr.heap.size := World.block_lt_of_cell? wr ⟨g2, _, none⟩ e2
        have hgd : A.getD (m : Int).toNat (0, 0) = (y, d) := by rw [Int.toNat_natCast, List.getD_eq_getElem?_getD, hz]; rfl
        rw [if_neg hneg, hgd] at HTK
        clear q2 q3 hz hin hgd
        go_wp2_with (at_builtin; refine wpList_append_own _ rfl _ _ 30 rfl W.heap.size 62 i0 (.agg #[.int .i64 0, .int .u8 0]) 2 16 Tryd.underlying30 HI.out hz0 hz1 hz2 rfl (by decide) _ _ _ rfl (World.ownsRow.alloc HO.out _) ⟨_, 0, none⟩ 1 1 [.int .i64 y, .int .u8 (d.toNat : Int)] rfl rfl (two_newK _ _ _ _) (fun u hu => by simp at hu; rcases hu with rfl | rfl <;> rfl) (by unfold maxLen; omega) (by omega) (by simp; omega) ?_)
        intro v' w3 hown hgrow _
        have HO3 : Hid (OwnK w3 W.heap.size v' (twoC A (B.take (k + 1)))) := by
          rw [HTK.out]
          unfold OwnK
          rw [List.length_append, k2_append, k2_one]
          exact hown
        have hb3 := (hb.alloc hsz (.cells #[.int .i64 y, .int .u8 (d.toNat : Int)] 62)).grown hgrow (by simp; omega) (fun j hj => (HO.out.lt hj).1)
        clear hown hgrow HO hb
        clear c0 c1 e2 e3
        go_wp2
        go_roundw
        case rel => exact ⟨k + 1, by omega, by go_num, HO3, hb3⟩
        case measure => simp [intOf]; omega
    · obtain rfl : k = B.length := by omega
      have HE : Hid (KAt wr u5 (twoC A B)) := by have := HO.out.row; rw [List.take_length] at this; exact this
      clear HO
      go_wp2
      go_ret
      exact ⟨_, rfl, HE.out, hb⟩
/-- How far the law's invert has come. -/
structure Iv (s : List UInt8) (cs out : List Ce) (a i : Nat) (rest : List Ce) : Prop where
  eq : invC s 0 0 cs = out ++ invC s a i rest
  up : Up s.length a rest
  le : a ≤ s.length
theorem Iv.len {s : List UInt8} {cs out rest : List Ce} {a i : Nat} (h : Iv s cs out a i rest) (hu : Up s.length 0 cs) : out.length + (s.length - a) = s.length := by
  have e := congrArg List.length h.eq
  rw [List.length_append, (inv_own (s := s) cs 0 0 hu (Nat.zero_le _)).2, (inv_own (s := s) rest a i h.up h.le).2] at e
  omega
theorem iv_skip {s : List UInt8} {cs out rest : List Ce} {c : Ce} {a i : Nat} (h : Iv s cs out a i (c :: rest)) (hc : c.1 < 0) : Iv s cs out a (i + 1) rest := by
  have hu := h.up
  rw [Up, if_pos hc] at hu
  exact ⟨by rw [h.eq, invC, if_pos hc], hu.2, h.le⟩
theorem iv_at {s : List UInt8} {cs out rest : List Ce} {c : Ce} {a i : Nat} (h : Iv s cs out a i (c :: rest)) (hc : ¬ c.1 < 0) : (a : Int) ≤ c.1 ∧ c.1 < s.length := by
  have hu := h.up
  rw [Up, if_neg hc] at hu
  exact ⟨hu.1, hu.2.1⟩
theorem take_drop_one {s : List UInt8} {a n : Nat} (ha : a < s.length) (hn : 0 < n) : (s.drop a).take n = s[a] :: (s.drop (a + 1)).take (n - 1) := by
  obtain ⟨m, rfl⟩ : ∃ m, n = m + 1 := ⟨n - 1, by omega⟩
  rw [List.drop_eq_getElem_cons ha]; rfl
theorem iv_step {s : List UInt8} {cs out rest : List Ce} {c : Ce} {a i : Nat} (h : Iv s cs out a i (c :: rest)) (hc : ¬ c.1 < 0) (ha : (a : Int) < c.1) (hl : a < s.length) : Iv s cs (out ++ [(-1, s[a])]) (a + 1) i (c :: rest) := by
  have hu := h.up
  rw [Up, if_neg hc] at hu
  refine ⟨?_, ?_, by omega⟩
  · rw [h.eq, invC, if_neg hc, invC, if_neg hc, take_drop_one hl (by omega), show c.1.toNat - (a + 1) = c.1.toNat - a - 1 by omega]
    simp [ownT]
  · rw [Up, if_neg hc]; exact ⟨by omega, hu.2⟩
theorem iv_kept {s : List UInt8} {cs out rest : List Ce} {c : Ce} {a i : Nat} (h : Iv s cs out a i (c :: rest)) (hc : ¬ c.1 < 0) (ha : (a : Int) = c.1) : Iv s cs (out ++ [((i : Int), 0)]) (a + 1) (i + 1) rest := by
  have hu := h.up
  rw [Up, if_neg hc] at hu
  refine ⟨?_, ?_, by omega⟩
  · rw [h.eq, invC, if_neg hc, show c.1.toNat - a = 0 by omega, show c.1.toNat = a by omega]
    simp [ownT]
  · have := hu.2.2.2
    rw [← ha] at this
    exact this
theorem iv_rest {s : List UInt8} {cs out : List Ce} {a i : Nat} (h : Iv s cs out a i []) (hl : a < s.length) : Iv s cs (out ++ [(-1, s[a])]) (a + 1) i [] := by
  refine ⟨?_, trivial, by omega⟩
  rw [h.eq, invC, invC, List.drop_eq_getElem_cons hl, List.append_assoc]
  rfl
theorem iv_end {s : List UInt8} {cs out : List Ce} {a i : Nat} (h : Iv s cs out a i []) (hl : s.length ≤ a) : invC s 0 0 cs = out := by
  rw [h.eq, invC, List.drop_eq_nil_of_le hl]
  simp [ownT]
set_option maxHeartbeats 8000000 in
set_option maxRecDepth 100000 in
theorem linv_any {w : World} {v : Value} {es : List El} {s : ByteArray} (hi : isB (s.size : Nat) es = true) (h : ElAt w v es) :
    Calls Tryd.prog 19 #[.agg #[.int .i64 (s.size : Nat), v], .string s] w fun e w' => ∃ v', e = .returned v' ∧ KAt w' v' (invC s.data.toList 0 0 (cel es)) ∧ RowKit.Below w.heap.size w w' := by
  obtain ⟨i0, hi0, hz0, hz1, hz2⟩ := info_parts Tryd.info_ce
  have HI := Hid.mk7 hi0
  have hd := dl_of hi
  have BX := Hid.mk7 (below_newE (RowKit.Below.refl w.heap.size w) (.cells #[.int .i64 (s.size : Nat), v] 24))
  have RD := Hid.mk7 (Rd.new w (.int .i64 (s.size : Nat)) v)
  have HCE := Hid.mk7 (rcells_any (s.size : Nat) (h.later BX.out) hd)
  have hsz : s.size ≤ 20000 := by have := hd.b1; omega
  have hcl : (cel es).length ≤ 20000 := by
    have h1 := cel_size es 0 0 hd.nm
    have h2 := hd.sz
    rw [szE_two] at h1
    omega
  have hup := up_cel es 0 0 (Int.le_refl _) hd.nm
  have HUP : Hid (Up s.data.toList.length 0 (cel es)) := hup
  have HSS : Hid (s.data.toList.length = s.size) := rfl
  obtain ⟨CS, hCS⟩ : ∃ CS, cel es = CS := ⟨_, rfl⟩
  rw [hCS] at HCE hcl HUP ⊢
  have HGE : Hid (∀ (a : Nat) (h : a < s.size), s[a] = s.data.toList[a]'(by rw [HSS.out]; exact h)) := fun a h => rfl
  clear hi0 hi hd h hup hCS
  have r0 := RD.out.c0
  have r1 := RD.out.c1
  go_enter Tryd.func19, Tryd.ntmps19
  go_wp2_with fail
  refine HCE.out.mono ?_
  rintro e W ⟨cv, rfl, hk, b1⟩
  have HK := Hid.mk7 hk.row
  have HB := Hid.mk7 (BX.out.trans (b1.mono BX.out.size))
  clear hk b1 BX RD HCE r0 r1
  obtain ⟨a, cap, rfl, hcap, hcells⟩ := id HK.out
  have HC := Hid.mk7 hcells
  clear hcells HK
  go_wp2
  go_loopw [5, 7, 8] (fun lv av iv wr => ∃ (i k : Nat) (out : List Ce), i ≤ CS.length ∧ iv = .int .i64 (i : Nat) ∧ av = .int .i64 (k : Nat) ∧ Hid (Iv s.data.toList CS out k i (CS.drop i)) ∧ Hid (OwnK wr W.heap.size lv out) ∧ Hid (RowKit.Below W.heap.size W wr)) (fun _ _ iv _ => CS.length - (intOf iv).toNat)
  case atStart => exact ⟨0, 0, [], Nat.zero_le _, rfl, rfl, ⟨by simp, by rw [List.drop_zero]; exact HUP.out, Nat.zero_le _⟩, OwnK.nil _ _, RowKit.Below.refl _ _⟩
  case round =>
    obtain ⟨i, k, out, hik, rfl, rfl, HP, HO, HW⟩ := hrel
    have hws := HW.out.size
    have hol := HP.out.len HUP.out
    have hkl := HP.out.le
    rw [HSS.out] at hol hkl
    by_cases hlt : i < CS.length
    · obtain ⟨⟨x, b⟩, hr⟩ : ∃ r, CS[i]? = some r := ⟨CS[i], List.getElem?_eq_getElem hlt⟩
      obtain ⟨g, off, rfl, q0, q1⟩ := HC.out i _ hr
      have Q0 := Hid.mk7 q0
      have c0 := cell_later7 HW.out (Nat.le_refl _) q0
      simp only at c0 Q0
      have HDR : Hid (CS.drop i = (x, b) :: CS.drop (i + 1)) := drop_consK hr
      rw [HDR.out] at HP
      clear q0 q1 hr
      by_cases hneg : x < 0
      · have d1 : decide (x < 0) = true := decide_eq_true hneg
        have HP2 := Hid.mk7 (iv_skip HP.out hneg)
        clear HP
        go_wp2
        go_roundw
        case rel => exact ⟨i + 1, k, out, by omega, by go_num, rfl, HP2, HO, HW⟩
        case measure => simp [intOf]; omega
      · have d1 : decide (x < 0) = false := decide_eq_false hneg
        have hat := iv_at HP.out hneg
        rw [HSS.out] at hat
        simp only at hat
        have HNG := Hid.mk7 hneg
        go_wp2
        go_loopw [5, 7] (fun lv av wx => ∃ (m : Nat) (ou : List Ce), (m : Int) ≤ x ∧ av = .int .i64 (m : Nat) ∧ Hid (Iv s.data.toList CS ou m i ((x, b) :: CS.drop (i + 1))) ∧ Hid (OwnK wx W.heap.size lv ou) ∧ Hid (RowKit.Below W.heap.size W wx)) (fun _ av _ => (x - intOf av).toNat)
        case atStart => exact ⟨k, out, hat.1, rfl, HP, HO, HW⟩
        case round =>
          clear HP HO HW c0 hws hol hkl
          obtain ⟨m, ou, hmx, rfl, HP, HO, HW⟩ := hrel
          have hws := HW.out.size
          have hol := HP.out.len HUP.out
          rw [HSS.out] at hol
          have c0 := cell_later7 HW.out (Nat.le_refl _) Q0.out
          have hms : m ≤ s.size := by omega
          by_cases hlx : (m : Int) < x
          · have dlx : decide ((m : Int) < x) = true := decide_eq_true hlx
            have hmss : m < s.size := by omega
            have HP2 := Hid.mk7 (iv_step HP.out (by have := HNG.out; simp only; omega) hlx (by rw [HSS.out]; exact hmss))
            rw [← HGE.out m hmss] at HP2
            clear HP
            go_wp2_with (at_builtin; refine wpList_append_own _ rfl _ _ 30 rfl W.heap.size 62 i0 (.agg #[.int .i64 0, .int .u8 0]) 2 16 Tryd.underlying30 HI.out hz0 hz1 hz2 rfl (by decide) _ _ _ rfl (World.ownsRow.alloc HO.out _) ⟨_, 0, none⟩ 1 1 [.int .i64 (-1), .int .u8 ((s[m]).toNat : Int)] rfl rfl (two_newK _ _ _ _) (fun u hu => by simp at hu; rcases hu with rfl | rfl <;> rfl) (by unfold maxLen; omega) (by omega) (by simp; omega) ?_)
            intro v' w3 hown hgrow _
            have HO3 : Hid (OwnK w3 W.heap.size v' (ou ++ [(-1, s[m])])) := by
              show OwnK _ _ _ _
              unfold OwnK
              rw [List.length_append, k2_append, k2_one]
              exact hown
            have HW3 := Hid.mk7 ((HW.out.alloc hws (.cells #[.int .i64 (-1), .int .u8 ((s[m]).toNat : Int)] 62)).grown hgrow (by simp; omega) (fun j hj => (HO.out.lt hj).1))
            clear hown hgrow HO HW c0
            go_wp2
            go_roundw
            case rel => exact ⟨m + 1, _, by omega, by go_num, HP2, HO3, HW3⟩
            case measure => simp [intOf]; omega
          · have dlx : decide ((m : Int) < x) = false := decide_eq_false hlx
            have HP2 := Hid.mk7 (iv_kept HP.out (by have := HNG.out; simp only; omega) (by simp only; omega))
            clear HP
            go_wp2_with (at_builtin; refine wpList_append_own _ rfl _ _ 30 rfl W.heap.size 62 i0 (.agg #[.int .i64 0, .int .u8 0]) 2 16 Tryd.underlying30 HI.out hz0 hz1 hz2 rfl (by decide) _ _ _ rfl (World.ownsRow.alloc HO.out _) ⟨_, 0, none⟩ 1 1 [.int .i64 (i : Nat), .int .u8 0] rfl rfl (two_newK _ _ _ _) (fun u hu => by simp at hu; rcases hu with rfl | rfl <;> rfl) (by unfold maxLen; omega) (by omega) (by simp; omega) ?_)
            intro v' w3 hown hgrow _
            have HO3 : Hid (OwnK w3 W.heap.size v' (ou ++ [((i : Int), 0)])) := by
              show OwnK _ _ _ _
              unfold OwnK
              rw [List.length_append, k2_append, k2_one]
              exact hown
            have HW3 := Hid.mk7 ((HW.out.alloc hws (.cells #[.int .i64 (i : Nat), .int .u8 0] 62)).grown hgrow (by simp; omega) (fun j hj => (HO.out.lt hj).1))
            clear hown hgrow HO HW c0
            go_wp2
            go_roundw
            case rel => exact ⟨i + 1, m + 1, _, by omega, by go_num, by go_num, HP2, HO3, HW3⟩
            case measure => simp [intOf]; omega
    · obtain rfl : i = CS.length := by omega
      rw [List.drop_length] at HP
      go_wp2
      go_loopw [5, 7] (fun lv av wx => ∃ (m : Nat) (ou : List Ce), m ≤ s.size ∧ av = .int .i64 (m : Nat) ∧ Hid (Iv s.data.toList CS ou m CS.length []) ∧ Hid (OwnK wx W.heap.size lv ou) ∧ Hid (RowKit.Below W.heap.size W wx)) (fun _ av _ => s.size - (intOf av).toNat)
      case atStart => exact ⟨k, out, hkl, rfl, HP, HO, HW⟩
      case round =>
        clear HP HO HW hws hol hkl
        obtain ⟨m, ou, hms, rfl, HP, HO, HW⟩ := hrel
        have hws := HW.out.size
        have hol := HP.out.len HUP.out
        rw [HSS.out] at hol
        by_cases hmss : m < s.size
        · have HP2 := Hid.mk7 (iv_rest HP.out (by rw [HSS.out]; exact hmss))
          rw [← HGE.out m hmss] at HP2
          clear HP
          go_wp2_with (at_builtin; refine wpList_append_own _ rfl _ _ 30 rfl W.heap.size 62 i0 (.agg #[.int .i64 0, .int .u8 0]) 2 16 Tryd.underlying30 HI.out hz0 hz1 hz2 rfl (by decide) _ _ _ rfl (World.ownsRow.alloc HO.out _) ⟨_, 0, none⟩ 1 1 [.int .i64 (-1), .int .u8 ((s[m]).toNat : Int)] rfl rfl (two_newK _ _ _ _) (fun u hu => by simp at hu; rcases hu with rfl | rfl <;> rfl) (by unfold maxLen; omega) (by omega) (by simp; omega) ?_)
          intro v' w3 hown hgrow _
          have HO3 : Hid (OwnK w3 W.heap.size v' (ou ++ [(-1, s[m])])) := by
            show OwnK _ _ _ _
            unfold OwnK
            rw [List.length_append, k2_append, k2_one]
            exact hown
          have HW3 := Hid.mk7 ((HW.out.alloc hws (.cells #[.int .i64 (-1), .int .u8 ((s[m]).toNat : Int)] 62)).grown hgrow (by simp; omega) (fun j hj => (HO.out.lt hj).1))
          clear hown hgrow HO HW
          go_wp2
          go_roundw
          case rel => exact ⟨m + 1, _, by omega, by go_num, HP2, HO3, HW3⟩
          case measure => simp [intOf]; omega
        · have HE := Hid.mk7 (iv_end HP.out (by rw [HSS.out]; omega))
          clear HP
          go_wp2
          go_ret
          exact ⟨_, rfl, by rw [HE.out]; exact HO.out.row, HB.out.trans (HW.out.mono HB.out.size)⟩
end Go.Proofs.YtiienebioebjpaaDoor
