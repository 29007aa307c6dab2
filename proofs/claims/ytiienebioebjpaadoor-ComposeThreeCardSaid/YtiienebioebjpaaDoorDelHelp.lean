/- slices.Equal of elements; Same. Calls whose answer is known (layer 11). -/
import Derived.Test.YtiienebioebjpaaDoorDelSize
import Derived.Test.YtiienebioebjpaaDoorDelKeep
namespace Go.Proofs.YtiienebioebjpaaDoor
open Go.RowKit Go.Sort
set_option linter.unusedSimpArgs false
set_option linter.unusedVariables false

theorem cacc_inj {a b : List UInt8} (h : cacc a = cacc b) : a = b := by
  have := congrArg (fun s : ByteArray => s.data.toList) h
  exact this
set_option maxHeartbeats 4000000 in
set_option maxRecDepth 100000 in
theorem equalE_any {w : World} {u v : Value} {rs qs : List El} (h1 : ElAt w u rs) (h2 : ElAt w v qs) (hl : rs.length ≤ 281474976710656) :
    Calls Tryd.prog 41 #[u, v] w fun e w' => e = .returned (.bool (decide (rs = qs))) ∧ Below w.heap.size w w' := by
  obtain ⟨a, cap, rfl, hcap, _, hcells⟩ := h1
  obtain ⟨a2, cap2, rfl, hcap2, _, hcells2⟩ := h2
  by_cases hlen : rs.length = qs.length
  · have HC1 := Hid.mk7 hcells
    have HC2 := Hid.mk7 hcells2
    have HLEN := Hid.mk7 hlen
    rw [← hlen] at hcap2 ⊢
    clear hcells hcells2 hlen
    go_enter Tryd.func41, Tryd.ntmps41
    go_wp2
    go_loopw [13] (fun iv wr => ∃ k : Nat, k ≤ rs.length ∧ iv = .int .i64 (k : Nat) ∧ Hid (rs.take k = qs.take k) ∧ Below w.heap.size w wr) (fun iv _ => rs.length - (intOf iv).toNat)
    case atStart => exact ⟨0, Nat.zero_le _, rfl, by show _ = _; simp, Below.refl _ _⟩
    case round =>
      obtain ⟨k, hk, rfl, HT, hb⟩ := hrel
      by_cases hlt : k < rs.length
      · obtain ⟨⟨f, t, T⟩, hr⟩ : ∃ r, rs[k]? = some r := ⟨rs[k], List.getElem?_eq_getElem hlt⟩
        obtain ⟨⟨f', t', T'⟩, hq⟩ : ∃ r, qs[k]? = some r := ⟨qs[k]'(by rw [← HLEN.out]; exact hlt), List.getElem?_eq_getElem _⟩
        obtain ⟨g, off, rfl, q0, q1, q2⟩ := HC1.out k _ hr
        obtain ⟨g2, off2, rfl, q3, q4, q5⟩ := HC2.out k _ hq
        have c0 := cell_later7 hb (Nat.le_refl _) q0
        have c1 := cell_later7 hb (Nat.le_refl _) q1
        have c2 := cell_later7 hb (Nat.le_refl _) q2
        have c3 := cell_later7 hb (Nat.le_refl _) q3
        have c4 := cell_later7 hb (Nat.le_refl _) q4
        have c5 := cell_later7 hb (Nat.le_refl _) q5
        simp only at c0 c1 c2 c3 c4 c5
        by_cases he : ((f, t, T) : El) = (f', t', T')
        · cases he
          have HT2 : Hid (rs.take (k + 1) = qs.take (k + 1)) := by show _ = _; rw [take_snoc7 hr, take_snoc7 hq, HT.out]
          clear q0 q1 q2 q3 q4 q5 hr hq
          generalize cacc T = s at *
          go_wp2
          go_quiet (fail)
          go_wp2
          go_roundw
          case rel => exact ⟨k + 1, by omega, by go_num, HT2, below_drewN hb nq⟩
          case measure => simp [intOf]; omega
        · have HF : Hid (decide (rs = qs) = false) := by
            show _ = _
            rw [decide_eq_false_iff_not]
            intro e
            rw [e, hq] at hr
            exact he (Option.some.inj hr).symm
          clear q0 q1 q2 q3 q4 q5 hr hq
          by_cases hf : f = f'
          · subst hf
            by_cases ht : t = t'
            · subst ht
              have hs : cacc T ≠ cacc T' := fun e => he (by rw [cacc_inj e])
              have hs2 : ¬ (cacc T).toList = (cacc T').toList := fun e => hs (by rw [ByteArray.toList_eq, ByteArray.toList_eq] at e; exact ByteArray.ext (Array.toList_inj.1 e))
              have hs3 : decide ((cacc T).toList = (cacc T').toList) = false := decide_eq_false hs2
              have hs4 : ((cacc T).toList == (cacc T').toList) = false := by simpa using hs2
              generalize cacc T = s at *
              generalize cacc T' = s' at *
              clear he hs
              go_wp2
              go_quiet (fail)
              go_wp2
              go_ret
              exact ⟨ret_boolE HF.out.symm, below_drewN hb nq⟩
            · have hc : (t == t') = false := by simpa using ht
              have hc1 : decide (t = t') = false := by simpa using ht
              generalize cacc T = s at *
              generalize cacc T' = s' at *
              clear he
              go_wp2
              go_quiet (fail)
              go_wp2
              go_ret
              exact ⟨ret_boolE HF.out.symm, below_drewN hb nq⟩
          · have hc : (f == f') = false := by simpa using hf
            have hc1 : decide (f = f') = false := by simpa using hf
            generalize cacc T = s at *
            generalize cacc T' = s' at *
            clear he
            go_wp2
            go_quiet (fail)
            go_wp2
            go_ret
            exact ⟨ret_boolE HF.out.symm, below_drewN hb nq⟩
      · obtain rfl : k = rs.length := by omega
        have HF : Hid (decide (rs = qs) = true) := by
          have := HT.out
          rw [List.take_length, HLEN.out, List.take_length] at this
          exact decide_eq_true this
        go_wp2
        go_ret
        exact ⟨ret_boolE HF.out.symm, hb⟩
  · have hne : ((rs.length : Int) != (qs.length : Int)) = true := by simp; omega
    have hne2 : (rs.length != qs.length) = true := by simpa using hlen
    have HF : Hid (decide (rs = qs) = false) := by
      show _ = _
      rw [decide_eq_false_iff_not]
      intro e
      exact hlen (by rw [e])
    clear hcells hcells2 hlen
    go_enter Tryd.func41, Tryd.ntmps41
    go_wp2
    go_ret
    exact ⟨ret_boolE HF.out.symm, Below.refl _ _⟩
set_option maxHeartbeats 2000000 in
set_option maxRecDepth 100000 in
theorem same_anyE {w : World} {u v : Value} {rs qs : List El} (a b : Int) (h1 : ElAt w u rs) (h2 : ElAt w v qs) (hl : rs.length ≤ 281474976710656) :
    Calls Tryd.prog 24 #[.agg #[.int .i64 a, u], .agg #[.int .i64 b, v]] w fun e w' => e = .returned (.bool (decide (a = b ∧ rs = qs))) ∧ Below w.heap.size w w' := by
  have H1 := Hid.mk7 (h1.alloc (.cells #[.int .i64 a, u] 24))
  have H2 := Hid.mk7 (h2.alloc (.cells #[.int .i64 a, u] 24))
  have HU := Hid.mk7 (H1.out.alloc (.cells #[.int .i64 b, v] 24))
  have HV := Hid.mk7 (H2.out.alloc (.cells #[.int .i64 b, v] 24))
  obtain ⟨ua, ucap, rfl, _⟩ := id h1
  obtain ⟨va, vcap, rfl, _⟩ := id h2
  have BB := Hid.mk7 (below_newE (below_newE (Below.refl w.heap.size w) (.cells #[.int .i64 a, .slice ua rs.length ucap] 24)) (.cells #[.int .i64 b, .slice va qs.length vcap] 24))
  have HE := Hid.mk7 (equalE_any HU.out HV.out hl)
  clear H1 H2 h1 h2 HU HV
  by_cases hab : a = b
  · have HF : Hid (decide (a = b ∧ rs = qs) = decide (rs = qs)) := by
      show _ = _
      exact decide_eq_decide.2 ⟨fun h => h.2, fun h => ⟨hab, h⟩⟩
    subst hab
    go_enter Tryd.func24, Tryd.ntmps24
    go_wp2_with fail
    refine HE.out.mono ?_
    rintro e w1 ⟨rfl, b1⟩
    generalize decide (rs = qs) = bo at *
    go_wp2
    go_ret
    exact ⟨ret_boolE HF.out.symm, BB.out.trans (b1.mono BB.out.size)⟩
  · have hc : (a == b) = false := by simpa using hab
    have hc1 : decide (a = b) = false := by simpa using hab
    have HF : Hid (decide (a = b ∧ rs = qs) = false) := decide_eq_false fun h => hab h.1
    go_enter Tryd.func24, Tryd.ntmps24
    go_wp2
    go_ret
    exact ⟨ret_boolE HF.out.symm, BB.out⟩
end Go.Proofs.YtiienebioebjpaaDoor
namespace Go.Proofs.YtiienebioebjpaaDoor
open Go.RowKit Go.Sort Go.Lib
set_option linter.unusedSimpArgs false
set_option linter.unusedVariables false

theorem Sm.mono {es : List El} {m n : Nat} (h : Sm es m) (hm : m ≤ n) : Sm es n := fun e he => Nat.le_trans (h e he) hm
section
variable {w : World} {v : Value} {es : List El} {base : Int} {tb : Nat × Nat}
theorem is_v {t : Bool} (ht : isB base es = t) (hsm : Sm es 20000) (h : ElAt w v es) (hT : Tab w tb) :
    Calls Tryd.prog 30 #[.agg #[.int .i64 base, v]] w fun e w' => e = .returned (.bool t) ∧ RowKit.Below w.heap.size w w' := by
  have := is_any base h (hsm.mono (by omega)) tb hT; rw [ht] at this; exact this
theorem size_v {z : Int} (hi : isB base es = true) (hz : szE es = z) (h : ElAt w v es) (hT : Tab w tb) :
    Calls Tryd.prog 28 #[.agg #[.int .i64 base, v]] w fun e w' => e = .returned (.int .i64 z) ∧ RowKit.Below w.heap.size w w' := by
  have := size_anyE base h ((dl_of hi).sm.mono (by omega)) tb hT; rw [hi, if_pos rfl, hz] at this; exact this
theorem size_no (hi : isB base es = false) (hsm : Sm es 20000) (h : ElAt w v es) (hT : Tab w tb) :
    Calls Tryd.prog 28 #[.agg #[.int .i64 base, v]] w fun e w' => e = .returned (.int .i64 0) ∧ RowKit.Below w.heap.size w w' := by
  have := size_anyE base h (hsm.mono (by omega)) tb hT; rw [hi, if_neg (by simp)] at this; exact this
theorem adds_v {z : Int} (hi : isB base es = true) (hz : (inS es : Int) = z) (h : ElAt w v es) (hT : Tab w tb) :
    Calls Tryd.prog 26 #[.agg #[.int .i64 base, v]] w fun e w' => e = .returned (.int .i64 z) ∧ RowKit.Below w.heap.size w w' := by
  have := adds_anyE base h ((dl_of hi).sm.mono (by omega)) tb hT; rw [hi, if_pos rfl, hz] at this; exact this
theorem adds_no (hi : isB base es = false) (hsm : Sm es 20000) (h : ElAt w v es) (hT : Tab w tb) :
    Calls Tryd.prog 26 #[.agg #[.int .i64 base, v]] w fun e w' => e = .returned (.int .i64 0) ∧ RowKit.Below w.heap.size w w' := by
  have := adds_anyE base h (hsm.mono (by omega)) tb hT; rw [hi, if_neg (by simp)] at this; exact this
theorem drops_v {z : Int} (hi : isB base es = true) (hz : base - cpS es = z) (h : ElAt w v es) (hT : Tab w tb) :
    Calls Tryd.prog 27 #[.agg #[.int .i64 base, v]] w fun e w' => e = .returned (.int .i64 z) ∧ RowKit.Below w.heap.size w w' := by
  have := drops_anyE base h ((dl_of hi).sm.mono (by omega)) tb hT; rw [hi, if_pos rfl, hz] at this; exact this
theorem drops_no (hi : isB base es = false) (hsm : Sm es 20000) (h : ElAt w v es) (hT : Tab w tb) :
    Calls Tryd.prog 27 #[.agg #[.int .i64 base, v]] w fun e w' => e = .returned (.int .i64 0) ∧ RowKit.Below w.heap.size w w' := by
  have := drops_anyE base h (hsm.mono (by omega)) tb hT; rw [hi, if_neg (by simp)] at this; exact this
theorem apply_v {s r : ByteArray} (hi : isB base es = true) (hb : (s.size : Int) = base) (hr : cacc (apl (cel es) s.data.toList) = r) (h : ElAt w v es) (hT : Tab w tb) :
    Calls Tryd.prog 22 #[.agg #[.int .i64 base, v], .string s] w fun e w' => e = .returned (.tuple #[.string r, .int .i64 0]) ∧ RowKit.Below w.heap.size w w' := by
  subst hb hr; exact apply_ok s h ((dl_of hi).sm.mono (by omega)) tb hT hi
theorem apply_lv {s : ByteArray} (hi : isB base es = true) (hb : (s.size : Int) ≠ base) (h : ElAt w v es) (hT : Tab w tb) :
    Calls Tryd.prog 22 #[.agg #[.int .i64 base, v], .string s] w fun e w' => e = .returned (.tuple #[.string ⟨#[]⟩, .int .i64 80]) ∧ RowKit.Below w.heap.size w w' :=
  apply_len base s h ((dl_of hi).sm.mono (by omega)) tb hT hi hb
theorem apply_fv {s : ByteArray} (hi : isB base es = false) (hsm : Sm es 20000) (h : ElAt w v es) (hT : Tab w tb) :
    Calls Tryd.prog 22 #[.agg #[.int .i64 base, v], .string s] w fun e w' => e = .returned (.tuple #[.string ⟨#[]⟩, .int .i64 12]) ∧ RowKit.Below w.heap.size w w' :=
  apply_form base s h (hsm.mono (by omega)) tb hT hi
theorem same_v {u : Value} {qs : List El} {b : Int} {t : Bool} (ht : decide (base = b ∧ es = qs) = t) (hl : es.length ≤ 1000) (h : ElAt w v es) (h2 : ElAt w u qs) :
    Calls Tryd.prog 24 #[.agg #[.int .i64 base, v], .agg #[.int .i64 b, u]] w fun e w' => e = .returned (.bool t) ∧ RowKit.Below w.heap.size w w' := by
  subst ht; exact same_anyE base b h h2 (by omega)
theorem keep_v {m : Int} {es : List El} (base : Int) (hm : min (max base 0) 20000 = m) (he : elG m [] 0 [] = es) (w : World) :
    Calls Tryd.prog 25 #[.int .i64 base] w fun e w' => ∃ v', e = .returned (.agg #[.int .i64 m, v']) ∧ ElAt w' v' es ∧ RowKit.Below w.heap.size w w' := by
  subst hm he; exact keep_any base w
theorem build_v {l : List El} {es : List El} (hf : flt base l = 0) (he : elG base [] 0 l = es) (hm : es.length ≤ 60) (hsm : Sm l 100000) (hl : l.length ≤ 1000) (hin : inS l ≤ 100000) (h : ElAt w v l) (hT : Tab w tb) :
    Calls Tryd.prog 21 #[.int .i64 base, v] w fun e w' => ∃ v', e = .returned (.tuple #[.agg #[.int .i64 base, v'], .int .i64 0]) ∧ ElAt w' v' es ∧ RowKit.Below w.heap.size w w' := by
  subst he; exact build_good base h (hsm.mono (by omega)) hl hin tb hT hf hm
theorem build_bv {l : List El} {r : Int} (hf : flt base l = r) (hr : r ≠ 0) (hsm : Sm l 281474976710656) (hl : l.length ≤ 1000) (h : ElAt w v l) (hT : Tab w tb) :
    Calls Tryd.prog 21 #[.int .i64 base, v] w fun e w' => e = .returned (.tuple #[.agg #[.int .i64 0, .slice none 0 0], .int .i64 r]) ∧ RowKit.Below w.heap.size w w' := by
  subst hf; exact build_bad base h hsm hl tb hT hr
end
/-- What is built is a delta, with the bytes of the changes. -/
theorem chs_of {base : Int} : ∀ (l : List El) (a : Int), a ≤ base → wthB base l = true → (∀ e r, l = e :: r → a ≤ e.1) → ordB l = true → Chs base a l
  | [], a, h, _, _, _ => h
  | (f, t, T) :: l, a, h, hw, ha, ho => by
    rw [show wthB base ((f, t, T) :: l) = (wthE base (f, t, T) && wthB base l) from rfl, Bool.and_eq_true] at hw
    have h1 := of_decide_eq_true hw.1
    simp only at h1
    have h2 := ha _ _ rfl
    simp only at h2
    refine ⟨h2, h1.2.1, h1.2.2, chs_of l t h1.2.2 hw.2 ?_ ?_⟩
    · rintro ⟨f', t', T'⟩ r rfl
      rw [ordB, Bool.and_eq_true] at ho
      have := of_decide_eq_true ho.1
      simp only at this ⊢
      omega
    · cases l with
      | nil => rfl
      | cons b l => rw [ordB, Bool.and_eq_true] at ho; exact ho.2
/-- What a row of changes without an error is. -/
structure Gd (base : Int) (l : List El) : Prop where
  b0 : 0 ≤ base ∧ base ≤ 20000
  wt : wthB base l = true
  od : ordB l = true
  vl : vldB l = true
  sz : sz8 base l ≤ 20000
  ch : Chs base 0 l
theorem gd_of {base : Int} {l : List El} (h : flt base l = 0) : Gd base l := by
  unfold flt at h
  split at h
  · cases h
  rename_i h1
  split at h
  · cases h
  rename_i h2
  split at h
  · cases h
  rename_i h3
  split at h
  · cases h
  rename_i h4
  simp only [Bool.not_eq_false, Bool.and_eq_true, decide_eq_true_eq] at h1 h2 h3
  refine ⟨h1.1, h1.2, h2, h3, by omega, chs_of l 0 h1.1.1 h1.2 ?_ h2⟩
  rintro ⟨f, t, T⟩ r rfl
  have := of_decide_eq_true (List.all_eq_true.1 h1.2 (f, t, T) (by simp))
  exact this.1
theorem isB_elG {base : Int} {l : List El} (h : flt base l = 0) (hm : (elG base [] 0 l).length ≤ 60) : isB base (elG base [] 0 l) = true := by
  have g := gd_of h
  refine isB_spec.2 ⟨⟨g.b0.1, g.b0.2, hm⟩, nm_elG l [] 0 0 0 g.ch (Int.le_refl _) (by omega) (fun h => by omega), ?_, ?_⟩
  · refine vld_elG l [] 0 vld_nil fun e he => ?_
    exact List.all_eq_true.1 g.vl e he
  · rw [elG_size g.ch]; exact g.sz
end Go.Proofs.YtiienebioebjpaaDoor
