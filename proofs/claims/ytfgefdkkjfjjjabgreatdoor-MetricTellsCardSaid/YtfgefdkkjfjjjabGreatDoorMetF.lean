/- metric.From, Convert. Plain mathematics of conversions; the example of the statements. -/
import Derived.Test.YtfgefdkkjfjjjabGreatDoorMetD
namespace Go.Proofs.YtfgefdkkjfjjjabGreatDoor
open Go.RowKit Go.Sort
set_option linter.unusedSimpArgs false
set_option linter.unusedVariables false

theorem fr_cases {T : List UInt8} (hv : vld T = true) {k : Int} (hk : decide (0 ≤ k ∧ k ≤ 3) = true) (a : Int) :
    ((a < 0 ∨ (T.length : Int) < a) ∧ frB (tx T) k a = 0 ∧ frE (tx T) k a = 10) ∨ (∃ n : Nat, a = (n : Nat) ∧ n ≤ T.length ∧ ((vld (T.take n) = true ∧ frB (tx T) k a = kT k (T.take n) ∧ frE (tx T) k a = 0) ∨ (vld (T.take n) = false ∧ frB (tx T) k a = 0 ∧ frE (tx T) k a = 11))) := by
  have hc : ctb (tx T) k = true := by rw [ctb_valid hv]; exact hk
  have hsz : (tx T).size = T.length := rfl
  have eB : frB (tx T) k a = if a < 0 ∨ (T.length : Int) < a then 0 else if edg (tx T) a = false then 0 else kG k (pts ((tx T).extract 0 a.toNat).data.toList) := by
    unfold frB
    rw [if_neg (by rw [hc]; simp), hsz]
  have eE : frE (tx T) k a = if a < 0 ∨ (T.length : Int) < a then 10 else if edg (tx T) a = false then 11 else 0 := by
    unfold frE
    rw [if_neg (by rw [hc]; simp), hsz]
  by_cases h : a < 0 ∨ (T.length : Int) < a
  · rw [if_pos h] at eB eE
    exact Or.inl ⟨h, eB, eE⟩
  · rw [if_neg h] at eB eE
    obtain ⟨n, rfl⟩ := Int.eq_ofNat_of_zero_le (show 0 ≤ a by omega)
    right
    refine ⟨n, rfl, by omega, ?_⟩
    have he : edg (tx T) (n : Int) = vld (T.take n) := edg_take (s := tx T) hv (by rw [hsz]; omega)
    rw [he] at eB eE
    cases hvn : vld (T.take n) with
    | true =>
      rw [hvn, if_neg (by simp)] at eB eE
      refine Or.inl ⟨rfl, ?_, eE⟩
      rw [eB, extract_bytes, List.drop_zero, Nat.sub_zero]
      rfl
    | false =>
      rw [hvn, if_pos rfl] at eB eE
      exact Or.inr ⟨rfl, eB, eE⟩
theorem fr_none {T : List UInt8} (hv : vld T = true) {k : Int} (hk : decide (0 ≤ k ∧ k ≤ 3) = false) (a : Int) : frB (tx T) k a = 0 ∧ frE (tx T) k a = 12 := by
  have hc : ctb (tx T) k = false := by rw [ctb_valid hv]; exact hk
  unfold frB frE
  rw [if_pos hc, if_pos hc]
  exact ⟨rfl, rfl⟩

set_option maxHeartbeats 4000000 in
set_option maxRecDepth 100000 in
/-- From. -/
theorem mfrom_any (tb : Nat × Nat) {g : Nat} {T : List UInt8} {w : World} (k a : Int) (h : RpA (strongE tb) w (.pointer (some ⟨g, 0, none⟩)) T) (hz : T.length ≤ 20000) (hT : Tabs w tb) :
    Calls Tryz.prog 11 #[.pointer (some ⟨g, 0, none⟩), .int .i64 k, .int .i64 a] w fun e w' => e = .returned (.tuple #[.int .i64 (frB (tx T) k a), .int .i64 (frE (tx T) k a)]) ∧ Below w.heap.size w w' := by
  have hv := rpa_valid h
  have HK := Hid.mk4 (mknown_any tb k w hT)
  cases hk : decide (0 ≤ k ∧ k ≤ 3) with
  | false =>
    rw [hk] at HK
    rw [(fr_none hv hk a).1, (fr_none hv hk a).2]
    clear h hk
    go_enter Tryz.func11, Tryz.ntmps11
    go_wp2_with fail
    refine HK.out.mono ?_
    rintro e w1 ⟨rfl, b1⟩
    clear HK
    go_wp2
    go_ret2
    exact ⟨rfl, b1⟩
  | true =>
    rw [hk] at HK
    have HX : Hid (∀ W, Calls Tryz.prog 26 #[.pointer (some ⟨g, 0, none⟩)] W fun e w' => e = .returned (.agg #[.pointer (some ⟨g, 0, none⟩)]) ∧ Below W.heap.size W w') := fun W => xof_any g W
    have hfd : ∀ w : World, (Instr.field 54 (Value.agg #[.pointer (some ⟨g, 0, none⟩)]) 0).run Tryz.prog w = .ok (.pointer (some ⟨g, 0, none⟩)) w := fun w => by
      simp [Instr.field, Go.part, Sem.run_bind, run_underlying Tryz.underlying54, Tryz.isAgg23, asAgg, Result.andThen]
    rcases fr_cases hv hk a with ⟨ha, e1, e2⟩ | ⟨n, rfl, hn, ⟨hvn, e1, e2⟩ | ⟨hvn, e1, e2⟩⟩
    · rw [e1, e2]
      have HS : Hid (∀ W, Below w.heap.size w W → Calls Tryz.prog 35 #[.pointer (some ⟨g, 0, none⟩), .int .i64 0, .int .i64 a] W fun e w' => e = .returned (.tuple #[.pointer none, .int .i64 10]) ∧ Below W.heap.size W w') := fun W hW => msli_bad _ 0 a 10 W (by decide) (rpa_range (strongE tb) 0 a (h.later hW) (by omega) (by omega))
      clear h hk e1 e2 ha
      go_enter Tryz.func11, Tryz.ntmps11
      go_wp2_with fail
      refine HK.out.mono ?_
      rintro e w1 ⟨rfl, b1⟩
      clear HK
      go_wp2_with fail
      refine (HX.out _).mono ?_
      rintro e w2 ⟨rfl, b2⟩
      have g2 := b1.trans (b2.mono b1.size)
      clear HX b1 b2
      go_wp2_with fail
      refine (HS.out _ g2).mono ?_
      rintro e w3 ⟨rfl, b3⟩
      have g3 := g2.trans (b3.mono g2.size)
      clear HS b3 g2
      go_wp2
      go_ret2
      exact ⟨rfl, g3⟩
    · rw [e1, e2]
      have HS : Hid (∀ W, Below w.heap.size w W → Calls Tryz.prog 35 #[.pointer (some ⟨g, 0, none⟩), .int .i64 0, .int .i64 (n : Nat)] W fun e w' => ∃ g', e = .returned (.tuple #[.pointer (some ⟨g', 0, none⟩), .int .i64 0]) ∧ RpA (strongE tb) w' (.pointer (some ⟨g', 0, none⟩)) (T.take n) ∧ Below W.heap.size W w') := fun W hW => by
        have := msli_ok (strongE tb) tb (strong_tab tb) _ T 0 n W (h.later hW) (by omega) (Nat.zero_le _) hn (by rw [List.take_zero]; rfl) hvn (strong_Dt tb (by rw [List.length_take]; omega)) (strong_Dt tb (by rw [List.length_drop, List.length_take]; omega)) (hT.later hW)
        refine this.mono ?_
        rintro e w' ⟨r', he, hr', hb⟩
        obtain ⟨g', rfl⟩ := hr'.ptr
        rw [List.drop_zero] at hr'
        exact ⟨g', he, hr', hb⟩
      have HW : Hid (∀ W g', RpA (strongE tb) W (.pointer (some ⟨g', 0, none⟩)) (T.take n) → Tabs W tb → Calls Tryz.prog 14 #[.pointer (some ⟨g', 0, none⟩), .int .i64 k] W fun e w' => e = .returned (.int .i64 (kT k (T.take n))) ∧ Below W.heap.size W w') := fun W g' hg hW => mwhole_any tb k (Or.inr hg) (by rw [List.length_take]; omega) hW
      clear h hk e1 e2
      go_enter Tryz.func11, Tryz.ntmps11
      go_wp2_with fail
      refine HK.out.mono ?_
      rintro e w1 ⟨rfl, b1⟩
      clear HK
      go_wp2_with fail
      refine (HX.out _).mono ?_
      rintro e w2 ⟨rfl, b2⟩
      have g2 := b1.trans (b2.mono b1.size)
      clear HX b1 b2
      go_wp2_with fail
      refine (HS.out _ g2).mono ?_
      rintro e w3 ⟨g', rfl, hr', b3⟩
      have HR := Hid.mk4 hr'
      have g3 := g2.trans (b3.mono g2.size)
      clear HS b3 g2 hr'
      go_wp2_with fail
      refine (HW.out _ g' HR.out (hT.later g3)).mono ?_
      rintro e w4 ⟨rfl, b4⟩
      have g4 := g3.trans (b4.mono g3.size)
      clear HW b4 g3
      go_wp2
      go_ret2
      exact ⟨rfl, g4⟩
    · rw [e1, e2]
      have HS : Hid (∀ W, Below w.heap.size w W → Calls Tryz.prog 35 #[.pointer (some ⟨g, 0, none⟩), .int .i64 0, .int .i64 (n : Nat)] W fun e w' => e = .returned (.tuple #[.pointer none, .int .i64 11]) ∧ Below W.heap.size W w') := fun W hW => by
        have := rpa_check (strongE tb) tb (strong_tab tb) 0 n (h.later hW) (by omega) (Nat.zero_le _) hn (hT.later hW)
        rw [hvn, Bool.and_false] at this
        exact msli_bad _ 0 n 11 W (by decide) this
      clear h hk e1 e2
      go_enter Tryz.func11, Tryz.ntmps11
      go_wp2_with fail
      refine HK.out.mono ?_
      rintro e w1 ⟨rfl, b1⟩
      clear HK
      go_wp2_with fail
      refine (HX.out _).mono ?_
      rintro e w2 ⟨rfl, b2⟩
      have g2 := b1.trans (b2.mono b1.size)
      clear HX b1 b2
      go_wp2_with fail
      refine (HS.out _ g2).mono ?_
      rintro e w3 ⟨rfl, b3⟩
      have g3 := g2.trans (b3.mono g2.size)
      clear HS b3 g2
      go_wp2
      go_ret2
      exact ⟨rfl, g3⟩

/-- Convert's count and error. -/
def cvE (T : List UInt8) (f t n : Int) : Int := if decide (0 ≤ f ∧ f ≤ 3) = false then 12 else if decide (0 ≤ t ∧ t ≤ 3) = false then 12 else if toE (tx T) f n = 0 then frE (tx T) t (toB (tx T) f n) else toE (tx T) f n
def cvB (T : List UInt8) (f t n : Int) : Int := if decide (0 ≤ f ∧ f ≤ 3) = false then 0 else if decide (0 ≤ t ∧ t ≤ 3) = false then 0 else if toE (tx T) f n = 0 then frB (tx T) t (toB (tx T) f n) else 0

set_option maxHeartbeats 4000000 in
set_option maxRecDepth 100000 in
/-- Convert. -/
theorem mconv_any (tb : Nat × Nat) {g : Nat} {T : List UInt8} {w : World} (f t n : Int) (h : RpA (strongE tb) w (.pointer (some ⟨g, 0, none⟩)) T) (hz : T.length ≤ 20000) (hn : -9223372036854775808 ≤ n ∧ n ≤ 9223372036854775807) (hT : Tabs w tb) :
    Calls Tryz.prog 13 #[.pointer (some ⟨g, 0, none⟩), .int .i64 f, .int .i64 t, .int .i64 n] w fun e w' => e = .returned (.tuple #[.int .i64 (cvB T f t n), .int .i64 (cvE T f t n)]) ∧ Below w.heap.size w w' := by
  have HK1 : Hid (∀ W, Tabs W tb → Calls Tryz.prog 34 #[.int .i64 f] W fun e w' => e = .returned (.bool (decide (0 ≤ f ∧ f ≤ 3))) ∧ Below W.heap.size W w') := fun W hW => mknown_any tb f W hW
  have HK2 : Hid (∀ W, Tabs W tb → Calls Tryz.prog 34 #[.int .i64 t] W fun e w' => e = .returned (.bool (decide (0 ≤ t ∧ t ≤ 3))) ∧ Below W.heap.size W w') := fun W hW => mknown_any tb t W hW
  have HTO : Hid (∀ W, Below w.heap.size w W → Calls Tryz.prog 9 #[.pointer (some ⟨g, 0, none⟩), .int .i64 f, .int .i64 n] W fun e w' => e = .returned (.tuple #[.int .i64 (toB (tx T) f n), .int .i64 (toE (tx T) f n)]) ∧ Below W.heap.size W w') := fun W hW => mto_any tb f n (Or.inr (h.later hW)) hz hn (hT.later hW)
  have HFR : Hid (∀ W, Below w.heap.size w W → Calls Tryz.prog 11 #[.pointer (some ⟨g, 0, none⟩), .int .i64 t, .int .i64 (toB (tx T) f n)] W fun e w' => e = .returned (.tuple #[.int .i64 (frB (tx T) t (toB (tx T) f n)), .int .i64 (frE (tx T) t (toB (tx T) f n))]) ∧ Below W.heap.size W w') := fun W hW => mfrom_any tb t (toB (tx T) f n) (h.later hW) hz (hT.later hW)
  unfold cvB cvE
  generalize frB (tx T) t (toB (tx T) f n) = rB at *
  generalize frE (tx T) t (toB (tx T) f n) = rE at *
  generalize toB (tx T) f n = qB at *
  generalize toE (tx T) f n = qE at *
  have HT := Hid.mk4 hT
  clear h hT
  generalize hd1 : decide (0 ≤ f ∧ f ≤ 3) = d1 at *
  generalize hd2 : decide (0 ≤ t ∧ t ≤ 3) = d2 at *
  clear hd1 hd2
  cases d1 with
  | false =>
    simp only [reduceIte]
    go_enter Tryz.func13, Tryz.ntmps13
    go_wp2_with fail
    refine (HK1.out _ HT.out).mono ?_
    rintro e w1 ⟨rfl, b1⟩
    clear HK1
    go_wp2
    go_ret2
    exact ⟨rfl, b1⟩
  | true =>
    simp only [reduceIte, Bool.true_eq_false]
    cases d2 with
    | false =>
      simp only [reduceIte]
      go_enter Tryz.func13, Tryz.ntmps13
      go_wp2_with fail
      refine (HK1.out _ HT.out).mono ?_
      rintro e w1 ⟨rfl, b1⟩
      clear HK1
      go_wp2_with fail
      refine (HK2.out _ (HT.out.later b1)).mono ?_
      rintro e w2 ⟨rfl, b2⟩
      have g2 := b1.trans (b2.mono b1.size)
      clear HK2 b1 b2
      go_wp2
      go_ret2
      exact ⟨rfl, g2⟩
    | true =>
      simp only [reduceIte, Bool.true_eq_false]
      by_cases hq : qE = 0
      · subst hq
        rw [if_pos rfl, if_pos rfl]
        go_enter Tryz.func13, Tryz.ntmps13
        go_wp2_with fail
        refine (HK1.out _ HT.out).mono ?_
        rintro e w1 ⟨rfl, b1⟩
        clear HK1
        go_wp2_with fail
        refine (HK2.out _ (HT.out.later b1)).mono ?_
        rintro e w2 ⟨rfl, b2⟩
        have g2 := b1.trans (b2.mono b1.size)
        clear HK2 b1 b2
        go_wp2_with fail
        refine (HTO.out _ g2).mono ?_
        rintro e w3 ⟨rfl, b3⟩
        have g3 := g2.trans (b3.mono g2.size)
        clear HTO b3 g2
        go_wp2_with fail
        refine (HFR.out _ g3).mono ?_
        rintro e w4 ⟨rfl, b4⟩
        have g4 := g3.trans (b4.mono g3.size)
        clear HFR b4 g3
        go_wp2
        go_ret2
        exact ⟨rfl, g4⟩
      · rw [if_neg hq, if_neg hq]
        have q1 : (qE != 0) = true := by simpa using hq
        have q2 : (qE == 0) = false := by simpa using hq
        clear hq HFR
        go_enter Tryz.func13, Tryz.ntmps13
        go_wp2_with fail
        refine (HK1.out _ HT.out).mono ?_
        rintro e w1 ⟨rfl, b1⟩
        clear HK1
        go_wp2_with fail
        refine (HK2.out _ (HT.out.later b1)).mono ?_
        rintro e w2 ⟨rfl, b2⟩
        have g2 := b1.trans (b2.mono b1.size)
        clear HK2 b1 b2
        go_wp2_with fail
        refine (HTO.out _ g2).mono ?_
        rintro e w3 ⟨rfl, b3⟩
        have g3 := g2.trans (b3.mono g2.size)
        clear HTO b3 g2
        go_wp2
        go_ret2
        exact ⟨rfl, g3⟩
end Go.Proofs.YtfgefdkkjfjjjabGreatDoor
namespace Go.Proofs.YtfgefdkkjfjjjabGreatDoor
open Go.RowKit Go.Sort
set_option linter.unusedSimpArgs false
set_option linter.unusedVariables false

theorem knd {k : Int} (hk : 0 ≤ k ∧ k ≤ 3) : decide (0 ≤ k ∧ k ≤ 3) = true := by simpa using hk
theorem to_eqs {T : List UInt8} (hv : vld T = true) {k : Int} (hk : 0 ≤ k ∧ k ≤ 3) (n : Int) :
    toE (tx T) k n = (if n < 0 ∨ kT k T < n then 10 else if kG k (rch k n [] (pts T)) = n then 0 else if k = 2 then 50 else 11) ∧ toB (tx T) k n = (if n < 0 ∨ kT k T < n then 0 else if kG k (rch k n [] (pts T)) = n then kB (rch k n [] (pts T)) else 0) := by
  have hc : ctb (tx T) k = true := by rw [ctb_valid hv]; exact knd hk
  unfold toE toB
  rw [hc]
  exact ⟨rfl, rfl⟩
/-- To's answers, by kind. -/
theorem to_vals {T : List UInt8} (hv : vld T = true) {k : Int} (hk : 0 ≤ k ∧ k ≤ 3) (n : Int) : ((n < 0 ∨ kT k T < n) ∧ toE (tx T) k n = 10) ∨ (¬ (n < 0 ∨ kT k T < n) ∧ (toE (tx T) k n = 0 ∨ toE (tx T) k n = 11 ∨ toE (tx T) k n = 50)) := by
  obtain ⟨e, _⟩ := to_eqs hv hk n
  rw [e]
  by_cases h : n < 0 ∨ kT k T < n
  · rw [if_pos h]; exact Or.inl ⟨h, rfl⟩
  · rw [if_neg h]
    refine Or.inr ⟨h, ?_⟩
    split
    · exact Or.inl rfl
    · split
      · exact Or.inr (Or.inr rfl)
      · exact Or.inr (Or.inl rfl)
/-- Where To comes to. -/
theorem to_place {T : List UInt8} (hv : vld T = true) {k : Int} (hk : 0 ≤ k ∧ k ≤ 3) {n : Int} (h : toE (tx T) k n = 0) : ∃ cs1 cs2, pts T = cs1 ++ cs2 ∧ toB (tx T) k n = ((flat cs1).length : Nat) ∧ kG k cs1 = n := by
  obtain ⟨e, e'⟩ := to_eqs hv hk n
  rw [e] at h
  by_cases h1 : n < 0 ∨ kT k T < n
  · rw [if_pos h1] at h; cases h
  · rw [if_neg h1] at h e'
    by_cases h2 : kG k (rch k n [] (pts T)) = n
    · rw [if_pos h2] at e'
      obtain ⟨r1, r2, f1, f2, _, _⟩ := rch_split k n (pts T) []
      rw [List.nil_append] at f2
      rw [f2] at e' h2
      exact ⟨r1, r2, f1, e', h2⟩
    · rw [if_neg h2] at h
      split at h <;> cases h
theorem fr_place {T : List UInt8} (hv : vld T = true) {cs1 cs2 : List Int} (h : pts T = cs1 ++ cs2) {k : Int} (hk : 0 ≤ k ∧ k ≤ 3) : frB (tx T) k ((flat cs1).length : Nat) = kG k cs1 ∧ frE (tx T) k ((flat cs1).length : Nat) = 0 := by
  obtain ⟨m, rfl⟩ := Int.eq_ofNat_of_zero_le hk.1
  exact fr_edge (s := tx T) hv h m (by omega)
theorem cv_eqs {T : List UInt8} {f t : Int} (hf : 0 ≤ f ∧ f ≤ 3) (ht : 0 ≤ t ∧ t ≤ 3) (n : Int) :
    cvE T f t n = (if toE (tx T) f n = 0 then frE (tx T) t (toB (tx T) f n) else toE (tx T) f n) ∧ cvB T f t n = (if toE (tx T) f n = 0 then frB (tx T) t (toB (tx T) f n) else 0) := by
  unfold cvE cvB
  rw [knd hf, knd ht]
  exact ⟨rfl, rfl⟩
theorem cv_known {T : List UInt8} (hv : vld T = true) {f t : Int} (hf : 0 ≤ f ∧ f ≤ 3) (ht : 0 ≤ t ∧ t ≤ 3) (n : Int) : cvE T f t n = toE (tx T) f n := by
  rw [(cv_eqs hf ht n).1]
  by_cases h : toE (tx T) f n = 0
  · obtain ⟨cs1, cs2, h1, h2, _⟩ := to_place hv hf h
    rw [if_pos h, h2, (fr_place hv h1 ht).2, h]
  · rw [if_neg h]
theorem cv_place {T : List UInt8} (hv : vld T = true) {f t : Int} (hf : 0 ≤ f ∧ f ≤ 3) (ht : 0 ≤ t ∧ t ≤ 3) {n : Int} (h : cvE T f t n = 0) : ∃ cs1 cs2, pts T = cs1 ++ cs2 ∧ kG f cs1 = n ∧ cvB T f t n = kG t cs1 := by
  rw [cv_known hv hf ht] at h
  obtain ⟨cs1, cs2, h1, h2, h3⟩ := to_place hv hf h
  refine ⟨cs1, cs2, h1, h3, ?_⟩
  rw [(cv_eqs hf ht n).2, if_pos h, h2, (fr_place hv h1 ht).1]
theorem cv_none {T : List UInt8} {f t : Int} (h : ¬ (0 ≤ f ∧ f ≤ 3) ∨ ¬ (0 ≤ t ∧ t ≤ 3)) (n : Int) : cvE T f t n = 12 ∧ cvB T f t n = 0 := by
  unfold cvE cvB
  rcases h with h | h
  · rw [decide_eq_false h]
    exact ⟨rfl, rfl⟩
  · rw [decide_eq_false h]
    constructor
    · split <;> rfl
    · split <;> rfl
/-- Of what is given by an edge, in kinds without lines. -/
theorem cv_edge {T : List UInt8} (hv : vld T = true) {cs1 cs2 : List Int} (h : pts T = cs1 ++ cs2) {f t : Int} (hf : 0 ≤ f ∧ f ≤ 2) (ht : 0 ≤ t ∧ t ≤ 3) : cvE T f t (kG f cs1) = 0 ∧ cvB T f t (kG f cs1) = kG t cs1 := by
  obtain ⟨m, rfl⟩ := Int.eq_ofNat_of_zero_le hf.1
  obtain ⟨e1, e2⟩ := to_edge_same (s := tx T) hv h m (by omega)
  have hf' : (0 : Int) ≤ (m : Int) ∧ (m : Int) ≤ 3 := by omega
  refine ⟨?_, ?_⟩
  · rw [cv_known hv hf' ht]; exact e1
  · rw [(cv_eqs hf' ht _).2]
    change (if toE (tx T) (m : Int) (kG (m : Int) cs1) = 0 then frB (tx T) t (toB (tx T) (m : Int) (kG (m : Int) cs1)) else 0) = _
    have e2' : toB (tx T) (m : Int) (kG (m : Int) cs1) = ((flat cs1).length : Nat) := e2
    rw [if_pos e1, e2', (fr_place hv h ht).1]
/-- There and back. -/
theorem cv_back {T : List UInt8} (hv : vld T = true) {a b : Int} (ha : 0 ≤ a ∧ a ≤ 2) (hb : 0 ≤ b ∧ b ≤ 2) {k : Int} (h : cvE T a b k = 0) : cvE T b a (cvB T a b k) = 0 ∧ cvB T b a (cvB T a b k) = k := by
  obtain ⟨cs1, cs2, h1, h2, h3⟩ := cv_place hv (by omega) (by omega) h
  obtain ⟨e1, e2⟩ := cv_edge hv h1 hb (t := a) (by omega)
  rw [h3]
  exact ⟨e1, by rw [e2, h2]⟩
theorem cv_end {T : List UInt8} (hv : vld T = true) {a b : Int} (ha : 0 ≤ a ∧ a ≤ 2) (hb : 0 ≤ b ∧ b ≤ 2) : cvE T a b (kT a T) = 0 ∧ cvB T a b (kT a T) = kT b T ∧ cvE T a b (kT a T + 1) = 10 := by
  obtain ⟨e1, e2⟩ := cv_edge hv (show pts T = pts T ++ [] by simp) ha (t := b) (by omega)
  refine ⟨e1, e2, ?_⟩
  rw [cv_known hv (by omega) (by omega)]
  rcases to_vals hv (show 0 ≤ a ∧ a ≤ 3 by omega) (kT a T + 1) with ⟨_, h⟩ | ⟨h, _⟩
  · exact h
  · exact absurd (Or.inr (by omega)) h

def abc : List UInt8 := [97, 10, 98, 10, 99]
theorem vld_abc : vld abc = true := by decide +kernel

set_option maxHeartbeats 4000000 in
set_option maxRecDepth 100000 in
/-- known, of the statements. -/
theorem known5_any (tb : Nat × Nat) (w : World) (hT : Tabs w tb) :
    Calls Tryz.prog 4 #[] w fun e w' => e = .returned (.bool true) ∧ Below w.heap.size w w' := by
  have HN : Hid (Calls Tryz.prog 5 #[.string ⟨#[97, 10, 98, 10, 99]⟩] w fun e w' => ∃ g, e = .returned (.tuple #[.pointer (some ⟨g, 0, none⟩), .int .i64 0]) ∧ RpA (strongE tb) w' (.pointer (some ⟨g, 0, none⟩)) abc ∧ Below w.heap.size w w') := by
    have e : cln (⟨#[97, 10, 98, 10, 99]⟩ : ByteArray).data.toList = abc := cln_of_valid vld_abc
    have := new_ok (strongE tb) tb (strong_tab tb) ⟨#[97, 10, 98, 10, 99]⟩ w (by decide) (by rw [e]; decide) (by rw [e]; exact strong_Dt tb (by decide)) hT
    refine this.mono ?_
    rintro e' w' ⟨r', he, hr', hb⟩
    obtain ⟨g', rfl⟩ := hr'.ptr
    rw [e] at hr'
    exact ⟨g', he, hr', hb⟩
  have v1 : cvB abc 3 0 2 = 4 ∧ cvE abc 3 0 2 = 0 := by decide +kernel
  have v2 := (cv_none (T := abc) (f := 3) (t := 9) (Or.inr (by decide)) 2)
  have v3 : toB (tx []) 1 0 = 0 ∧ toE (tx []) 1 0 = 0 := by decide +kernel
  have v4 : kT 3 abc = 2 := by decide +kernel
  have HC1 : Hid (∀ W g, RpA (strongE tb) W (.pointer (some ⟨g, 0, none⟩)) abc → Tabs W tb → Calls Tryz.prog 13 #[.pointer (some ⟨g, 0, none⟩), .int .i64 3, .int .i64 0, .int .i64 2] W fun e w' => e = .returned (.tuple #[.int .i64 4, .int .i64 0]) ∧ Below W.heap.size W w') := fun W g hg hW => by
    have := mconv_any tb 3 0 2 hg (by decide) (by omega) hW
    rw [v1.1, v1.2] at this
    exact this
  have HC2 : Hid (∀ W g, RpA (strongE tb) W (.pointer (some ⟨g, 0, none⟩)) abc → Tabs W tb → Calls Tryz.prog 13 #[.pointer (some ⟨g, 0, none⟩), .int .i64 3, .int .i64 9, .int .i64 2] W fun e w' => e = .returned (.tuple #[.int .i64 0, .int .i64 12]) ∧ Below W.heap.size W w') := fun W g hg hW => by
    have := mconv_any tb 3 9 2 hg (by decide) (by omega) hW
    rw [v2.1, v2.2] at this
    exact this
  have HTO : Hid (∀ W, Tabs W tb → Calls Tryz.prog 9 #[.pointer none, .int .i64 1, .int .i64 0] W fun e w' => e = .returned (.tuple #[.int .i64 0, .int .i64 0]) ∧ Below W.heap.size W w') := fun W hW => by
    have := mto_any tb (T := []) (w := W) 1 0 (Or.inl ⟨rfl, rfl⟩) (by decide) (by omega) hW
    rw [v3.1, v3.2] at this
    exact this
  have HWH : Hid (∀ W g, RpA (strongE tb) W (.pointer (some ⟨g, 0, none⟩)) abc → Tabs W tb → Calls Tryz.prog 14 #[.pointer (some ⟨g, 0, none⟩), .int .i64 3] W fun e w' => e = .returned (.int .i64 2) ∧ Below W.heap.size W w') := fun W g hg hW => by
    have := mwhole_any tb 3 (Or.inr hg) (by decide) hW
    rw [v4] at this
    exact this
  have HT := Hid.mk4 hT
  clear v1 v2 v3 v4 hT
  go_enter Tryz.func4, Tryz.ntmps4
  go_wp2_with fail
  refine HN.out.mono ?_
  rintro e w1 ⟨g, rfl, hr, b1⟩
  have R1 := Hid.mk4 hr
  have T1 := Hid.mk4 (HT.out.later b1)
  clear hr HN HT
  go_wp2_with fail
  refine (HC1.out _ g R1.out T1.out).mono ?_
  rintro e w2 ⟨rfl, b2⟩
  have R2 := Hid.mk4 (R1.out.later b2)
  have T2 := Hid.mk4 (T1.out.later b2)
  have g2 := b1.trans (b2.mono b1.size)
  clear R1 T1 b1 b2 HC1
  go_wp2_with fail
  refine (HC2.out _ g R2.out T2.out).mono ?_
  rintro e w3 ⟨rfl, b3⟩
  have R3 := Hid.mk4 (R2.out.later b3)
  have T3 := Hid.mk4 (T2.out.later b3)
  have g3 := g2.trans (b3.mono g2.size)
  clear R2 T2 b3 g2 HC2
  go_wp2_with fail
  refine (HTO.out _ T3.out).mono ?_
  rintro e w4 ⟨rfl, b4⟩
  have R4 := Hid.mk4 (R3.out.later b4)
  have T4 := Hid.mk4 (T3.out.later b4)
  have g4 := g3.trans (b4.mono g3.size)
  clear R3 T3 b4 g3 HTO
  go_wp2_with fail
  refine (HWH.out _ g R4.out T4.out).mono ?_
  rintro e w5 ⟨rfl, b5⟩
  have g5 := g4.trans (b5.mono g4.size)
  clear R4 T4 b5 g4 HWH
  go_wp2
  go_ret
  exact ⟨rfl, g5⟩
/-- New, of a short text. -/
theorem new_short (tb : Nat × Nat) (s : ByteArray) (w : World) (hs : s.size ≤ 300) (hT : Tabs w tb) :
    Calls Tryz.prog 5 #[.string s] w fun e w' => ∃ g, e = .returned (.tuple #[.pointer (some ⟨g, 0, none⟩), .int .i64 0]) ∧ RpA (strongE tb) w' (.pointer (some ⟨g, 0, none⟩)) (cln s.data.toList) ∧ Below w.heap.size w w' := by
  have hl := cln_length s.data.toList
  rw [bytes_length] at hl
  have := new_ok (strongE tb) tb (strong_tab tb) s w (by omega) (by omega) (strong_Dt tb (by omega)) hT
  refine this.mono ?_
  rintro e' w' ⟨r', he, hr', hb⟩
  obtain ⟨g', rfl⟩ := hr'.ptr
  exact ⟨g', he, hr', hb⟩
end Go.Proofs.YtfgefdkkjfjjjabGreatDoor
