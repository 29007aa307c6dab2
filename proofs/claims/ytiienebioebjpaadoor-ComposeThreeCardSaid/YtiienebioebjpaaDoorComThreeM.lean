/- Three deltas of ASCII, whichever two are put together first; the law's ascii (layer 13). -/
import Derived.Test.YtiienebioebjpaaDoorComBothM
import Derived.Test.YtiienebioebjpaaDoorComThree
namespace Go.Proofs.YtiienebioebjpaaDoor
open Go.RowKit Go.Sort Go.Lib
set_option linter.unusedSimpArgs false
set_option linter.unusedVariables false

theorem elG_one4 {n f q : Int} {T : List UInt8} : (elG n [] 0 [(f, q, T)]).length ≤ 4 := by
  have h0 : ∀ T : List UInt8, (tx T).length ≤ 1 := fun T => by unfold tx; split <;> simp
  have h1 : ∀ (U : List UInt8) (e : Int), (elG n U e []).length ≤ 2 := fun U e => by
    simp only [elG, List.length_append]
    have := h0 U
    split <;> simp <;> omega
  have h2 := h0 []
  simp only [elG]
  split
  · have := h1 [] 0
    simp only [elG] at this
    omega
  · split
    · have := h1 T q
      simp only [elG] at this
      simp only [List.length_append, List.length_cons]
      simp only [List.length_append] at this
      omega
    · have := h1 ([] ++ T) q
      simp only [elG] at this
      omega
/-- A delta of one change of ASCII. -/
structure Asc (n p q : Nat) (T : List UInt8) (D : List El) : Prop where
  fl : flt (n : Nat) [((p : Int), (q : Int), T)] = 0
  eq : elG (n : Nat) [] 0 [((p : Int), (q : Int), T)] = D
  iB : isB (n : Nat) D = true
  ac : AsC (cel D)
  le : D.length ≤ 4
  ce : cel D = bce (n : Nat) 0 [((p : Int), (q : Int), T)]
  ln : (cel D).length ≤ n + 10
theorem asc_of {n p q : Nat} {T : List UInt8} (hn : n ≤ 200) (hpq : p ≤ q) (hq : q ≤ n) (hT : ∀ b ∈ T, b.toNat < 128) (hl : T.length ≤ 10) : ∃ D, Asc n p q T D := by
  have hf : flt (n : Nat) [((p : Int), (q : Int), T)] = 0 := by
    have e1 : wthB (n : Nat) [((p : Int), (q : Int), T)] = true := by simp [wthB, wthE]; omega
    have e2 : ordB [((p : Int), (q : Int), T)] = true := rfl
    have e3 : vldB [((p : Int), (q : Int), T)] = true := by simp [vldB, vld_ascii T hT]
    have e4 : sz8 (n : Nat) [((p : Int), (q : Int), T)] ≤ 20000 := by simp [sz8]; omega
    unfold flt
    rw [e1, e2, e3, decide_eq_true (show (0 : Int) ≤ (n : Nat) ∧ ((n : Nat) : Int) ≤ 20000 by omega), if_neg (by simp), if_neg (by simp), if_neg (by simp), if_neg (by omega)]
  have hD := isB_elG hf elG_one
  have hc : cel (elG (n : Nat) [] 0 [((p : Int), (q : Int), T)]) = bce (n : Nat) 0 [((p : Int), (q : Int), T)] := by
    rw [cel_elG _ [] 0 (gd_of hf).ch]; simp [ownT]
  refine ⟨_, hf, rfl, hD, ?_, elG_one4, hc, ?_⟩
  · rw [hc, bce_one_change]
    exact asC_append (asC_rng (Int.le_refl _)) (asC_append (asC_own hT) (asC_rng (by omega)))
  · rw [hc, bce_one_change]
    simp only [List.length_append, rng_len, own_len]
    omega
/-- Two of them, one behind the other. -/
theorem asc_two {n m p q : Nat} {T : List UInt8} {E D : List El} (hi : isB (n : Nat) E = true) (ha : AsC (cel E)) (hm : (cel E).length = m) (hl : E.length ≤ 50) (hz : m ≤ 10000) (h : Asc m p q T D) (hpq : p ≤ q) (hq : q ≤ m) (hT : ∀ b ∈ T, b.toNat < 128) (htl : T.length ≤ 10) :
    ∃ F, tld (twoC (cel E) (cel D)) = F ∧ isB (n : Nat) F = true ∧ AsC (cel F) ∧ F.length ≤ E.length + 2 ∧ cel F = twoC (cel E) (cel D) := by
  subst hm
  obtain ⟨F, e1, e2, e3, e4, _, e6⟩ := step_asc (n := n) (T := T) hi ha hpq hq hT (by omega) (by omega)
  rw [h.ce]
  exact ⟨F, e1, e2, e3, e4, e6⟩
/-- What ComposeThree asks. -/
structure Thr (n0 n1 n2 : Nat) (D0 D1 D2 E01 E12 E : List El) : Prop where
  i0 : isB (n0 : Nat) D0 = true
  i1 : isB (n1 : Nat) D1 = true
  i2 : isB (n2 : Nat) D2 = true
  l0 : (((cel D0).length : Nat) : Int) = (n1 : Nat)
  l1 : (((cel D1).length : Nat) : Int) = (n2 : Nat)
  la : (((cel E01).length : Nat) : Int) = (n2 : Nat)
  ia : isB (n0 : Nat) E01 = true
  ic : isB (n1 : Nat) E12 = true
  iE : isB (n0 : Nat) E = true
  ea : tld (twoC (cel D0) (cel D1)) = E01
  eb : tld (twoC (cel E01) (cel D2)) = E
  ec : tld (twoC (cel D1) (cel D2)) = E12
  ex : tld (twoC (cel D0) (cel E12)) = E
  al : AllOk (n0 : Nat) (KE (n0 : Nat)) [(((n0 : Nat) : Int), D0), (((n1 : Nat) : Int), D1), (((n2 : Nat) : Int), D2)]
  az : allE (KE (n0 : Nat)) [(((n0 : Nat) : Int), D0), (((n1 : Nat) : Int), D1), (((n2 : Nat) : Int), D2)] = E
theorem thr_of {n0 n1 n2 p0 q0 p1 q1 p2 q2 : Nat} {T0 T1 T2 : List UInt8} {D0 D1 D2 : List El} (h0 : Asc n0 p0 q0 T0 D0) (h1 : Asc n1 p1 q1 T1 D1) (h2 : Asc n2 p2 q2 T2 D2)
    (e1 : (cel D0).length = n1) (e2 : (cel D1).length = n2) (hn : n0 ≤ 100) (a1 : p1 ≤ q1 ∧ q1 ≤ n1) (a2 : p2 ≤ q2 ∧ q2 ≤ n2) (t1 : ∀ b ∈ T1, b.toNat < 128) (t2 : ∀ b ∈ T2, b.toNat < 128) (l1 : T1.length ≤ 10) (l2 : T2.length ≤ 10) :
    ∃ E01 E12 E, Thr n0 n1 n2 D0 D1 D2 E01 E12 E := by
  have k0 := h0.ln
  have k1 := h1.ln
  have m0 := h0.le
  have m1 := h1.le
  obtain ⟨E01, f1, f2, f3, f4, f5⟩ := asc_two h0.iB h0.ac e1 (by omega) (by omega) h1 a1.1 a1.2 t1 l1
  have la : (cel E01).length = n2 := by rw [f5, twoC_len]; exact e2
  obtain ⟨E, g1, g2, g3, g4, g5⟩ := asc_two f2 f3 la (by omega) (by omega) h2 a2.1 a2.2 t2 l2
  obtain ⟨E12, c1, c2, c3, c4, c5⟩ := asc_two h1.iB h1.ac e2 (by omega) (by omega) h2 a2.1 a2.2 t2 l2
  have hin : InC (cel D1).length (cel D2) := up_inC (up_cel D2 0 0 (Int.le_refl _) (dl_of h2.iB).nm) (by omega)
  have hx : tld (twoC (cel D0) (cel E12)) = E := by
    rw [c5, two_assoc hin, ← f5]; exact g1
  have hk := keep_ahead h0.iB
  refine ⟨E01, E12, E, h0.iB, h1.iB, h2.iB, by omega, by omega, by omega, f2, c2, g2, f1, g1, c1, hx, ?_, ?_⟩
  · refine ⟨isB_KE (by omega) (by omega), h0.iB, (keep_len (by omega)).symm, ?_⟩
    simp only
    rw [hk]
    refine ⟨h0.iB, h1.iB, by simp only; omega, ?_⟩
    simp only
    rw [f1]
    refine ⟨f2, h2.iB, by simp only; omega, ?_⟩
    show isB _ (tld (twoC (cel E01) (cel D2))) = true
    rw [g1]; exact g2
  · show tld (twoC (cel (tld (twoC (cel (tld (twoC (cel (KE (n0 : Nat))) (cel D0)))) (cel D1)))) (cel D2)) = E
    rw [hk, f1, g1]
/-- Whether all bytes are ASCII. -/
def asB (l : List UInt8) : Bool := l.all fun b => decide (b.toNat < 128)
theorem asB_of {l : List UInt8} (h : asB l = true) : ∀ b ∈ l, b.toNat < 128 := fun b hb => of_decide_eq_true (List.all_eq_true.1 h b hb)
set_option maxHeartbeats 1000000 in
set_option maxRecDepth 100000 in
theorem ascii_any {s : ByteArray} (hs : s.size ≤ maxLen) {x : Bool} (hx : asB s.data.toList = x) (w : World) :
    Calls Tryd.prog 29 #[.string s] w fun e w' => e = .returned (.bool x) ∧ w' = w := by
  subst hx
  unfold maxLen at hs
  have HG : Hid (∀ (k : Nat) (h : k < s.size), s.data.toList[k]? = some (s[k])) := fun k h => List.getElem?_eq_getElem (l := s.data.toList) h
  go_enter Tryd.func29, Tryd.ntmps29
  go_wp2
  go_loopw [3] (fun iv wr => ∃ k : Nat, k ≤ s.size ∧ iv = .int .i64 (k : Nat) ∧ Hid (asB (s.data.toList.take k) = true) ∧ w = wr) (fun iv _ => s.size - (intOf iv).toNat)
  case atStart => exact ⟨0, Nat.zero_le _, rfl, rfl, rfl⟩
  case round =>
    obtain ⟨k, hk, rfl, HS, rfl⟩ := hrel
    by_cases hlt : k < s.size
    · have hr := HG.out k hlt
      by_cases h8 : s[k].toNat < 128
      · have HS2 : Hid (asB (s.data.toList.take (k + 1)) = true) := by
          show _ = _
          have := all_take (p := fun b : UInt8 => decide (b.toNat < 128)) hr
          unfold asB
          rw [this]
          have h2 := HS.out
          unfold asB at h2
          rw [h2, decide_eq_true h8]; rfl
        have d1 : decide ((128 : Int) ≤ (s[k].toNat : Int)) = false := decide_eq_false (by omega)
        have d2 : decide (128 ≤ s[k].toNat) = false := decide_eq_false (by omega)
        clear HS hr
        go_wp2
        go_roundw
        case rel => exact ⟨k + 1, by omega, by go_num, HS2, trivial⟩
        case measure => simp [intOf]; omega
      · have HF : Hid (asB s.data.toList = false) := all_bad (p := fun b : UInt8 => decide (b.toNat < 128)) hr (decide_eq_false h8)
        have d1 : decide ((128 : Int) ≤ (s[k].toNat : Int)) = true := decide_eq_true (by omega)
        have d2 : decide (128 ≤ s[k].toNat) = true := decide_eq_true (by omega)
        clear HS hr
        go_wp2
        go_ret
        exact ⟨ret_boolE HF.out.symm, rfl⟩
    · obtain rfl : k = s.size := by omega
      have HF : Hid (asB s.data.toList = true) := by
        have := HS.out
        rw [List.take_of_length_le (show s.data.toList.length ≤ s.size from Nat.le_refl _)] at this
        exact this
      clear HS
      go_wp2
      go_ret
      exact ⟨ret_boolE HF.out.symm, rfl⟩
end Go.Proofs.YtiienebioebjpaaDoor
