/- Two deltas at once, by cells and by elements: plain mathematics (layer 13; written ahead of its code). -/
import Derived.Test.YtmgjfmgkmlfjeaaDoorComBack
namespace Go.Proofs.YtmgjfmgkmlfjeaaDoor
set_option linter.unusedSimpArgs false
set_option linter.unusedVariables false

theorem cel_puc {c : Ce} {es : List El} (h : ∀ e ∈ es, Gd1 e) (hc : c.1 = -1 ∨ (0 ≤ c.1 ∧ c.2 = 0)) : cel (puc c es) = c :: cel es := by
  obtain ⟨p, b⟩ := c
  unfold puc
  by_cases h0 : p < 0
  · have hp : p = -1 := by rcases hc with h1 | h1 <;> simp only at h1 <;> omega
    subst hp
    simp only [show ((-1 : Int) < 0) = True from by simp, if_true]
    cases es with
    | nil => simp [cel, ce1, ownT, rng_none]
    | cons e r =>
      obtain ⟨f, t, T⟩ := e
      by_cases hT : T = []
      · simp only [if_pos hT]
        rw [cel_cons]
        simp [ce1, ownT, rng_none]
      · simp only [if_neg hT]
        rcases h (f, t, T) (by simp) with ⟨h1, _⟩ | ⟨_, h2, h3⟩
        · exact absurd h1 hT
        · simp only at h2 h3
          subst h2 h3
          rw [cel_cons, cel_cons]
          simp [ce1, ownT, rng_none]
  · have hb : b = 0 := by
      rcases hc with h1 | h1
      · simp only at h1; omega
      · exact h1.2
    subst hb
    simp only [if_neg h0]
    cases es with
    | nil =>
      rw [cel_cons]
      show (ownT [] ++ rng p (p + 1)) ++ cel [] = _
      rw [rng_cons (by omega), rng_none (Int.le_refl _)]; rfl
    | cons e r =>
      obtain ⟨f, t, T⟩ := e
      by_cases hT : T = [] ∧ f = p + 1
      · obtain ⟨h1, h2⟩ := hT
        subst h1 h2
        rcases h (p + 1, t, []) (by simp) with ⟨_, _, h3⟩ | ⟨h1, _⟩
        · simp only at h3
          simp only [true_and, if_true]
          rw [cel_cons, cel_cons]
          show (ownT [] ++ rng p t) ++ cel r = _
          rw [rng_cons (by omega)]; rfl
        · exact absurd rfl h1
      · show cel (if T = [] ∧ f = p + 1 then (p, t, []) :: r else (p, p + 1, []) :: (f, t, T) :: r) = _
        rw [if_neg hT, cel_cons]
        show (ownT [] ++ rng p (p + 1)) ++ cel ((f, t, T) :: r) = _
        rw [rng_cons (by omega), rng_none (Int.le_refl _)]; rfl
theorem up_one {base : Int} : ∀ (cs : List Ce) (a : Int), 0 ≤ a → Up base a cs → ∀ c ∈ cs, c.1 = -1 ∨ (0 ≤ c.1 ∧ c.1 < base ∧ c.2 = 0)
  | [], _, _, _, c, hc => by cases hc
  | d :: cs, a, h0, h, c, hc => by
    unfold Up at h
    split at h
    · rcases List.mem_cons.1 hc with rfl | hc
      · exact Or.inl h.1
      · exact up_one cs a h0 h.2 c hc
    · rcases List.mem_cons.1 hc with rfl | hc
      · exact Or.inr ⟨by omega, h.2.1, h.2.2.1⟩
      · exact up_one cs (d.1 + 1) (by omega) h.2.2.2 c hc
theorem cel_tld : ∀ (l : List Ce), (∀ c ∈ l, c.1 = -1 ∨ (0 ≤ c.1 ∧ c.2 = 0)) → cel (tld l) = l
  | [], _ => rfl
  | c :: l, h => by
    rw [tld_cons, cel_puc (tld_gd l) (h c (by simp)), cel_tld l fun x hx => h x (by simp [hx])]
theorem cel_tld_up {base : Int} {l : List Ce} (h : Up base 0 l) : cel (tld l) = l :=
  cel_tld l fun c hc => by
    rcases up_one l 0 (Int.le_refl _) h c hc with h1 | h1
    · exact Or.inl h1
    · exact Or.inr ⟨h1.1, h1.2.2⟩
/-- What bytes that go up make a delta. -/
theorem isB_tld {base : Int} {l : List Ce} (hb : 0 ≤ base ∧ base ≤ 20000) (h : Up base 0 l) (hl : l.length ≤ 20000) (hv : ∀ e ∈ tld l, vld e.2.2 = true) (hm : (tld l).length ≤ 60) : isB base (tld l) = true := by
  have hn := up_nm l 0 (Int.le_refl _) h
  refine isB_spec.2 ⟨⟨hb.1, hb.2, hm⟩, hn, hv, ?_⟩
  rw [← cel_size _ 0 0 hn, cel_tld_up h]
  omega
theorem up_inC {base : Int} {n : Nat} {B : List Ce} (h : Up base 0 B) (hn : base ≤ n) : InC n B := fun c hc => by
  rcases up_one B 0 (Int.le_refl _) h c hc with h1 | h1
  · exact Or.inl (by omega)
  · exact Or.inr (by omega)
/-- Two deltas at once go up. -/
theorem two_up {a b : Int} {ea eb : List El} (ha : isB a ea = true) (hb : isB b eb = true) (hl : b = ((cel ea).length : Nat)) : Up a 0 (twoC (cel ea) (cel eb)) := by
  have na := (isB_spec.1 ha).2.1
  have nb := (isB_spec.1 hb).2.1
  subst hl
  have h1 := up_cel ea 0 0 (Int.le_refl _) na
  have h2 := up_cel eb 0 0 (Int.le_refl _) nb
  exact up_two (cel eb) 0 0 (by simpa using h2) (by simpa using h1)
/-- One change of what was made. -/
theorem two_change {D : List Ce} {p q : Nat} {T : List UInt8} (hpq : p ≤ q) (hq : q ≤ D.length) : twoC D (rng 0 p ++ (ownT T ++ rng q (D.length : Nat))) = D.take p ++ (ownT T ++ D.drop q) := by
  rw [twoC_append, twoC_append, twoC_own, twoC_rng (Int.le_refl _) (by omega) (by omega), twoC_rng (by omega) (by omega) (Int.le_refl _)]
  have e1 : (List.drop (0 : Int).toNat D).take ((p : Int) - 0).toNat = D.take p := by simp
  have e2 : (D.drop ((q : Int)).toNat).take (((D.length : Nat) : Int) - (q : Int)).toNat = D.drop q := by
    rw [Int.toNat_natCast, List.take_of_length_le (by rw [List.length_drop]; omega)]
  rw [e1, e2]
theorem bce_one_change (n p q : Int) (T : List UInt8) : bce n 0 [(p, q, T)] = rng 0 p ++ (ownT T ++ rng q n) := by
  simp [bce]
/-- ONE CHANGE MORE, behind a delta of valid pieces. -/
theorem step_two {s : List UInt8} {es : List El} {p q : Nat} {T : List UInt8} (hi : isB (s.length : Nat) es = true) (ho : ∀ e ∈ es, Ok1 s e) (hpq : p ≤ q) (hq : q ≤ (cel es).length)
    (vp : vld ((apl (cel es) s).take p) = true) (vq : vld ((apl (cel es) s).take q) = true) (hT : vld T = true) (hsz : (cel es).length + T.length ≤ 20000) (hm : es.length + 2 ≤ 60) :
    ∃ E, tld (twoC (cel es) (bce (cel es).length 0 [((p : Int), (q : Int), T)])) = E ∧ isB (s.length : Nat) E = true ∧ (∀ e ∈ E, Ok1 s e) ∧ E.length ≤ es.length + 2 ∧ cel E = (cel es).take p ++ (ownT T ++ (cel es).drop q) ∧ apl (cel E) s = (apl (cel es) s).take p ++ (T ++ (apl (cel es) s).drop q) := by
  obtain ⟨h1, h2, _, _⟩ := isB_spec.1 hi
  have hb := bce_one_change ((cel es).length : Nat) (p : Int) (q : Int) T
  have htc := two_change (T := T) hpq hq
  rw [← hb] at htc
  obtain ⟨a1, a2⟩ := two_ok1 ho hpq hq vp vq hT
  have hup : Up (s.length : Nat) 0 ((cel es).take p ++ (ownT T ++ (cel es).drop q)) := by
    rw [← htc]
    have u1 := up_cel es 0 0 (Int.le_refl _) h2
    refine up_two _ 0 0 ?_ (by simpa using u1)
    rw [hb]
    have u2 : Up ((cel es).length : Nat) (q : Int) (rng q (cel es).length ++ []) := up_rng (cs := []) trivial _ q q rfl (Int.le_refl _) (by omega) (by omega) (Int.le_refl _)
    rw [List.append_nil] at u2
    have u3 := up_own (a := (p : Int)) T (up_mono _ (p : Int) (q : Int) (by omega) u2)
    have u4 := up_rng (a := 0) u3 (p - 0) 0 (by simp) (Int.le_refl _) (Int.le_refl _) (by omega) (by omega)
    simpa using u4
  have hlen : ((cel es).take p ++ (ownT T ++ (cel es).drop q)).length ≤ 20000 := by
    rw [List.length_append, List.length_append, List.length_take, List.length_drop, own_len]
    omega
  refine ⟨_, rfl, ?_, ?_, ?_, ?_, ?_⟩
  · rw [htc]
    exact isB_tld ⟨h1.1, h1.2.1⟩ hup hlen (fun e he => (a1 e he).vt) (by omega)
  · rw [htc]; exact a1
  · rw [htc]; exact a2
  · rw [htc]; exact cel_tld_up hup
  · rw [htc, cel_tld_up hup, apl_append, apl_append, apl_own]
    congr 1
    · simp [apl, List.map_take]
    · congr 1
      simp [apl, List.map_drop]
end Go.Proofs.YtmgjfmgkmlfjeaaDoor
