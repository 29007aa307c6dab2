/- Changes of ASCII one behind the other: plain mathematics (layer 13; written ahead of its code). -/
import Derived.Test.YtelpinngimohoaaDoorComTwo
namespace Go.Proofs.YtelpinngimohoaaDoor
set_option linter.unusedSimpArgs false
set_option linter.unusedVariables false

theorem vld_ascii : ∀ (l : List UInt8), (∀ b ∈ l, b.toNat < 128) → vld l = true
  | [], _ => vld_nil
  | b :: l, h => by
    have hb := h b (by simp)
    have hz : sz1 (b :: l) = 1 := by
      unfold sz1
      rw [if_neg (by simp)]
      exact szI_one (by simp only [List.length_cons]; omega) (by simp [bl]; omega)
    rw [vld_step (by simp) (by rw [hz]; omega), hz]
    exact vld_ascii l fun x hx => h x (by simp [hx])
/-- What is put in is ASCII. -/
def AsC (cs : List Ce) : Prop := ∀ c ∈ cs, c.1 < 0 → c.2.toNat < 128
theorem asC_tld {base : Int} {cs : List Ce} (hu : Up base 0 cs) (h : AsC cs) : ∀ e ∈ tld cs, vld e.2.2 = true := by
  intro e he
  refine vld_ascii _ fun b hb => ?_
  have hc : ((-1 : Int), b) ∈ cel (tld cs) := by
    refine List.mem_flatMap.2 ⟨e, he, ?_⟩
    exact List.mem_append.2 (Or.inl (List.mem_map.2 ⟨b, hb, rfl⟩))
  rw [cel_tld_up hu] at hc
  exact h _ hc (by simp only; omega)
theorem asC_own {T : List UInt8} (h : ∀ b ∈ T, b.toNat < 128) : AsC (ownT T) := by
  intro c hc _
  obtain ⟨b, hb, rfl⟩ := List.mem_map.1 hc
  exact h b hb
theorem asC_append {a b : List Ce} (ha : AsC a) (hb : AsC b) : AsC (a ++ b) := fun c hc => by
  rcases List.mem_append.1 hc with hc | hc
  · exact ha c hc
  · exact hb c hc
theorem asC_take {a : List Ce} (h : AsC a) (n : Nat) : AsC (a.take n) := fun c hc => h c (List.mem_of_mem_take hc)
theorem asC_drop {a : List Ce} (h : AsC a) (n : Nat) : AsC (a.drop n) := fun c hc => h c (List.mem_of_mem_drop hc)
theorem asC_rng {f t : Int} (h : 0 ≤ f) : AsC (rng f t) := fun c hc hn => by
  obtain ⟨i, hi, rfl⟩ := List.mem_map.1 hc
  simp only at hn
  omega
/-- Elements cut anywhere. -/
theorem cut_gd : ∀ (es : List El) (n : Nat), (∀ e ∈ es, Gd1 e) → n ≤ (cel es).length →
    ∃ e1 e2, cel es = cel e1 ++ cel e2 ∧ (cel e1).length = n ∧ (∀ e ∈ e1, Gd1 e) ∧ (∀ e ∈ e2, Gd1 e) ∧ e1.length ≤ es.length ∧ e1.length + e2.length ≤ es.length + 1
  | es, 0, h, _ => ⟨[], es, rfl, rfl, fun e he => (by cases he), h, by simp, by simp⟩
  | [], n + 1, _, hn => by simp [cel] at hn
  | e :: es, n + 1, h, hn => by
    have he := h e (by simp)
    have hrest : ∀ x ∈ es, Gd1 x := fun x hx => h x (by simp [hx])
    rw [cel_cons, List.length_append] at hn
    by_cases hc : (ce1 e).length ≤ n + 1
    · obtain ⟨e1, e2, b1, b2, b3, b4, b5, b6⟩ := cut_gd es (n + 1 - (ce1 e).length) hrest (by omega)
      refine ⟨e :: e1, e2, by rw [cel_cons, cel_cons, b1, List.append_assoc], by rw [cel_cons, List.length_append]; omega, ?_, b4, by simp; omega, by simp; omega⟩
      intro x hx
      rcases List.mem_cons.1 hx with rfl | hx
      · exact he
      · exact b3 x hx
    · obtain ⟨f, t, T⟩ := e
      rcases he with ⟨h1, h2, h3⟩ | ⟨h1, h2, h3⟩
      · simp only at h1 h2 h3
        subst h1
        have hcl : (ce1 (f, t, [])).length = (t - f).toNat := by show (ownT [] ++ rng f t).length = _; simp [ownT, rng_len]
        rw [hcl] at hc
        refine ⟨[(f, f + ((n + 1 : Nat) : Int), [])], (f + ((n + 1 : Nat) : Int), t, []) :: es, ?_, ?_, ?_, ?_, by simp, by simp; omega⟩
        · rw [cel_cons, cel_cons, cel_cons, show ce1 (f, t, []) = rng f t from rfl, rng_split (m := f + ((n + 1 : Nat) : Int)) (by omega) (by omega)]
          simp [cel, ce1, ownT]
        · simp [cel, ce1, ownT, rng_len]; omega
        · intro x hx
          simp only [List.mem_singleton] at hx
          subst hx
          exact Or.inl ⟨rfl, h2, by simp only; omega⟩
        · intro x hx
          rcases List.mem_cons.1 hx with rfl | hx
          · exact Or.inl ⟨rfl, by simp only; omega, by simp only; omega⟩
          · exact hrest x hx
      · simp only at h1 h2 h3
        subst h2 h3
        have hcl : (ce1 ((0 : Int), (0 : Int), T)).length = T.length := by show (ownT T ++ rng 0 0).length = _; simp [own_len, rng_len]
        rw [hcl] at hc
        refine ⟨[(0, 0, T.take (n + 1))], (0, 0, T.drop (n + 1)) :: es, ?_, ?_, ?_, ?_, by simp, by simp; omega⟩
        · rw [cel_cons, cel_cons, cel_cons, show ce1 ((0 : Int), (0 : Int), T) = ownT T ++ rng 0 0 from rfl]
          have e1 : ownT T = ownT (T.take (n + 1)) ++ ownT (T.drop (n + 1)) := by
            conv => lhs; rw [← List.take_append_drop (n + 1) T]
            simp [ownT]
          rw [e1]
          simp [cel, ce1, rng_none]
        · simp [cel, ce1, own_len, rng_len]; omega
        · intro x hx
          simp only [List.mem_singleton] at hx
          subst hx
          refine Or.inr ⟨?_, rfl, rfl⟩
          intro e
          have h9 : (T.take (n + 1)).length = n + 1 := by rw [List.length_take]; omega
          simp only at e
          rw [e] at h9
          simp at h9
        · intro x hx
          rcases List.mem_cons.1 hx with rfl | hx
          · refine Or.inr ⟨?_, rfl, rfl⟩
            intro e
            have h9 : (T.drop (n + 1)).length = T.length - (n + 1) := List.length_drop
            simp only at e
            rw [e] at h9
            simp at h9
            omega
          · exact hrest x hx
theorem foldl_len : ∀ (es acc : List El), (es.foldl padd acc).length ≤ acc.length + es.length
  | [], acc => by simp
  | e :: es, acc => by
    have h3 := foldl_len es (padd acc e)
    have := padd_len acc e
    simp only [List.foldl_cons, List.length_cons]
    omega
theorem two_few {es : List El} {p q : Nat} {T : List UInt8} (h : ∀ e ∈ es, Gd1 e) (hpq : p ≤ q) (hq : q ≤ (cel es).length) : (tld ((cel es).take p ++ (ownT T ++ (cel es).drop q))).length ≤ es.length + 2 := by
  obtain ⟨c1, b2, e1, e2, e3, e4, e5, e6⟩ := cut_gd es q h hq
  obtain ⟨a1, a2, g1, g2, g3, g4, g5, g6⟩ := cut_gd c1 p e3 (by omega)
  have ht : (cel es).take p = cel a1 := by rw [e1, g1, List.append_assoc, List.take_left' g2]
  have hd : (cel es).drop q = cel b2 := by rw [e1, List.drop_left' e2]
  have hc : (cel es).take p ++ (ownT T ++ (cel es).drop q) = [] ++ cel (a1 ++ (tx T ++ b2)) := by
    rw [ht, hd, cel_append, cel_append, cel_tx]; rfl
  have hok : ∀ x ∈ a1 ++ (tx T ++ b2), Gd1 x := by
    intro x hx
    rcases List.mem_append.1 hx with hx | hx
    · exact g3 x hx
    · rcases List.mem_append.1 hx with hx | hx
      · unfold tx at hx
        split at hx
        · cases hx
        · rename_i hne
          simp only [List.mem_singleton] at hx
          subst hx
          exact Or.inr ⟨hne, rfl, rfl⟩
      · exact e4 x hx
  rw [hc, tld_elems hok]
  have h5 := foldl_len (a1 ++ (tx T ++ b2)) (tld [])
  have h7 : (tx T).length ≤ 1 := by unfold tx; split <;> simp
  have h8 : (tld ([] : List Ce)).length = 0 := rfl
  simp only [List.length_append] at h5
  omega
/-- ONE CHANGE OF ASCII MORE. -/
theorem step_asc {n : Nat} {es : List El} {p q : Nat} {T : List UInt8} (hi : isB (n : Int) es = true) (ho : AsC (cel es)) (hpq : p ≤ q) (hq : q ≤ (cel es).length) (hT : ∀ b ∈ T, b.toNat < 128)
    (hsz : (cel es).length + T.length ≤ 20000) (hm : es.length + 2 ≤ 60) :
    ∃ E, tld (twoC (cel es) (bce (cel es).length 0 [((p : Int), (q : Int), T)])) = E ∧ isB (n : Int) E = true ∧ AsC (cel E) ∧ E.length ≤ es.length + 2 ∧ cel E = (cel es).take p ++ (ownT T ++ (cel es).drop q) ∧ cel E = twoC (cel es) (bce (cel es).length 0 [((p : Int), (q : Int), T)]) := by
  obtain ⟨h1, h2, _, _⟩ := isB_spec.1 hi
  have hb := bce_one_change ((cel es).length : Nat) (p : Int) (q : Int) T
  have htc := two_change (T := T) hpq hq
  rw [← hb] at htc
  have hup : Up (n : Int) 0 ((cel es).take p ++ (ownT T ++ (cel es).drop q)) := by
    rw [← htc]
    have u1 := up_cel es 0 0 (Int.le_refl _) h2
    refine up_two _ 0 0 ?_ (by simpa using u1)
    rw [hb]
    have u2 : Up ((cel es).length : Nat) (q : Int) (rng q (cel es).length ++ []) := up_rng (cs := []) trivial _ q q rfl (Int.le_refl _) (by omega) (by omega) (Int.le_refl _)
    rw [List.append_nil] at u2
    have u3 := up_own (a := (p : Int)) T (up_mono _ (p : Int) (q : Int) (by omega) u2)
    have u4 := up_rng (a := 0) u3 (p - 0) 0 (by simp) (Int.le_refl _) (Int.le_refl _) (by omega) (by omega)
    simpa using u4
  have hlen : ((cel es).take p ++ (ownT T ++ (cel es).drop q)).length ≤ 20000 := by
    rw [List.length_append, List.length_append, List.length_take, List.length_drop, own_len]
    omega
  have has : AsC ((cel es).take p ++ (ownT T ++ (cel es).drop q)) := asC_append (asC_take ho p) (asC_append (asC_own hT) (asC_drop ho q))
  have hfew := two_few (T := T) (nm_gd es 0 0 (Int.le_refl _) h2) hpq hq
  have hc := cel_tld_up hup
  refine ⟨_, rfl, ?_, ?_, ?_, ?_, ?_⟩
  · rw [htc]
    exact isB_tld ⟨h1.1, h1.2.1⟩ hup hlen (asC_tld hup has) (by omega)
  · rw [htc, hc]; exact has
  · rw [htc]; exact hfew
  · rw [htc]; exact hc
  · rw [htc]; exact hc
end Go.Proofs.YtelpinngimohoaaDoor
