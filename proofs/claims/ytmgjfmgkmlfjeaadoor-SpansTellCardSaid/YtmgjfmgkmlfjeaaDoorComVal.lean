/- Texts of deltas one behind the other are valid, if they were cut at edges: plain mathematics (layer 13; written ahead of its code). -/
import Derived.Test.YtmgjfmgkmlfjeaaDoorComMath
import Derived.Test.YtmgjfmgkmlfjeaaDoorTxt
namespace Go.Proofs.YtmgjfmgkmlfjeaaDoor
set_option linter.unusedSimpArgs false
set_option linter.unusedVariables false

theorem vld_app {a : List UInt8} (ha : vld a = true) (b : List UInt8) : vld (a ++ b) = vld b := by
  obtain ⟨cs, hg, rfl⟩ := (vld_iff a).1 ha
  exact vld_flat_append hg b
/-- A place in a valid text is between code points or within one. -/
theorem flat_at : ∀ (cs : List Int) (k : Nat), k ≤ (flat cs).length → (∃ c1 c2, cs = c1 ++ c2 ∧ (flat c1).length = k) ∨ (∃ c1 c c2 j, cs = c1 ++ c :: c2 ∧ 0 < j ∧ j < (enc c).length ∧ k = (flat c1).length + j)
  | cs, 0, _ => Or.inl ⟨[], cs, rfl, rfl⟩
  | [], k + 1, h => by simp [flat] at h
  | c :: cs, k + 1, h => by
    rw [flat_cons, List.length_append] at h
    by_cases h1 : k + 1 < (enc c).length
    · exact Or.inr ⟨[], c, cs, k + 1, rfl, by omega, h1, by simp [flat]⟩
    · rcases flat_at cs (k + 1 - (enc c).length) (by omega) with ⟨c1, c2, e, e1⟩ | ⟨c1, d, c2, j, e, e1, e2, e3⟩
      · exact Or.inl ⟨c :: c1, c2, by rw [e]; rfl, by rw [flat_cons, List.length_append]; omega⟩
      · exact Or.inr ⟨c :: c1, d, c2, j, by rw [e]; rfl, e1, e2, by rw [flat_cons, List.length_append]; omega⟩
/-- At an edge both parts are valid. -/
theorem edge_cut {s : ByteArray} {k : Nat} (h : edg s (k : Int) = true) : k ≤ s.size ∧ vld (s.data.toList.take k) = true ∧ vld (s.data.toList.drop k) = true := by
  obtain ⟨h1, h2⟩ := edg_le s k h (by omega)
  obtain ⟨cs, hg, e⟩ := (vld_iff _).1 h2
  have hk : k ≤ (flat cs).length := by rw [← e, bytes_length]; omega
  refine ⟨by omega, ?_⟩
  rcases flat_at cs k hk with ⟨c1, c2, e1, e2⟩ | ⟨c1, c, c2, j, e1, e2, e3, e4⟩
  · subst e1
    have hf : flat (c1 ++ c2) = flat c1 ++ flat c2 := by simp [flat]
    rw [e, hf, ← e2, List.take_left' rfl, List.drop_left' rfl]
    exact ⟨vld_flat fun c hc => hg c (by simp [hc]), vld_flat fun c hc => hg c (by simp [hc])⟩
  · subst e1
    have hf : flat (c1 ++ c :: c2) = flat c1 ++ flat (c :: c2) := by simp [flat]
    rw [hf] at e
    have := edge_within e (hg c (by simp)) j e2 e3
    rw [← e4, h] at this
    cases this
/-- The bytes that an element makes. -/
def pb (s : List UInt8) (e : El) : List UInt8 := e.2.2 ++ (s.drop e.1.toNat).take (e.2.1 - e.1).toNat
/-- An element of valid bytes. -/
structure Ok1 (s : List UInt8) (e : El) : Prop where
  gd : Gd1 e
  le : e.2.1 ≤ s.length
  vl : vld (pb s e) = true
theorem Ok1.vt {s : List UInt8} {e : El} (h : Ok1 s e) : vld e.2.2 = true := by
  have hv := h.vl
  rcases h.gd with ⟨h1, _, _⟩ | ⟨_, h2, h3⟩
  · rw [h1]; exact vld_nil
  · unfold pb at hv
    rw [h2, h3] at hv
    simpa using hv
theorem ok1_ce {s : List UInt8} {e : El} (h : Ok1 s e) : apl (ce1 e) s = pb s e ∧ (ce1 e).length = (pb s e).length := by
  obtain ⟨f, t, T⟩ := e
  have hl := h.le
  have e1 : apl (ce1 (f, t, T)) s = pb s (f, t, T) := by
    show apl (ownT T ++ rng f t) s = T ++ (s.drop f.toNat).take (t - f).toNat
    rw [apl_append, apl_own]
    rcases h.gd with ⟨h1, h2, h3⟩ | ⟨_, h2, h3⟩
    · simp only at h2 h3 hl
      rw [apl_rng h2 (by omega) hl]
    · simp only at h2 h3
      subst h2 h3
      rw [rng_none (Int.le_refl _)]
      simp [apl]
  exact ⟨e1, by rw [← e1, apl]; simp⟩
theorem ok1_text {s T : List UInt8} (hT : T ≠ []) (hv : vld T = true) : Ok1 s (0, 0, T) := ⟨Or.inr ⟨hT, rfl, rfl⟩, by simp, by simpa [pb] using hv⟩
theorem ok1_copy {s : List UInt8} {f t : Int} (h0 : 0 ≤ f) (h1 : f < t) (h2 : t ≤ s.length) (hv : vld ((s.drop f.toNat).take (t - f).toNat) = true) : Ok1 s (f, t, []) := ⟨Or.inl ⟨rfl, h0, h1⟩, h2, by simpa [pb] using hv⟩
/-- Elements of valid bytes, cut where what is ahead is valid. -/
theorem ok1_cut {s : List UInt8} : ∀ (es : List El) (n : Nat), (∀ e ∈ es, Ok1 s e) → n ≤ (cel es).length → vld ((apl (cel es) s).take n) = true →
    ∃ e1 e2, cel es = cel e1 ++ cel e2 ∧ (cel e1).length = n ∧ (∀ e ∈ e1, Ok1 s e) ∧ (∀ e ∈ e2, Ok1 s e) ∧ e1.length ≤ es.length ∧ e1.length + e2.length ≤ es.length + 1
  | es, 0, h, _, _ => ⟨[], es, rfl, rfl, fun e he => (by cases he), h, by simp, by simp⟩
  | [], n + 1, _, hn, _ => by simp [cel] at hn
  | e :: es, n + 1, h, hn, hv => by
    have he := h e (by simp)
    obtain ⟨a1, a2⟩ := ok1_ce he
    rw [cel_cons, List.length_append] at hn
    rw [cel_cons, apl_append, a1] at hv
    by_cases hc : (ce1 e).length ≤ n + 1
    · have hv2 : vld ((apl (cel es) s).take (n + 1 - (ce1 e).length)) = true := by
        rw [List.take_append, List.take_of_length_le (by omega), vld_app he.vl, ← a2] at hv
        exact hv
      obtain ⟨e1, e2, b1, b2, b3, b4, b5, b6⟩ := ok1_cut es (n + 1 - (ce1 e).length) (fun x hx => h x (by simp [hx])) (by omega) hv2
      refine ⟨e :: e1, e2, by rw [cel_cons, cel_cons, b1, List.append_assoc], by rw [cel_cons, List.length_append]; omega, ?_, b4, by simp; omega, by simp; omega⟩
      intro x hx
      rcases List.mem_cons.1 hx with rfl | hx
      · exact he
      · exact b3 x hx
    · obtain ⟨f, t, T⟩ := e
      have hrest : ∀ x ∈ es, Ok1 s x := fun x hx => h x (by simp [hx])
      rw [List.take_append_of_le_length (by omega)] at hv
      have hle := he.le
      simp only at hle
      rcases he.gd with ⟨h1, h2, h3⟩ | ⟨h1, h2, h3⟩
      · simp only at h1 h2 h3
        subst h1
        have hcl : (ce1 (f, t, [])).length = (t - f).toNat := by show (ownT [] ++ rng f t).length = _; simp [ownT, rng_len]
        rw [hcl] at hc
        have hp : pb s (f, t, []) = (s.drop f.toNat).take (t - f).toNat := by simp [pb]
        have hfull := he.vl
        rw [hp] at hv hfull
        have hsp : (s.drop f.toNat).take (t - f).toNat = (s.drop f.toNat).take (n + 1) ++ (s.drop (f + ((n + 1 : Nat) : Int)).toNat).take (t - (f + ((n + 1 : Nat) : Int))).toNat := by
          rw [show (t - f).toNat = (n + 1) + (t - (f + ((n + 1 : Nat) : Int))).toNat by omega, List.take_add, List.drop_drop, show f.toNat + (n + 1) = (f + ((n + 1 : Nat) : Int)).toNat by omega]
        rw [List.take_take, Nat.min_eq_left (by omega)] at hv
        rw [hsp, vld_app hv] at hfull
        refine ⟨[(f, f + ((n + 1 : Nat) : Int), [])], (f + ((n + 1 : Nat) : Int), t, []) :: es, ?_, ?_, ?_, ?_, by simp, by simp; omega⟩
        · rw [cel_cons, cel_cons, cel_cons, show ce1 (f, t, []) = rng f t from rfl, rng_split (m := f + ((n + 1 : Nat) : Int)) (by omega) (by omega)]
          simp [cel, ce1, ownT]
        · simp [cel, ce1, ownT, rng_len]; omega
        · intro x hx
          simp only [List.mem_singleton] at hx
          subst hx
          refine ok1_copy h2 (by omega) (by omega) ?_
          rw [show (f + ((n + 1 : Nat) : Int) - f).toNat = n + 1 by omega]; exact hv
        · intro x hx
          rcases List.mem_cons.1 hx with rfl | hx
          · exact ok1_copy (by omega) (by omega) hle hfull
          · exact hrest x hx
      · simp only at h1 h2 h3
        subst h2 h3
        have hcl : (ce1 ((0 : Int), (0 : Int), T)).length = T.length := by show (ownT T ++ rng 0 0).length = _; simp [own_len, rng_len]
        rw [hcl] at hc
        have hp : pb s (0, 0, T) = T := by simp [pb]
        have hfull := he.vl
        rw [hp] at hv hfull
        have hd : vld (T.drop (n + 1)) = true := by
          rw [← List.take_append_drop (n + 1) T, vld_app hv] at hfull
          exact hfull
        refine ⟨[(0, 0, T.take (n + 1))], (0, 0, T.drop (n + 1)) :: es, ?_, ?_, ?_, ?_, by simp, by simp; omega⟩
        · rw [cel_cons, cel_cons, cel_cons, show ce1 ((0 : Int), (0 : Int), T) = ownT T ++ rng 0 0 from rfl]
          have e1 : ownT T = ownT (T.take (n + 1)) ++ ownT (T.drop (n + 1)) := by
            conv => lhs; rw [← List.take_append_drop (n + 1) T]
            simp [ownT]
          rw [e1]
          simp [cel, ce1, rng_none]
        · simp [cel, ce1, own_len, rng_len]; omega
        · intro x hx
          simp only [List.mem_singleton] at hx
          subst hx
          exact ok1_text (by
            intro e
            have h9 : (T.take (n + 1)).length = n + 1 := by rw [List.length_take]; omega
            rw [e] at h9
            simp at h9) hv
        · intro x hx
          rcases List.mem_cons.1 hx with rfl | hx
          · exact ok1_text (by intro e; have := congrArg List.length e; simp at this; omega) hd
          · exact hrest x hx
theorem padd_ok1 {s : List UInt8} {e : El} (he : Ok1 s e) : ∀ (es : List El), (∀ x ∈ es, Ok1 s x) → ∀ x ∈ padd es e, Ok1 s x
  | [], _, x, hx => by
    simp only [padd, List.mem_singleton] at hx
    subst hx; exact he
  | [y], h, x, hx => by
    have hy := h y (by simp)
    simp only [padd] at hx
    split at hx
    · rename_i hm
      obtain ⟨m1, m2, m3⟩ := hm
      simp only [List.mem_singleton] at hx
      subst hx
      obtain ⟨f, t, T⟩ := y
      obtain ⟨f', t', T'⟩ := e
      simp only at m1 m2 m3
      subst m1 m2 m3
      have g1 := hy.gd
      have g2 := he.gd
      have v1 := hy.vl
      have v2 := he.vl
      have l2 := he.le
      simp only at l2
      rcases g1 with ⟨_, a2, a3⟩ | ⟨a1, _, _⟩
      · rcases g2 with ⟨_, b2, b3⟩ | ⟨b1, _, _⟩
        · simp only at a2 a3 b2 b3
          show Ok1 s (f, t', [])
          refine ok1_copy a2 (by omega) l2 ?_
          unfold pb at v1 v2
          simp only [List.nil_append] at v1 v2
          rw [show (t' - f).toNat = (t - f).toNat + (t' - t).toNat by omega, List.take_add, List.drop_drop, show f.toNat + (t - f).toNat = t.toNat by omega, vld_app v1]
          exact v2
        · exact absurd rfl b1
      · exact absurd rfl a1
    · split at hx
      · rename_i hm
        simp only [List.mem_singleton] at hx
        subst hx
        obtain ⟨f, t, T⟩ := y
        obtain ⟨f', t', T'⟩ := e
        simp only at hm
        rcases hy.gd with ⟨a1, _, _⟩ | ⟨a1, a2, a3⟩
        · exact absurd a1 hm.1
        · simp only at a2 a3
          subst a2 a3
          refine ok1_text (by simp [hm.1]) ?_
          rw [vld_app hy.vt]; exact he.vt
      · rcases List.mem_cons.1 hx with rfl | hx
        · exact hy
        · simp only [List.mem_singleton] at hx
          subst hx; exact he
  | y :: z :: r, h, x, hx => by
    simp only [padd] at hx
    rcases List.mem_cons.1 hx with rfl | hx
    · exact h x (by simp)
    · exact padd_ok1 he (z :: r) (fun q hq => h q (by simp at hq ⊢; exact Or.inr hq)) x hx
theorem padd_len : ∀ (es : List El) (e : El), (padd es e).length ≤ es.length + 1
  | [], e => by simp [padd]
  | [x], e => by simp only [padd]; split <;> (try split) <;> simp
  | x :: y :: r, e => by have := padd_len (y :: r) e; simp only [padd, List.length_cons] at this ⊢; omega
theorem foldl_ok1 {s : List UInt8} : ∀ (es acc : List El), (∀ x ∈ es, Ok1 s x) → (∀ x ∈ acc, Ok1 s x) → (∀ x ∈ es.foldl padd acc, Ok1 s x) ∧ (es.foldl padd acc).length ≤ acc.length + es.length
  | [], acc, _, h => ⟨h, by simp⟩
  | e :: es, acc, h1, h2 => by
    have h3 := foldl_ok1 es (padd acc e) (fun x hx => h1 x (by simp [hx])) (padd_ok1 (h1 e (by simp)) acc h2)
    refine ⟨h3.1, ?_⟩
    have := padd_len acc e
    have := h3.2
    simp only [List.foldl_cons, List.length_cons]
    omega
/-- A text put in at edges: what was made of valid pieces is so again. -/
theorem two_ok1 {s : List UInt8} {es : List El} {p q : Nat} {T : List UInt8} (h : ∀ e ∈ es, Ok1 s e) (hpq : p ≤ q) (hq : q ≤ (cel es).length) (vp : vld ((apl (cel es) s).take p) = true) (vq : vld ((apl (cel es) s).take q) = true) (hT : vld T = true) :
    (∀ x ∈ tld ((cel es).take p ++ (ownT T ++ (cel es).drop q)), Ok1 s x) ∧ (tld ((cel es).take p ++ (ownT T ++ (cel es).drop q))).length ≤ es.length + 2 := by
  obtain ⟨c1, b2, e1, e2, e3, e4, e5, e6⟩ := ok1_cut es q h hq vq
  have vp2 : vld ((apl (cel c1) s).take p) = true := by
    rw [e1, apl_append, List.take_append_of_le_length (by simp [apl]; omega)] at vp
    exact vp
  obtain ⟨a1, a2, g1, g2, g3, g4, g5, g6⟩ := ok1_cut c1 p e3 (by omega) vp2
  have ht : (cel es).take p = cel a1 := by rw [e1, g1, List.append_assoc, List.take_left' g2]
  have hd : (cel es).drop q = cel b2 := by rw [e1, List.drop_left' e2]
  have hc : (cel es).take p ++ (ownT T ++ (cel es).drop q) = [] ++ cel (a1 ++ (tx T ++ b2)) := by
    rw [ht, hd, cel_append, cel_append, cel_tx]; rfl
  have hok : ∀ x ∈ a1 ++ (tx T ++ b2), Ok1 s x := by
    intro x hx
    rcases List.mem_append.1 hx with hx | hx
    · exact g3 x hx
    · rcases List.mem_append.1 hx with hx | hx
      · unfold tx at hx
        split at hx
        · cases hx
        · rename_i hne
          simp only [List.mem_singleton] at hx
          subst hx
          exact ok1_text hne hT
      · exact e4 x hx
  rw [hc, tld_elems (fun x hx => (hok x hx).gd)]
  have h5 := foldl_ok1 (s := s) (a1 ++ (tx T ++ b2)) (tld []) hok (fun x hx => by cases hx)
  refine ⟨h5.1, ?_⟩
  have h6 := h5.2
  have h7 : (tx T).length ≤ 1 := by unfold tx; split <;> simp
  simp only [List.length_append] at h6
  have h8 : (tld ([] : List Ce)).length = 0 := rfl
  omega
end Go.Proofs.YtmgjfmgkmlfjeaaDoor
