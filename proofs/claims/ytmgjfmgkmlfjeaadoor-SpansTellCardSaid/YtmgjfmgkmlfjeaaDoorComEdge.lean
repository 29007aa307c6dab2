/- Deltas cut at edges, and back: plain mathematics (layer 13; written ahead of its code). -/
import Derived.Test.YtmgjfmgkmlfjeaaDoorComInv
namespace Go.Proofs.YtmgjfmgkmlfjeaaDoor
set_option linter.unusedSimpArgs false
set_option linter.unusedVariables false

/-- What is ahead of a place is valid. -/
def VE (s : List UInt8) (k : Int) : Prop := vld (s.take k.toNat) = true
theorem ve_piece {s : List UInt8} {f t : Int} (h0 : 0 ≤ f) (h1 : f ≤ t) (hf : VE s f) (ht : VE s t) : vld ((s.drop f.toNat).take (t.toNat - f.toNat)) = true := by
  unfold VE at hf ht
  rw [show t.toNat = f.toNat + (t.toNat - f.toNat) by omega, List.take_add, vld_app hf] at ht
  exact ht
theorem ve_rest {s : List UInt8} {f : Int} (hf : VE s f) (hs : vld s = true) : vld (s.drop f.toNat) = true := by
  unfold VE at hf
  rw [← List.take_append_drop f.toNat s, vld_app hf] at hs
  exact hs
theorem ve_edg {s : ByteArray} {k : Nat} (h : edg s (k : Int) = true) : VE s.data.toList (k : Int) := by
  have := (edge_cut h).2.1
  unfold VE
  rw [Int.toNat_natCast]; exact this
theorem ve_zero (s : List UInt8) : VE s 0 := vld_nil
theorem ve_all {s : List UInt8} {n : Int} (hs : vld s = true) (hn : (s.length : Int) ≤ n) : VE s n := by
  unfold VE; rw [List.take_of_length_le (by omega)]; exact hs
/-- Elements whose copies begin and end at edges. -/
def EdE (s : List UInt8) (es : List El) : Prop := ∀ e ∈ es, vld e.2.2 = true ∧ (e.2.2 = [] → VE s e.1 ∧ VE s e.2.1)
theorem ede_elG {s : List UInt8} {base : Int} (hb : VE s base) : ∀ (l : List El) (txt : List UInt8) (en : Int), vld txt = true → VE s en → (∀ e ∈ l, vld e.2.2 = true ∧ VE s e.1 ∧ VE s e.2.1) → EdE s (elG base txt en l)
  | [], txt, en, ht, he, _ => by
    intro e hm
    simp only [elG] at hm
    rcases List.mem_append.1 hm with hm | hm
    · unfold tx at hm
      split at hm
      · cases hm
      · rename_i hne
        simp only [List.mem_singleton] at hm
        subst hm
        exact ⟨ht, fun e => absurd e hne⟩
    · split at hm
      · simp only [List.mem_singleton] at hm
        subst hm
        exact ⟨vld_nil, fun _ => ⟨he, hb⟩⟩
      · cases hm
  | (f, t, T) :: l, txt, en, ht, he, hl => by
    have h1 := hl (f, t, T) (by simp)
    have hl2 : ∀ e ∈ l, vld e.2.2 = true ∧ VE s e.1 ∧ VE s e.2.1 := fun e hm => hl e (by simp [hm])
    intro e hm
    simp only [elG] at hm
    split at hm
    · exact ede_elG hb l txt en ht he hl2 e hm
    · split at hm
      · rcases List.mem_append.1 hm with hm | hm
        · unfold tx at hm
          split at hm
          · cases hm
          · rename_i hne
            simp only [List.mem_singleton] at hm
            subst hm
            exact ⟨ht, fun e => absurd e hne⟩
        · rcases List.mem_cons.1 hm with rfl | hm
          · exact ⟨vld_nil, fun _ => ⟨he, h1.2.1⟩⟩
          · exact ede_elG hb l T t h1.1 h1.2.2 hl2 e hm
      · exact ede_elG hb l (txt ++ T) t (vld_two ht h1.1) h1.2.2 hl2 e hm
/-- Then all their bytes are valid pieces. -/
theorem ede_ok1 {s : List UInt8} {base : Int} (hb : base ≤ s.length) : ∀ (es : List El) (last : Int) (k : Nat), 0 ≤ last → Nm base last k es → EdE s es → ∀ e ∈ es, Ok1 s e
  | [], _, _, _, _, _, e, he => by cases he
  | (f, t, T) :: es, last, k, h0, h, hed, e, he => by
    have h1 := hed (f, t, T) (by simp)
    have hed2 : EdE s es := fun e he => hed e (by simp [he])
    by_cases hT : T = []
    · subst hT
      rw [Nm, if_pos rfl] at h
      rcases List.mem_cons.1 he with rfl | he
      · have h2 := h1.2 rfl
        refine ok1_copy (by omega) h.2.2.1 (by omega) ?_
        rw [show (t - f).toNat = t.toNat - f.toNat by omega]
        exact ve_piece (by omega) (by omega) h2.1 h2.2
      · exact ede_ok1 hb es t 2 (by omega) h.2.2.2.2 hed2 e he
    · rw [Nm, if_neg hT] at h
      rcases List.mem_cons.1 he with rfl | he
      · rw [h.1, h.2.1]; exact ok1_text hT h1.1
      · exact ede_ok1 hb es last 1 h0 h.2.2.2 hed2 e he
/-- How many are copies. -/
def cpN (es : List El) : Nat := (es.filter fun e => decide (e.2.2 = [])).length
theorem cpN_append (a b : List El) : cpN (a ++ b) = cpN a + cpN b := by simp [cpN]
theorem cpN_le (es : List El) : cpN es ≤ es.length := List.length_filter_le _ _
theorem cpN_elG {base : Int} : ∀ (l : List El) (txt : List UInt8) (en : Int), cpN (elG base txt en l) ≤ l.length + 1
  | [], txt, en => by
    have : cpN (tx txt) = 0 := by unfold tx; split <;> simp_all [cpN]
    simp only [elG, cpN_append, this]
    split <;> simp [cpN]
  | (f, t, T) :: l, txt, en => by
    have h0 : cpN (tx txt) = 0 := by unfold tx; split <;> simp_all [cpN]
    simp only [elG]
    split
    · have := cpN_elG (base := base) l txt en; simp only [List.length_cons]; omega
    · split
      · have := cpN_elG (base := base) l T t
        rw [cpN_append, h0]
        have e : cpN ((en, f, []) :: elG base T t l) = cpN (elG base T t l) + 1 := by simp [cpN]
        rw [e]; simp only [List.length_cons]; omega
      · have := cpN_elG (base := base) l (txt ++ T) t; simp only [List.length_cons]; omega
theorem padd_vt {e : El} (he : vld e.2.2 = true) : ∀ (es : List El), (∀ x ∈ es, vld x.2.2 = true) → ∀ x ∈ padd es e, vld x.2.2 = true
  | [], _, x, hx => by
    simp only [padd, List.mem_singleton] at hx
    subst hx; exact he
  | [y], h, x, hx => by
    have hy := h y (by simp)
    simp only [padd] at hx
    split at hx
    · simp only [List.mem_singleton] at hx
      subst hx; exact vld_nil
    · split at hx
      · simp only [List.mem_singleton] at hx
        subst hx; exact vld_two hy he
      · rcases List.mem_cons.1 hx with rfl | hx
        · exact hy
        · simp only [List.mem_singleton] at hx
          subst hx; exact he
  | y :: z :: r, h, x, hx => by
    simp only [padd] at hx
    rcases List.mem_cons.1 hx with rfl | hx
    · exact h x (by simp)
    · exact padd_vt he (z :: r) (fun q hq => h q (by simp at hq ⊢; exact Or.inr hq)) x hx
theorem padd_cpN (e : El) : ∀ (es : List El), cpN (padd es e) ≤ cpN es + cpN [e]
  | [] => by simp [padd, cpN]
  | [y] => by
    simp only [padd]
    split
    · rename_i hm; simp [cpN, hm.1, hm.2.1]
    · split
      · rename_i hm
        have : ¬ (y.2.2 ++ e.2.2 = []) := by simp [hm.1]
        simp [cpN, hm.1, hm.2]
      · rw [show [y, e] = [y] ++ [e] from rfl, cpN_append]; omega
  | y :: z :: r => by
    have := padd_cpN e (z :: r)
    simp only [padd]
    rw [show y :: padd (z :: r) e = [y] ++ padd (z :: r) e from rfl, show y :: z :: r = [y] ++ (z :: r) from rfl, cpN_append, cpN_append]
    omega
theorem foldl_vt : ∀ (es acc : List El), (∀ x ∈ es, vld x.2.2 = true) → (∀ x ∈ acc, vld x.2.2 = true) → (∀ x ∈ es.foldl padd acc, vld x.2.2 = true) ∧ cpN (es.foldl padd acc) ≤ cpN acc + cpN es ∧ (es.foldl padd acc).length ≤ acc.length + es.length
  | [], acc, _, h => ⟨h, by simp [cpN], by simp⟩
  | e :: es, acc, h1, h2 => by
    have h3 := foldl_vt es (padd acc e) (fun x hx => h1 x (by simp [hx])) (padd_vt (h1 e (by simp)) acc h2)
    have h4 := padd_cpN e acc
    have h5 := padd_len acc e
    refine ⟨h3.1, ?_, ?_⟩
    · rw [show e :: es = [e] ++ es from rfl, cpN_append]
      have := h3.2.1
      simp only [List.singleton_append, List.foldl_cons]
      omega
    · have := h3.2.2
      simp only [List.foldl_cons, List.length_cons]
      omega
/-- The elements of the delta back. -/
theorem invE_ok {s : List UInt8} {base : Int} (hs : vld s = true) (hb : base ≤ s.length) : ∀ (es : List El) (last : Int) (k i : Nat), 0 ≤ last → VE s last → Nm base last k es → EdE s es →
    (∀ e ∈ invE s last.toNat i es, vld e.2.2 = true ∧ Gd1 e) ∧ cpN (invE s last.toNat i es) ≤ cpN es ∧ (invE s last.toNat i es).length ≤ 2 * cpN es + 1
  | [], last, k, i, h0, hv, _, _ => by
    have h1 := ve_rest hv hs
    refine ⟨fun e he => ?_, ?_, ?_⟩
    · simp only [invE] at he
      unfold tx at he
      split at he
      · cases he
      · rename_i hne
        simp only [List.mem_singleton] at he
        subst he
        exact ⟨h1, Or.inr ⟨hne, rfl, rfl⟩⟩
    · simp only [invE]; unfold tx; split <;> simp_all [cpN]
    · simp only [invE]; unfold tx; split <;> simp
  | (f, t, T) :: es, last, k, i, h0, hv, h, hed => by
    have h1 := hed (f, t, T) (by simp)
    have hed2 : EdE s es := fun e he => hed e (by simp [he])
    by_cases hT : T = []
    · subst hT
      rw [Nm, if_pos rfl] at h
      have h2 := h1.2 rfl
      obtain ⟨a1, a2, a3⟩ := invE_ok hs hb es t 2 (i + (t - f).toNat) (by omega) h2.2 h.2.2.2.2 hed2
      have hp := ve_piece h0 h.1 hv h2.1
      have e0 : cpN ((f, t, []) :: es) = cpN es + 1 := by simp [cpN]
      have e1 : cpN (tx ((s.drop last.toNat).take (f.toNat - last.toNat))) = 0 := by unfold tx; split <;> simp_all [cpN]
      have e2 : (tx ((s.drop last.toNat).take (f.toNat - last.toNat))).length ≤ 1 := by unfold tx; split <;> simp
      rw [invE, if_pos rfl, e0]
      refine ⟨fun e he => ?_, ?_, ?_⟩
      · rcases List.mem_append.1 he with he | he
        · unfold tx at he
          split at he
          · cases he
          · rename_i hne
            simp only [List.mem_singleton] at he
            subst he
            exact ⟨hp, Or.inr ⟨hne, rfl, rfl⟩⟩
        · rcases List.mem_cons.1 he with rfl | he
          · exact ⟨vld_nil, Or.inl ⟨rfl, by simp only; omega, by simp only; omega⟩⟩
          · exact a1 e he
      · rw [cpN_append, e1]
        have : cpN (((i : Int), (i : Int) + (t - f), []) :: invE s t.toNat (i + (t - f).toNat) es) = cpN (invE s t.toNat (i + (t - f).toNat) es) + 1 := by simp [cpN]
        omega
      · rw [List.length_append, List.length_cons]; omega
    · rw [Nm, if_neg hT] at h
      have e0 : cpN ((f, t, T) :: es) = cpN es := by simp [cpN, hT]
      rw [invE, if_neg hT, e0]
      exact invE_ok hs hb es last 1 _ h0 hv h.2.2.2 hed2
/-- THE DELTA BACK of what was cut at edges: its least elements' texts are valid, and they are few. -/
theorem inv_valid {s : List UInt8} {es : List El} (hs : vld s = true) (h : Nm s.length 0 0 es) (hed : EdE s es) :
    (∀ e ∈ tld (invC s 0 0 (cel es)), vld e.2.2 = true) ∧ cpN (tld (invC s 0 0 (cel es))) ≤ cpN es ∧ (tld (invC s 0 0 (cel es))).length ≤ 2 * cpN es + 1 := by
  obtain ⟨a1, a2, a3⟩ := invE_ok hs (Int.le_refl _) es 0 0 0 (Int.le_refl _) (ve_zero s) h hed
  have e := cel_invE (s := s) es 0 0 0 (Int.le_refl _) h
  have e2 : tld (invC s 0 0 (cel es)) = (invE s 0 0 es).foldl padd [] := by
    rw [show (0 : Int).toNat = 0 from rfl] at e
    rw [← e]
    exact tld_elems (fun x hx => (a1 x hx).2) []
  have h5 := foldl_vt (invE s 0 0 es) [] (fun x hx => (a1 x hx).1) (fun x hx => by cases hx)
  rw [e2]
  refine ⟨h5.1, ?_, ?_⟩
  · have := h5.2.1
    simp only [cpN, List.filter_nil, List.length_nil] at this
    exact Nat.le_trans (by simpa [cpN] using this) a2
  · have := h5.2.2
    simp only [List.length_nil] at this
    rw [show (0 : Int).toNat = 0 from rfl] at a3
    omega
end Go.Proofs.YtmgjfmgkmlfjeaaDoor
