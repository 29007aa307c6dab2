/- What factor's changes goes through: plain mathematics. -/
import Derived.Test.YtalolaajcmndeaaDoorFacAdd
namespace Go.Proofs.YtalolaajcmndeaaDoor
set_option linter.unusedSimpArgs false
set_option linter.unusedVariables false

/-- How far both halves are gone through: what is made, what is left. -/
structure Cp (base : Int) (L : List Int) (es xs : List El) (ys : List Sg) (acc : List El) (a : Int) (k : Nat) (txt : List UInt8) : Prop where
  eq : fil L (cel es) = bce a 0 acc ++ (ownT txt ++ fil L (cel xs))
  ky : Ky base a k xs
  tk : txt ≠ [] → k = 1
  ry : xp ys = L.drop a.toNat
  py : ∀ r ∈ ys, 1 ≤ r.1
  a0 : 0 ≤ a
  ord : ordB acc = true
  all : ∀ e ∈ acc, 0 ≤ e.1 ∧ e.1 ≤ e.2.1 ∧ e.2.1 ≤ a ∧ e.1 < a ∧ vld e.2.2 = true
  vt : vld txt = true
  vx : ∀ e ∈ xs, vld e.2.2 = true
  ins : inS acc + txt.length + inS xs = inS es
  cnt : acc.length + xs.length + ys.length ≤ es.length + (rle L).length
theorem ordB_snoc : ∀ (l : List El) (c : El), ordB l = true → (∀ e ∈ l, e.2.1 ≤ c.1 ∧ e.1 < c.1) → ordB (l ++ [c]) = true
  | [], c, _, _ => rfl
  | [a], c, _, h => by
    have := h a (by simp)
    show (ordE a c && ordB [c]) = true
    rw [show ordE a c = true from decide_eq_true ⟨this.1, by omega⟩]; rfl
  | a :: b :: l, c, ho, h => by
    have ho' : (ordE a b && ordB (b :: l)) = true := ho
    rw [Bool.and_eq_true] at ho'
    have ih := ordB_snoc (b :: l) c ho'.2 fun e he => h e (List.mem_cons_of_mem _ he)
    show (ordE a b && ordB (b :: (l ++ [c]))) = true
    rw [ho'.1]
    exact ih
theorem cp_start {base : Int} {L : List Int} {es : List El} (hk : Ky base 0 0 es) (hv : ∀ e ∈ es, vld e.2.2 = true) : Cp base L es es (rle L) [] 0 0 [] := by
  refine ⟨?_, hk, fun h => absurd rfl h, by rw [xp_rle]; rfl, fun r hr => rle_pos hr, Int.le_refl _, rfl, fun e he => (by cases he), vld_nil, hv, by simp [inS], by simp⟩
  simp [bce, rng_none, ownT]
theorem cp_text {base : Int} {L : List Int} {es xs : List El} {ys : List Sg} {acc : List El} {a : Int} {k : Nat} {txt : List UInt8} {f t : Int} {T : List UInt8}
    (h : Cp base L es ((f, t, T) :: xs) ys acc a k txt) (hT : T ≠ []) : Cp base L es xs ys acc a 1 T := by
  have hk := h.ky
  rw [Ky, if_neg hT] at hk
  obtain ⟨rfl, rfl, h3, h4⟩ := hk
  have ht : txt = [] := Classical.byContradiction fun e => h3 (h.tk e)
  subst ht
  refine ⟨?_, h4, fun _ => rfl, h.ry, h.py, h.a0, h.ord, h.all, h.vx (0, 0, T) (by simp), fun e he => h.vx e (by simp [he]), ?_, ?_⟩
  · rw [h.eq, cel_cons, show ce1 (0, 0, T) = ownT T ++ rng 0 0 from rfl, rng_none (Int.le_refl _), List.append_nil, fil_append, fil_own]
    simp [ownT]
  · have := h.ins
    simp only [inS, List.map_cons, List.sum_cons, List.length_nil] at this ⊢
    omega
  · have := h.cnt
    simp only [List.length_cons] at this
    omega
theorem inS_snoc (l : List El) (f t : Int) (T : List UInt8) : inS (l ++ [(f, t, T)]) = inS l + T.length := by simp [inS]
theorem cp_copy {base : Int} {L : List Int} {es xs : List El} {ys : List Sg} {acc : List El} {a : Int} {k : Nat} {txt : List UInt8} {f t m c : Int}
    (h : Cp base L es ((f, t, []) :: xs) ((m, c) :: ys) acc a k txt) {n tu : Int} (hn1 : 1 ≤ n) (hn2 : f + n ≤ t) (hn3 : n ≤ m) (hn4 : f + n = t ∨ m = n)
    (hto : (0 < c ∧ tu = a + n) ∨ (c = 0 ∧ tu = a)) : Cp base L es (lessE f t n xs) (less m c n ys) (acc ++ [(a, tu, txt)]) (a + n) 2 [] := by
  have hk := h.ky
  rw [Ky, if_pos rfl] at hk
  obtain ⟨rfl, h2, h3⟩ := hk
  have ha := h.a0
  have ht1 : f ≤ tu := by rcases hto with ⟨_, e⟩ | ⟨_, e⟩ <;> omega
  have ht2 : tu ≤ f + n := by rcases hto with ⟨_, e⟩ | ⟨_, e⟩ <;> omega
  have hxs : cel (lessE f t n xs) = rng (f + n) t ++ cel xs := by
    unfold lessE
    split
    · rename_i e; rw [e, rng_none (Int.le_refl _)]; rfl
    · rfl
  have hf : fil L (rng f (f + n)) = rng tu (f + n) := by
    have hg : ∀ i : Nat, f ≤ i → (i : Int) < f + n → L.getD i 0 = c := fun i i1 i2 => get_run (a := f.toNat) h.ry (by omega) (by omega)
    rcases hto with ⟨hc, rfl⟩ | ⟨rfl, rfl⟩
    · rw [rng_none (Int.le_refl (f + n)), fil_gone ha (fun i i1 i2 => by rw [hg i i1 i2]; omega)]
    · exact fil_zero ha fun i i1 i2 => hg i i1 i2
  refine ⟨?_, ?_, fun e => absurd rfl e, ?_, less_pos hn3 h.py, by omega, ?_, ?_, vld_nil, ?_, ?_, ?_⟩
  · rw [h.eq, bce_snoc, cel_cons, show ce1 (f, t, []) = rng f t from rfl, rng_split (m := f + n) (by omega) hn2, hxs, fil_append, fil_append, fil_append, hf]
    simp [ownT]
  · unfold lessE
    split
    · rename_i e; rw [e]; exact h3
    · rename_i e; rw [Ky, if_pos rfl]; exact ⟨rfl, by omega, h3⟩
  · have h1 := h.ry
    rw [xp_part (by omega : 0 ≤ n) hn3] at h1
    have h5 : (List.replicate n.toNat c ++ xp (less m c n ys)).drop n.toNat = (L.drop f.toNat).drop n.toNat := by rw [h1]
    rw [List.drop_left' (by simp)] at h5
    rw [h5, List.drop_drop]
    congr 1
    omega
  · exact ordB_snoc _ _ h.ord fun e he => by have := h.all e he; simp only; omega
  · intro e he
    rcases List.mem_append.1 he with he | he
    · have := h.all e he
      exact ⟨this.1, this.2.1, by omega, by omega, this.2.2.2.2⟩
    · simp only [List.mem_singleton] at he
      subst he
      exact ⟨ha, ht1, ht2, by simp only; omega, h.vt⟩
  · intro e he
    unfold lessE at he
    split at he
    · exact h.vx e (by simp [he])
    · rcases List.mem_cons.1 he with rfl | he
      · exact vld_nil
      · exact h.vx e (by simp [he])
  · have h1 := h.ins
    have h2 : inS (lessE f t n xs) = inS xs := by
      unfold lessE
      split <;> simp [inS]
    rw [inS_snoc, h2]
    simp only [inS, List.map_cons, List.sum_cons, List.length_nil] at h1 ⊢
    omega
  · have h1 := h.cnt
    have h4 := less_len m c n ys
    have h5 : (lessE f t n xs).length ≤ xs.length + 1 ∧ (f + n = t → (lessE f t n xs).length = xs.length) := by
      unfold lessE
      split
      · exact ⟨by omega, fun _ => rfl⟩
      · exact ⟨by simp, fun h => absurd h (by assumption)⟩
    simp only [List.length_cons, List.length_append, List.length_nil] at h1 ⊢
    rcases hn4 with e | e
    · have := h5.2 e; omega
    · have := h4.2 e; omega
theorem lessE_len (f t n : Int) (xs : List El) : (lessE f t n xs).length ≤ xs.length + 1 ∧ (f + n = t → (lessE f t n xs).length = xs.length) := by
  unfold lessE
  split
  · exact ⟨by omega, fun _ => rfl⟩
  · exact ⟨by simp, fun h => absurd h (by assumption)⟩
/-- What comes of both halves: changes of the base. -/
structure Chd (base : Int) (L : List Int) (es l : List El) : Prop where
  fl : flt base l = 0
  ce : bce base 0 l = fil L (cel es)
  ins : inS l = inS es
  cnt : l.length ≤ es.length + (rle L).length + 1
theorem cp_end {base : Int} {L : List Int} {es : List El} {ys : List Sg} {acc : List El} {a : Int} {k : Nat} {txt : List UInt8} (hi : isB base es = true)
    (h : Cp base L es [] ys acc a k txt) : Chd base L es (acc ++ [(a, a, txt)]) := by
  have hk : a = base := h.ky
  subst hk
  obtain ⟨h1, h2, h3, h4⟩ := isB_spec.1 hi
  have hce : bce a 0 (acc ++ [(a, a, txt)]) = fil L (cel es) := by
    rw [bce_snoc, h.eq, rng_none (Int.le_refl _)]
    simp [cel, fil]
  have hin : inS (acc ++ [(a, a, txt)]) = inS es := by
    have := h.ins
    rw [inS_snoc]
    simp only [inS, List.map_nil, List.sum_nil] at this ⊢
    omega
  have hwt : wthB a (acc ++ [(a, a, txt)]) = true := by
    refine List.all_eq_true.2 fun e he => ?_
    rcases List.mem_append.1 he with he | he
    · have := h.all e he
      exact decide_eq_true ⟨this.1, this.2.1, by omega⟩
    · simp only [List.mem_singleton] at he
      subst he
      exact decide_eq_true ⟨h.a0, Int.le_refl _, Int.le_refl _⟩
  have hod : ordB (acc ++ [(a, a, txt)]) = true := ordB_snoc _ _ h.ord fun e he => by have := h.all e he; simp only; omega
  have hvl : vldB (acc ++ [(a, a, txt)]) = true := by
    refine List.all_eq_true.2 fun e he => ?_
    rcases List.mem_append.1 he with he | he
    · exact (h.all e he).2.2.2.2
    · simp only [List.mem_singleton] at he
      subst he
      exact h.vt
  have hch : Chs a 0 (acc ++ [(a, a, txt)]) := chs_of _ 0 h.a0 hwt (fun e r he => by
    have := List.all_eq_true.1 hwt e (by rw [he]; simp)
    exact (of_decide_eq_true this).1) hod
  refine ⟨?_, hce, hin, ?_⟩
  · unfold flt
    rw [hwt, hod, hvl, decide_eq_true ⟨h1.1, h1.2.1⟩]
    have e1 := bce_size _ 0 hch
    rw [hce, Int.sub_zero] at e1
    have e2 := cel_size es 0 0 h2
    have e3 : (fil L (cel es)).length ≤ (cel es).length := List.length_filter_le _ _
    simp
    omega
  · have := h.cnt
    simp only [List.length_append, List.length_cons, List.length_nil] at this ⊢
    omega
end Go.Proofs.YtalolaajcmndeaaDoor
