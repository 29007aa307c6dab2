/- A delta in two halves: plain mathematics (layer 12). Both halves together are the whole: plain mathematics. -/
import Derived.Test.YtalolaajcmndeaaDoorDelHelp
import Derived.Test.YtalolaajcmndeaaDoorAlgMath
namespace Go.Proofs.YtalolaajcmndeaaDoor
set_option linter.unusedSimpArgs false
set_option linter.unusedVariables false

theorem rle_headF (c : Int) (l : List Int) : ∃ m rs, rle (c :: l) = (m, c) :: rs := by
  show ∃ m rs, pushF c (rle l) = (m, c) :: rs
  cases e : rle l with
  | nil => exact ⟨1, [], rfl⟩
  | cons r rs =>
    rw [pushF_cons]
    by_cases h : r.2 = c
    · exact ⟨r.1 + 1, rs, by rw [if_pos h]⟩
    · exact ⟨1, r :: rs, by rw [if_neg h]⟩
theorem rle_rep_len (c : Int) (t : List Int) : ∀ n : Nat, (rle (List.replicate n c ++ t)).length ≤ (rle t).length + 1
  | 0 => by simp
  | 1 => pushF_len c (rle t)
  | n + 2 => by
    have ih := rle_rep_len c t (n + 1)
    show (pushF c (rle (c :: (List.replicate n c ++ t)))).length ≤ _
    obtain ⟨m, rs, h⟩ := rle_headF c (List.replicate n c ++ t)
    have ih2 : (rle (c :: (List.replicate n c ++ t))).length ≤ (rle t).length + 1 := ih
    rw [h] at ih2 ⊢
    rw [pushF_cons, if_pos rfl]
    exact ih2
/-- Of the bytes that elements make, those that are put in, once. -/
def insL : List El → List Int
  | [] => []
  | (f, t, T) :: es => List.replicate (t - f).toNat 0 ++ (List.replicate T.length 1 ++ insL es)
/-- Of the bytes that elements are over, those that aren't kept, from en on. -/
def gon (base : Int) : Int → List El → List Int
  | en, [] => List.replicate (base - en).toNat 1
  | en, (f, t, T) :: es => if T = [] then List.replicate (f - en).toNat 1 ++ (List.replicate (t - f).toNat 0 ++ gon base t es) else gon base en es
/-- The changes that put the texts in, each where the last copy ahead of it ends. -/
def insX : Int → List El → List El
  | _, [] => []
  | en, (f, t, T) :: es => if T = [] then insX t es else (en, en, T) :: insX en es
theorem insL_len {base : Int} : ∀ (es : List El) (last : Int) (k : Nat), Nm base last k es → ((insL es).length : Int) = szE es
  | [], _, _, _ => rfl
  | (f, t, T) :: es, last, k, h => by
    have e : (insL ((f, t, T) :: es)).length = (t - f).toNat + (T.length + (insL es).length) := by simp [insL]
    rw [e]
    by_cases hT : T = []
    · subst hT
      rw [Nm, if_pos rfl] at h
      have ih := insL_len es t 2 h.2.2.2.2
      simp only [szE, List.map_cons, List.sum_cons] at ih ⊢
      simp only [List.length_nil]
      omega
    · rw [Nm, if_neg hT] at h
      obtain ⟨h1, h2, h3, h4⟩ := h
      have ih := insL_len es last 1 h4
      simp only [szE, List.map_cons, List.sum_cons] at ih ⊢
      omega
theorem insL_mem : ∀ {es : List El} {c : Int}, c ∈ insL es → c = 0 ∨ c = 1
  | [], c, h => by simp [insL] at h
  | (f, t, T) :: es, c, h => by
    simp only [insL, List.mem_append, List.mem_replicate] at h
    rcases h with h | h | h
    · exact Or.inl h.2
    · exact Or.inr h.2
    · exact insL_mem h
theorem insL_szc : ∀ (es : List El), szc (insL es) = inS es
  | [] => rfl
  | (f, t, T) :: es => by
    have ih := insL_szc es
    simp only [insL, szc_append, szc_rep, ih, inS, List.map_cons, List.sum_cons]
    simp
theorem insL_rle : ∀ (es : List El), (rle (insL es)).length ≤ 2 * es.length
  | [] => by simp [insL, rle]
  | (f, t, T) :: es => by
    have ih := insL_rle es
    have h1 := rle_rep_len 1 (insL es) T.length
    have h2 := rle_rep_len 0 (List.replicate T.length 1 ++ insL es) (t - f).toNat
    simp only [insL, List.length_cons]
    omega
theorem gon_mem {base : Int} : ∀ {es : List El} {en c : Int}, c ∈ gon base en es → c = 0 ∨ c = 1
  | [], en, c, h => by simp only [gon, List.mem_replicate] at h; exact Or.inr h.2
  | (f, t, T) :: es, en, c, h => by
    simp only [gon] at h
    split at h
    · simp only [List.mem_append, List.mem_replicate] at h
      rcases h with h | h | h
      · exact Or.inr h.2
      · exact Or.inl h.2
      · exact gon_mem h
    · exact gon_mem h
theorem gon_rle {base : Int} : ∀ (es : List El) (en : Int), (rle (gon base en es)).length ≤ 2 * es.length + 1
  | [], en => by
    have := rle_rep_len 1 [] (base - en).toNat
    simpa [gon, rle] using this
  | (f, t, T) :: es, en => by
    simp only [gon]
    split
    · have ih := gon_rle (base := base) es t
      have h1 := rle_rep_len 0 (gon base t es) (t - f).toNat
      have h2 := rle_rep_len 1 (List.replicate (t - f).toNat 0 ++ gon base t es) (f - en).toNat
      simp only [List.length_cons]
      omega
    · have ih := gon_rle (base := base) es en
      simp only [List.length_cons]
      omega
theorem gon_len {base : Int} : ∀ (es : List El) (last : Int) (k : Nat), last ≤ base → Nm base last k es → ((gon base last es).length : Int) = base - last
  | [], last, _, hb, _ => by simp [gon]; omega
  | (f, t, T) :: es, last, k, hb, h => by
    by_cases hT : T = []
    · subst hT
      rw [Nm, if_pos rfl] at h
      have ih := gon_len es t 2 h.2.2.2.1 h.2.2.2.2
      simp only [gon, if_pos, List.length_append, List.length_replicate]
      simp
      omega
    · rw [Nm, if_neg hT] at h
      have ih := gon_len es last 1 hb h.2.2.2
      simp only [gon, if_neg hT]
      exact ih
theorem gon_szc {base : Int} : ∀ (es : List El) (last : Int) (k : Nat), last ≤ base → Nm base last k es → (szc (gon base last es) : Int) = base - last - cpS es
  | [], last, _, hb, _ => by simp [gon, szc_rep, cpS]; omega
  | (f, t, T) :: es, last, k, hb, h => by
    by_cases hT : T = []
    · subst hT
      rw [Nm, if_pos rfl] at h
      have ih := gon_szc es t 2 h.2.2.2.1 h.2.2.2.2
      have e : szc (gon base last ((f, t, []) :: es)) = (f - last).toNat + szc (gon base t es) := by simp [gon, szc_append, szc_rep]
      have e2 : cpS ((f, t, []) :: es) = (t - f) + cpS es := by simp [cpS]
      rw [e, e2]
      omega
    · rw [Nm, if_neg hT] at h
      obtain ⟨h1, h2, h3, h4⟩ := h
      have ih := gon_szc es last 1 hb h4
      have e2 : cpS ((f, t, T) :: es) = cpS es := by simp [cpS, h1, h2]
      rw [e2]
      simp only [gon, if_neg hT]
      exact ih
theorem ok8_01 {L : List Int} (h1 : L.length ≤ 20000) (h2 : ∀ c ∈ L, c = 0 ∨ c = 1) : Ok8 L := ⟨h1, fun c hc => by rcases h2 c hc with rfl | rfl <;> decide⟩
/-- Inserted's, Deleted's rows of what is a delta. -/
theorem ins_ok8 {base : Int} {es : List El} (h : isB base es = true) : Ok8 (insL es) := by
  obtain ⟨h1, h2, h3, h4⟩ := isB_spec.1 h
  have := insL_len es 0 0 h2
  exact ok8_01 (by omega) fun c hc => insL_mem hc
theorem gon_ok8 {base : Int} {es : List El} (h : isB base es = true) : Ok8 (gon base 0 es) := by
  obtain ⟨h1, h2, h3, h4⟩ := isB_spec.1 h
  have := gon_len es 0 0 h1.1 h2
  exact ok8_01 (by omega) fun c hc => gon_mem hc
theorem insL_step {es : List El} {k : Nat} {f t : Int} {T : List UInt8} (hr : es[k]? = some (f, t, T)) : insL (es.drop k) = List.replicate (t - f).toNat 0 ++ (List.replicate T.length 1 ++ insL (es.drop (k + 1))) := by
  rw [drop_consE hr, insL]
theorem gon_copy {base en : Int} {es : List El} {k : Nat} {f t : Int} (hr : es[k]? = some (f, t, [])) : gon base en (es.drop k) = List.replicate (f - en).toNat 1 ++ (List.replicate (t - f).toNat 0 ++ gon base t (es.drop (k + 1))) := by
  rw [drop_consE hr, gon, if_pos rfl]
theorem gon_text {base en : Int} {es : List El} {k : Nat} {f t : Int} {T : List UInt8} (hr : es[k]? = some (f, t, T)) (hT : T ≠ []) : gon base en (es.drop k) = gon base en (es.drop (k + 1)) := by
  rw [drop_consE hr, gon, if_neg hT]
theorem insX_copy {en : Int} {es : List El} {k : Nat} {f t : Int} (hr : es[k]? = some (f, t, [])) : insX en (es.drop k) = insX t (es.drop (k + 1)) := by
  rw [drop_consE hr, insX, if_pos rfl]
theorem insX_text {en : Int} {es : List El} {k : Nat} {f t : Int} {T : List UInt8} (hr : es[k]? = some (f, t, T)) (hT : T ≠ []) : insX en (es.drop k) = (en, en, T) :: insX en (es.drop (k + 1)) := by
  rw [drop_consE hr, insX, if_neg hT]
theorem insX_len : ∀ (es : List El) (en : Int), (insX en es).length ≤ es.length
  | [], _ => by simp [insX]
  | (f, t, T) :: es, en => by
    simp only [insX]
    split
    · have := insX_len es t; simp; omega
    · have := insX_len es en; simp; omega
theorem insX_in {base : Int} : ∀ (es : List El) (en : Int), inS (insX en es) = inS es
  | [], _ => rfl
  | (f, t, T) :: es, en => by
    simp only [insX]
    split
    · rename_i h; rw [insX_in (base := base) es t, h]; simp [inS]
    · have := insX_in (base := base) es en
      simp only [inS, List.map_cons, List.sum_cons] at this ⊢
      omega
theorem insX_cp : ∀ (es : List El) (en : Int), cpS (insX en es) = 0
  | [], _ => rfl
  | (f, t, T) :: es, en => by
    simp only [insX]
    split
    · exact insX_cp es t
    · have := insX_cp es en
      simp only [cpS, List.map_cons, List.sum_cons] at this ⊢
      omega
theorem sz8_two (base : Int) : ∀ (l : List El), sz8 base l = base + inS l - cpS l
  | [] => by simp [sz8, inS, cpS]
  | e :: l => by
    have := sz8_two base l
    simp only [sz8, inS, cpS, List.map_cons, List.sum_cons] at this ⊢
    omega
theorem insX_vl : ∀ (es : List El) (en : Int), (∀ e ∈ es, vld e.2.2 = true) → vldB (insX en es) = true
  | [], _, _ => rfl
  | (f, t, T) :: es, en, h => by
    simp only [insX]
    split
    · exact insX_vl es t fun e he => h e (by simp [he])
    · have h1 := insX_vl es en fun e he => h e (by simp [he])
      have h2 := h (f, t, T) (by simp)
      simp only at h2
      show (vld T && vldB (insX en es)) = true
      rw [h1, h2]; rfl
theorem insX_wt {base : Int} : ∀ (es : List El) (en : Int) (k : Nat), 0 ≤ en → en ≤ base → Nm base en k es → wthB base (insX en es) = true
  | [], _, _, _, _, _ => rfl
  | (f, t, T) :: es, en, k, h0, hb, h => by
    by_cases hT : T = []
    · subst hT
      rw [Nm, if_pos rfl] at h
      simp only [insX, if_pos]
      exact insX_wt es t 2 (by omega) h.2.2.2.1 h.2.2.2.2
    · rw [Nm, if_neg hT] at h
      simp only [insX, if_neg hT]
      have ih := insX_wt es en 1 h0 hb h.2.2.2
      show (wthE base (en, en, T) && wthB base (insX en es)) = true
      rw [ih, show wthE base (en, en, T) = true from decide_eq_true ⟨h0, Int.le_refl _, hb⟩]; rfl
theorem insX_ord {base : Int} : ∀ (es : List El) (en : Int) (k : Nat), Nm base en k es → ordB (insX en es) = true ∧ ∀ e r, insX en es = e :: r → en ≤ e.1 ∧ (k = 1 → en < e.1)
  | [], _, _, _ => ⟨rfl, fun e r h => by simp [insX] at h⟩
  | (f, t, T) :: es, en, k, h => by
    by_cases hT : T = []
    · subst hT
      rw [Nm, if_pos rfl] at h
      simp only [insX, if_pos]
      obtain ⟨i1, i2⟩ := insX_ord es t 2 h.2.2.2.2
      exact ⟨i1, fun e r he => by have := (i2 e r he).1; omega⟩
    · rw [Nm, if_neg hT] at h
      simp only [insX, if_neg hT]
      obtain ⟨i1, i2⟩ := insX_ord es en 1 h.2.2.2
      refine ⟨?_, fun e r he => ?_⟩
      · cases e : insX en es with
        | nil => rfl
        | cons q r =>
          have h5 := (i2 q r e).2 rfl
          rw [e] at i1
          show (ordE (en, en, T) q && ordB (q :: r)) = true
          rw [i1, show ordE (en, en, T) q = true from decide_eq_true ⟨by simp only; omega, by simp only; omega⟩]; rfl
      · cases he
        exact ⟨Int.le_refl _, fun h1 => absurd h1 h.2.2.1⟩
/-- What Build says of the texts alone. -/
theorem insX_flt {base : Int} {es : List El} (h : isB base es = true) : flt base (insX 0 es) = if 20000 < base + inS es then 13 else 0 := by
  obtain ⟨h1, h2, h3, h4⟩ := isB_spec.1 h
  unfold flt
  rw [insX_wt es 0 0 (Int.le_refl _) h1.1 h2, (insX_ord es 0 0 h2).1, insX_vl es 0 h3, sz8_two, insX_cp, insX_in (base := base), decide_eq_true ⟨h1.1, h1.2.1⟩]
  simp
theorem chs_insX {base : Int} : ∀ (es : List El) (en : Int) (k : Nat), en ≤ base → Nm base en k es → Chs base en (insX en es)
  | [], _, _, hb, _ => hb
  | (f, t, T) :: es, en, k, hb, h => by
    by_cases hT : T = []
    · subst hT
      rw [Nm, if_pos rfl] at h
      simp only [insX, if_pos]
      exact chs_mono _ en t (by omega) (chs_insX es t 2 h.2.2.2.1 h.2.2.2.2)
    · rw [Nm, if_neg hT] at h
      simp only [insX, if_neg hT]
      exact ⟨Int.le_refl _, Int.le_refl _, hb, chs_insX es en 1 hb h.2.2.2⟩
theorem inS_txF (T : List UInt8) : inS (tx T) = T.length := by
  unfold tx
  split
  · rename_i h; rw [h]; rfl
  · simp [inS]
theorem inS_elGF {base : Int} : ∀ (l : List El) (txt : List UInt8) (en : Int), inS (elG base txt en l) = txt.length + inS l
  | [], txt, en => by
    simp only [elG, inS_append, inS_txF]
    split <;> simp [inS]
  | (f, t, T) :: l, txt, en => by
    have hc : inS ((f, t, T) :: l) = T.length + inS l := by simp [inS]
    simp only [elG]
    split
    · rename_i h
      rw [inS_elGF l txt en, hc, h.2]; simp
    · split
      · rw [inS_append, inS_txF, hc]
        have : inS ((en, f, []) :: elG base T t l) = inS (elG base T t l) := by simp [inS]
        rw [this, inS_elGF l T t]
      · rw [inS_elGF l (txt ++ T) t, hc, List.length_append]; omega
theorem cpS_elGF {base : Int} {l : List El} (hc : Chs base 0 l) : cpS (elG base [] 0 l) = sz8 base l - inS l := by
  have h := elG_size hc
  rw [szE_two, inS_elGF] at h
  simp at h
  omega
/-- The half that keeps all: its elements. -/
def insE (base : Int) (es : List El) : List El := elG base [] 0 (insX 0 es)
theorem insE_cel {base : Int} {es : List El} (h : isB base es = true) : cel (insE base es) = bce base 0 (insX 0 es) := by
  obtain ⟨h1, h2, h3, h4⟩ := isB_spec.1 h
  have := cel_elG (insX 0 es) [] 0 (chs_insX es 0 0 h1.1 h2)
  unfold insE
  rw [this]; rfl
theorem insE_in {base : Int} {es : List El} : inS (insE base es) = inS es := by
  unfold insE; rw [inS_elGF, insX_in (base := base)]; simp
theorem insE_cp {base : Int} {es : List El} (h : isB base es = true) : cpS (insE base es) = base := by
  obtain ⟨h1, h2, h3, h4⟩ := isB_spec.1 h
  unfold insE
  rw [cpS_elGF (chs_insX es 0 0 h1.1 h2), sz8_two, insX_cp]; omega
theorem insE_isB {base : Int} {es : List El} (h : isB base es = true) (hl : ¬ 20000 < base + inS es) (hm : (insE base es).length ≤ 60) : isB base (insE base es) = true :=
  isB_elG (by rw [insX_flt h, if_neg hl]) hm

/-- Elements that keep all from at on (k = 1 behind a text). -/
def Ky (base : Int) : Int → Nat → List El → Prop
  | a, _, [] => a = base
  | a, k, (f, t, T) :: es => if T = [] then f = a ∧ a < t ∧ Ky base t 2 es else f = 0 ∧ t = 0 ∧ k ≠ 1 ∧ Ky base a 1 es
theorem ky_le {base : Int} : ∀ (es : List El) (a : Int) (k : Nat), Ky base a k es → a ≤ base
  | [], a, _, h => by unfold Ky at h; omega
  | (f, t, T) :: es, a, k, h => by
    unfold Ky at h
    split at h
    · have := ky_le es t 2 h.2.2; omega
    · exact ky_le es a 1 h.2.2.2
theorem ky_of {base : Int} : ∀ (es : List El) (a : Int) (k : Nat), a ≤ base → Nm base a k es → cpS es = base - a → Ky base a k es
  | [], a, _, _, _, h => by simp [cpS] at h; show a = base; omega
  | (f, t, T) :: es, a, k, hb, h, hc => by
    by_cases hT : T = []
    · subst hT
      rw [Nm, if_pos rfl] at h
      have e2 : cpS ((f, t, []) :: es) = (t - f) + cpS es := by simp [cpS]
      have := nm_cp es t 2 h.2.2.2.2
      rw [e2] at hc
      rw [Ky, if_pos rfl]
      have hf : f = a := by omega
      exact ⟨hf, by omega, ky_of es t 2 h.2.2.2.1 h.2.2.2.2 (by omega)⟩
    · rw [Nm, if_neg hT] at h
      obtain ⟨h1, h2, h3, h4⟩ := h
      have e2 : cpS ((f, t, T) :: es) = cpS es := by simp [cpS, h1, h2]
      rw [e2] at hc
      rw [Ky, if_neg hT]
      exact ⟨h1, h2, h3, ky_of es a 1 hb h4 hc⟩
theorem ky_isB {base : Int} {es : List El} (h : isB base es = true) (hc : cpS es = base) : Ky base 0 0 es := by
  obtain ⟨h1, h2, h3, h4⟩ := isB_spec.1 h
  exact ky_of es 0 0 h1.1 h2 (by omega)
/-- Of bytes what isn't in a row. -/
def fil (L : List Int) (cs : List Ce) : List Ce := cs.filter fun c => decide (c.1 < 0) || decide (L.getD c.1.toNat 0 = 0)
theorem fil_append (L : List Int) (a b : List Ce) : fil L (a ++ b) = fil L a ++ fil L b := by simp [fil]
theorem fil_own (L : List Int) (T : List UInt8) : fil L (ownT T) = ownT T := by
  unfold fil
  rw [List.filter_eq_self]
  intro c hc
  simp only [ownT, List.mem_map] at hc
  obtain ⟨b, _, rfl⟩ := hc
  rfl
theorem rng_mem {f t : Int} {c : Ce} (h : c ∈ rng f t) : f ≤ c.1 ∧ c.1 < t := by
  simp only [rng, List.mem_map, List.mem_range] at h
  obtain ⟨i, hi, rfl⟩ := h
  simp only
  omega
theorem fil_zero {L : List Int} {f t : Int} (h0 : 0 ≤ f) (h : ∀ i : Nat, f ≤ i → i < t → L.getD i 0 = 0) : fil L (rng f t) = rng f t := by
  unfold fil
  rw [List.filter_eq_self]
  intro c hc
  obtain ⟨h1, h2⟩ := rng_mem hc
  have := h c.1.toNat (by omega) (by omega)
  rw [this]; simp
theorem fil_gone {L : List Int} {f t : Int} (h0 : 0 ≤ f) (h : ∀ i : Nat, f ≤ i → i < t → L.getD i 0 ≠ 0) : fil L (rng f t) = [] := by
  unfold fil
  rw [List.filter_eq_nil_iff]
  intro c hc
  obtain ⟨h1, h2⟩ := rng_mem hc
  have := h c.1.toNat (by omega) (by omega)
  simp only [Bool.or_eq_true, decide_eq_true_eq, not_or]
  exact ⟨by omega, this⟩
/-- A run at the head of what is left of a row. -/
theorem get_run {L : List Int} {a : Nat} {m c : Int} {ys : List Sg} (h : xp ((m, c) :: ys) = L.drop a) {i : Nat} (h1 : a ≤ i) (h2 : (i : Int) < a + m) : L.getD i 0 = c := by
  have e : L[i]? = (L.drop a)[i - a]? := by rw [List.getElem?_drop]; congr 1; omega
  rw [List.getD_eq_getElem?_getD, e, ← h]
  have : xp ((m, c) :: ys) = List.replicate m.toNat c ++ xp ys := rfl
  rw [this, List.getElem?_append_left (by simp; omega), List.getElem?_replicate, if_pos (by omega)]
  rfl
theorem bce_snoc {base : Int} : ∀ (l : List El) (a f t : Int) (T : List UInt8), bce base a (l ++ [(f, t, T)]) = bce f a l ++ (ownT T ++ rng t base)
  | [], a, f, t, T => by simp [bce]
  | (f', t', T') :: l, a, f, t, T => by
    simp only [List.cons_append, bce]
    rw [bce_snoc l t' f t T]
    simp
end Go.Proofs.YtalolaajcmndeaaDoor
namespace Go.Proofs.YtalolaajcmndeaaDoor
set_option linter.unusedSimpArgs false
set_option linter.unusedVariables false

theorem ky_chs {base : Int} : ∀ (es : List El) (a : Int) (k : Nat), Ky base a k es → Chs base a (insX a es)
  | [], a, _, h => by have : a = base := h; show a ≤ base; omega
  | (f, t, T) :: es, a, k, h => by
    have hb := ky_le _ _ _ h
    unfold Ky at h
    split at h
    · rename_i hT
      simp only [insX, if_pos hT]
      exact chs_mono _ a t (by omega) (ky_chs es t 2 h.2.2)
    · rename_i hT
      simp only [insX, if_neg hT]
      exact ⟨Int.le_refl _, Int.le_refl _, hb, ky_chs es a 1 h.2.2.2⟩
theorem ky_bce {base : Int} : ∀ (es : List El) (a : Int) (k : Nat), Ky base a k es → bce base a (insX a es) = cel es
  | [], a, _, h => by have : a = base := h; simp [bce, insX, cel, rng_none, this]
  | (f, t, T) :: es, a, k, h => by
    unfold Ky at h
    split at h
    · rename_i hT
      obtain ⟨rfl, h2, h3⟩ := h
      subst hT
      simp only [insX, if_pos]
      rw [bce_from _ f t (by omega) (ky_chs es t 2 h3), ky_bce es t 2 h3, cel_cons]
      rfl
    · rename_i hT
      obtain ⟨rfl, rfl, h3, h4⟩ := h
      simp only [insX, if_neg hT, bce]
      rw [ky_bce es a 1 h4, rng_none (Int.le_refl _), cel_cons, show ce1 (0, 0, T) = ownT T ++ rng 0 0 from rfl, rng_none (Int.le_refl _)]
      simp
/-- Of what keeps all the first half is itself. -/
theorem insE_self {base : Int} {es : List El} (h : isB base es = true) (hc : cpS es = base) : insE base es = es := by
  obtain ⟨h1, h2, h3, h4⟩ := isB_spec.1 h
  have hk := ky_isB h hc
  unfold insE
  rw [elG_tld (ky_chs es 0 0 hk), ky_bce es 0 0 hk]
  exact tld_cel es 0 0 (Int.le_refl _) h2
theorem insX_none : ∀ (es : List El) (en : Int), inS es = 0 → insX en es = []
  | [], _, _ => rfl
  | (f, t, T) :: es, en, h => by
    simp only [inS, List.map_cons, List.sum_cons] at h
    have hT : T = [] := List.eq_nil_of_length_eq_zero (by omega)
    subst hT
    simp only [insX, if_pos]
    exact insX_none es t (by simp only [inS]; omega)
theorem getD_drop {L A : List Int} {a : Nat} (h : L.drop a = A) {i : Nat} (hi : a ≤ i) : L.getD i 0 = A.getD (i - a) 0 := by
  subst h
  rw [List.getD_eq_getElem?_getD, List.getD_eq_getElem?_getD, List.getElem?_drop]
  congr 2
  omega
theorem drop_rep {L A : List Int} {a n : Nat} {c : Int} (h : L.drop a = List.replicate n c ++ A) : L.drop (a + n) = A := by
  rw [← List.drop_drop, h, List.drop_left' (by simp)]
theorem getD_rep {L A : List Int} {a n : Nat} {c : Int} (h : L.drop a = List.replicate n c ++ A) {i : Nat} (h1 : a ≤ i) (h2 : i < a + n) : L.getD i 0 = c := by
  rw [getD_drop h h1, List.getD_eq_getElem?_getD, List.getElem?_append_left (by simp; omega), List.getElem?_replicate, if_pos (by omega)]
  rfl
/-- BOTH HALVES TOGETHER ARE THE WHOLE. -/
theorem spl_join {base : Int} {L : List Int} : ∀ (es : List El) (en : Int) (k : Nat), 0 ≤ en → en ≤ base → Nm base en k es → L.drop en.toNat = gon base en es → fil L (bce base en (insX en es)) = cel es
  | [], en, k, h0, hb, _, hg => by
    simp only [insX, bce, cel, List.flatMap_nil]
    simp only [gon] at hg
    refine fil_gone h0 fun i i1 i2 => ?_
    have hg2 : L.drop en.toNat = List.replicate (base - en).toNat 1 ++ [] := by rw [hg, List.append_nil]
    rw [getD_rep hg2 (by omega) (by omega)]
    omega
  | (f, t, T) :: es, en, k, h0, hb, h, hg => by
    by_cases hT : T = []
    · subst hT
      rw [Nm, if_pos rfl] at h
      obtain ⟨h1, _, h3, h4, h5⟩ := h
      simp only [gon, if_pos] at hg
      have g1 := drop_rep hg
      have g2 := drop_rep g1
      rw [show en.toNat + (f - en).toNat + (t - f).toNat = t.toNat by omega] at g2
      have ih := spl_join es t 2 (by omega) h4 h5 g2
      simp only [insX, if_pos]
      rw [bce_from _ en t (by omega) (chs_insX es t 2 h4 h5), rng_split (m := f) h1 (by omega), fil_append, fil_append, ih, cel_cons,
        fil_gone h0 (fun i i1 i2 => by rw [getD_rep hg (by omega) (by omega)]; omega),
        fil_zero (by omega) (fun i i1 i2 => getD_rep g1 (by omega) (by omega))]
      rfl
    · rw [Nm, if_neg hT] at h
      obtain ⟨rfl, rfl, h3, h4⟩ := h
      simp only [gon, if_neg hT] at hg
      have ih := spl_join es en 1 h0 hb h4 hg
      simp only [insX, if_neg hT, bce]
      rw [fil_append, fil_append, fil_own, ih, rng_none (Int.le_refl _), cel_cons, show ce1 (0, 0, T) = ownT T ++ rng 0 0 from rfl, rng_none (Int.le_refl _)]
      simp [fil]
theorem join_back {base : Int} {es : List El} (h : isB base es = true) : fil (gon base 0 es) (cel (insE base es)) = cel es ∧ tld (fil (gon base 0 es) (cel (insE base es))) = es := by
  obtain ⟨h1, h2, h3, h4⟩ := isB_spec.1 h
  have e : fil (gon base 0 es) (cel (insE base es)) = cel es := by
    rw [insE_cel h]
    exact spl_join es 0 0 (Int.le_refl _) h1.1 h2 rfl
  exact ⟨e, by rw [e]; exact tld_cel es 0 0 (Int.le_refl _) h2⟩
end Go.Proofs.YtalolaajcmndeaaDoor
