/- The loops of package offset, place by place: plain mathematics. One text put in, one part taken away: where places go; plain mathematics. -/
import Derived.Test.YtafhogfbjklboaaDoorOffLaw
import Derived.Test.YtafhogfbjklboaaDoorDelCell
import Derived.Test.YtafhogfbjklboaaDoorDelHelp
namespace Go.Proofs.YtafhogfbjklboaaDoor
set_option linter.unusedSimpArgs false
set_option linter.unusedVariables false

/-- A place held within. -/
def hld (at' most : Int) : Int := min (max at' 0) most
/-- Where a place goes. -/
def mvV (base : Int) (es : List El) (at' : Int) (after : Bool) : Int :=
  if isB base es then (if after then (frK (hld at' base) (cel es) : Nat) else (mvN (hld at' base) (cel es) : Nat)) else 0
/-- Where a byte came from. -/
def bkV (base : Int) (es : List El) (at' : Int) : Int := if isB base es then bkC base (cel es) (max at' 0).toNat else 0
/-- Whether the byte is kept by these. -/
def stB (es : List El) (at' : Int) : Bool := es.any fun e => decide (e.1 ≤ at' ∧ at' < e.2.1)
theorem cel_at {es : List El} {k : Nat} {e : El} (hr : es[k]? = some e) : cel es = cel (es.take k) ++ (ce1 e ++ cel (es.drop (k + 1))) := by
  conv => lhs; rw [← List.take_append_drop k es, drop_consE hr]
  rw [cel_append, cel_cons]
theorem ce1_text (f t : Int) {T : List UInt8} (h : Gd1 (f, t, T)) (hT : T ≠ []) : ce1 (f, t, T) = ownT T := by
  rcases h with ⟨h1, _⟩ | ⟨_, h2, h3⟩
  · exact absurd h1 hT
  · simp only at h2 h3
    subst h2 h3
    show ownT T ++ rng 0 0 = _
    rw [rng_none (Int.le_refl _), List.append_nil]
theorem ce1_copy (f t : Int) : ce1 (f, t, []) = rng f t := rfl
/-- How far Move has come: what was made, the texts behind it. -/
structure Mv (p : Int) (es : List El) (k : Nat) (m t : Int) : Prop where
  hm : (mvN p (cel (es.take k)) : Int) = m
  ht : ((cel (es.take k)).length : Int) = m + t
  hf : (frK p (cel (es.take k)) : Int) = m + t
  m0 : 0 ≤ m
  t0 : 0 ≤ t
theorem mv_start (p : Int) (es : List El) : Mv p es 0 0 0 := ⟨rfl, rfl, rfl, Int.le_refl _, Int.le_refl _⟩
theorem mv_text {p : Int} {es : List El} {k : Nat} {m t : Int} (h : Mv p es k m t) {f u : Int} {T : List UInt8} (hr : es[k]? = some (f, u, T)) (hg : Gd1 (f, u, T)) (hT : T ≠ []) : Mv p es (k + 1) m (t + T.length) := by
  obtain ⟨h1, h2, h3, h4, h5⟩ := h
  have e := cel_take hr
  rw [ce1_text f u hg hT] at e
  refine ⟨?_, ?_, ?_, h4, by omega⟩
  · rw [e, mvN_append, mvN_own, if_pos rfl, h1]
  · rw [e, List.length_append, own_len]; omega
  · rw [e, frK_append, frK_own, if_neg (by omega)]; omega
theorem mv_copy {p : Int} {es : List El} {k : Nat} {m t : Int} (h : Mv p es k m t) {f u : Int} (hr : es[k]? = some (f, u, [])) (hg : Gd1 (f, u, [])) (hp : u ≤ p) : Mv p es (k + 1) (m + t + (u - f)) 0 := by
  obtain ⟨h1, h2, h3, h4, h5⟩ := h
  have hfu : 0 ≤ f ∧ f < u := by
    rcases hg with ⟨_, g1, g2⟩ | ⟨g, _, _⟩
    · exact ⟨g1, g2⟩
    · exact absurd rfl g
  have e := cel_take hr
  rw [ce1_copy] at e
  refine ⟨?_, ?_, ?_, by omega, Int.le_refl _⟩
  · rw [e, mvN_append, mvN_rng _ f u rfl hfu.1, if_neg (by omega)]; omega
  · rw [e, List.length_append, rng_len]; omega
  · rw [e, frK_append, frK_rng _ f u rfl hfu.1, if_neg (by omega)]; omega
theorem mv_stop {base p : Int} {es : List El} {k : Nat} {m t : Int} (h : Mv p es k m t) (hn : Nm base 0 0 es) {f u : Int} (hr : es[k]? = some (f, u, [])) (hp : p ≤ f) : (mvN p (cel es) : Int) = m ∧ (frK p (cel es) : Int) = m + t := by
  obtain ⟨h1, h2, h3, h4, h5⟩ := h
  have hg := nm_gd es 0 0 (Int.le_refl _) hn _ (List.mem_of_getElem? hr)
  have hfu : 0 ≤ f ∧ f < u := by
    rcases hg with ⟨_, g1, g2⟩ | ⟨g, _, _⟩
    · exact ⟨g1, g2⟩
    · exact absurd rfl g
  have hu := up_cel es 0 0 (Int.le_refl _) hn
  have e := cel_at hr
  rw [ce1_copy, rng_cons hfu.2] at e
  rw [e] at hu ⊢
  obtain ⟨g1, g2, g3, g4, g5⟩ := up_mid _ 0 f 0 (rng (f + 1) u ++ cel (es.drop (k + 1))) hfu.1 hu
  have hz := mvN_up (p := p) _ (f + 1) g3 (by omega)
  refine ⟨?_, ?_⟩
  · have hz2 : mvN p ((f, 0) :: (rng (f + 1) u ++ cel (es.drop (k + 1)))) = 0 := by
      simp only [mvN, hz, if_true]
      rw [if_neg (by omega)]
    rw [List.cons_append, mvN_append, hz2, if_pos rfl, h1]
  · have hz2 : frK p ((f, 0) :: (rng (f + 1) u ++ cel (es.drop (k + 1)))) = 0 := by
      simp only [frK]
      rw [if_pos (by omega)]
    rw [List.cons_append, frK_append, if_neg (by omega), hz2]; omega
theorem mv_mid {base p : Int} {es : List El} {k : Nat} {m t : Int} (h : Mv p es k m t) (hn : Nm base 0 0 es) {f u : Int} (hr : es[k]? = some (f, u, [])) (hp : f < p) (hp2 : p < u) : (mvN p (cel es) : Int) = m + t + (p - f) ∧ (frK p (cel es) : Int) = m + t + (p - f) := by
  obtain ⟨h1, h2, h3, h4, h5⟩ := h
  have hg := nm_gd es 0 0 (Int.le_refl _) hn _ (List.mem_of_getElem? hr)
  have hfu : 0 ≤ f ∧ f < u := by
    rcases hg with ⟨_, g1, g2⟩ | ⟨g, _, _⟩
    · exact ⟨g1, g2⟩
    · exact absurd rfl g
  have hu := up_cel es 0 0 (Int.le_refl _) hn
  have e := cel_at hr
  rw [ce1_copy, rng_split (f := f) (m := p) (t := u) (by omega) (by omega), rng_cons hp2] at e
  have e2 : cel es = (cel (es.take k) ++ rng f p) ++ (p, 0) :: (rng (p + 1) u ++ cel (es.drop (k + 1))) := by rw [e]; simp
  rw [e2] at hu ⊢
  obtain ⟨k1, k2, k3⟩ := kept_at (a := p) (by omega) hu
  obtain ⟨g1, g2, g3, g4, g5⟩ := up_mid _ 0 p 0 _ (by omega) hu
  have hz := mvN_up (p := p) _ (p + 1) g3 (by omega)
  refine ⟨?_, ?_⟩
  · have hz2 : mvN p ((p, 0) :: (rng (p + 1) u ++ cel (es.drop (k + 1)))) = 0 := by
      simp only [mvN, hz, if_true]
      rw [if_neg (by omega)]
    rw [mvN_append, hz2, if_pos rfl, mvN_append, mvN_rng _ f p rfl hfu.1, if_neg (by omega)]; omega
  · rw [k1, List.length_append, rng_len]; omega
theorem mv_end {p : Int} {es : List El} {m t : Int} (h : Mv p es es.length m t) : (mvN p (cel es) : Int) = m ∧ (frK p (cel es) : Int) = m + t := by
  obtain ⟨h1, h2, h3, h4, h5⟩ := h
  rw [List.take_length] at h1 h3
  exact ⟨h1, h3⟩
theorem Mv.room {p : Int} {es : List El} {k : Nat} {m t : Int} (h : Mv p es k m t) : m + t ≤ (cel es).length := by
  have := h.ht
  have e : cel es = cel (es.take k) ++ cel (es.drop k) := by rw [← cel_append, List.take_append_drop]
  rw [e, List.length_append]
  omega
theorem lastK_append : ∀ a b : List Ce, lastK (a ++ b) = if lastK b = 0 then lastK a else lastK b
  | [], b => by
    simp only [List.nil_append, lastK]
    split
    · assumption
    · rfl
  | c :: a, b => by
    have ih := lastK_append a b
    simp only [List.cons_append, lastK, ih]
    by_cases h : lastK b = 0
    · simp only [if_pos h]
    · simp only [if_neg h]
theorem lastK_own : ∀ T : List UInt8, lastK (ownT T) = 0
  | [] => rfl
  | b :: T => by
    show lastK ((-1, b) :: ownT T) = 0
    simp only [lastK, lastK_own T, if_true]
    rw [if_neg (by omega)]
theorem lastK_rng {f u : Int} (h0 : 0 ≤ f) (h : f < u) : lastK (rng f u) = u := by
  rw [rng_split (f := f) (m := u - 1) (t := u) (by omega) (by omega), show rng (u - 1) u = [(u - 1, 0)] from by rw [rng_cons (by omega), rng_none (by omega)], lastK_append]
  simp only [lastK, if_true]
  rw [if_pos (show 0 ≤ u - 1 by omega), if_neg (by omega)]
  omega
/-- How far Back has come. -/
structure Bk (i : Nat) (es : List El) (k : Nat) (pl lf : Int) : Prop where
  hp : lastK (cel (es.take k)) = pl
  hl : (i : Int) = (cel (es.take k)).length + lf
  l0 : 0 ≤ lf
theorem bk_start (i : Nat) (es : List El) : Bk i es 0 0 (i : Nat) := ⟨rfl, by simp [cel], by omega⟩
theorem bk_text {i : Nat} {es : List El} {k : Nat} {pl lf : Int} (h : Bk i es k pl lf) {f u : Int} {T : List UInt8} (hr : es[k]? = some (f, u, T)) (hg : Gd1 (f, u, T)) (hT : T ≠ []) (hn : (T.length : Int) ≤ lf) : Bk i es (k + 1) pl (lf - T.length) := by
  obtain ⟨h1, h2, h3⟩ := h
  have e := cel_take hr
  rw [ce1_text f u hg hT] at e
  refine ⟨?_, ?_, by omega⟩
  · rw [e, lastK_append, lastK_own, if_pos rfl, h1]
  · rw [e, List.length_append, own_len]; omega
theorem bk_text_in {base : Int} {i : Nat} {es : List El} {k : Nat} {pl lf : Int} (h : Bk i es k pl lf) {f u : Int} {T : List UInt8} (hr : es[k]? = some (f, u, T)) (hg : Gd1 (f, u, T)) (hT : T ≠ []) (hn : lf < (T.length : Int)) : bkC base (cel es) i = pl := by
  obtain ⟨h1, h2, h3⟩ := h
  have e := cel_at hr
  rw [ce1_text f u hg hT] at e
  obtain ⟨j, rfl⟩ : ∃ j : Nat, lf = j := ⟨lf.toNat, by omega⟩
  have hi : i = (cel (es.take k)).length + j := by omega
  have hj : j < T.length := by omega
  have hc : (cel es)[i]? = some (-1, T[j]) := by
    rw [e, hi, List.getElem?_append_right (by omega), Nat.add_sub_cancel_left, List.getElem?_append_left (by rw [own_len]; omega)]
    simp [ownT, hj]
  unfold bkC
  rw [hc]
  simp only
  rw [if_neg (by omega), e, hi, List.take_append, List.take_of_length_le (by omega), Nat.add_sub_cancel_left, List.take_append_of_le_length (by rw [own_len]; omega), show (ownT T).take j = ownT (T.take j) from by simp [ownT, List.map_take], lastK_append, lastK_own, if_pos rfl, h1]
theorem bk_copy {i : Nat} {es : List El} {k : Nat} {pl lf : Int} (h : Bk i es k pl lf) {f u : Int} (hr : es[k]? = some (f, u, [])) (h0 : 0 ≤ f) (hfu : f < u) (hn : u - f ≤ lf) : Bk i es (k + 1) u (lf - (u - f)) := by
  obtain ⟨h1, h2, h3⟩ := h
  have e := cel_take hr
  rw [ce1_copy] at e
  refine ⟨?_, ?_, by omega⟩
  · rw [e, lastK_append, lastK_rng h0 hfu, if_neg (by omega)]
  · rw [e, List.length_append, rng_len]; omega
theorem bk_copy_in {base : Int} {i : Nat} {es : List El} {k : Nat} {pl lf : Int} (h : Bk i es k pl lf) {f u : Int} (hr : es[k]? = some (f, u, [])) (h0 : 0 ≤ f) (hfu : f < u) (hn : lf < u - f) : bkC base (cel es) i = f + lf := by
  obtain ⟨h1, h2, h3⟩ := h
  have e := cel_at hr
  rw [ce1_copy] at e
  obtain ⟨j, rfl⟩ : ∃ j : Nat, lf = j := ⟨lf.toNat, by omega⟩
  have hi : i = (cel (es.take k)).length + j := by omega
  have hc : (cel es)[i]? = some (f + (j : Int), 0) := by
    rw [e, hi, List.getElem?_append_right (by omega), Nat.add_sub_cancel_left, List.getElem?_append_left (by rw [rng_len]; omega)]
    unfold rng
    rw [List.getElem?_map, List.getElem?_range (by omega)]
    rfl
  unfold bkC
  rw [hc]
  simp only
  rw [if_pos (by omega)]
theorem bk_end {i : Nat} {es : List El} {pl lf : Int} (h : Bk i es es.length pl lf) : (cel es).length ≤ i := by
  obtain ⟨h1, h2, h3⟩ := h
  rw [List.take_length] at h2
  omega
theorem Bk.le {i : Nat} {es : List El} {k : Nat} {pl lf : Int} (h : Bk i es k pl lf) : lf ≤ i := by have := h.hl; omega
theorem bkV_none {base : Int} {es : List El} {at' : Int} (hi : isB base es = true) (h : ((cel es).length : Int) ≤ max at' 0) : bkV base es at' = base := by
  unfold bkV bkC
  rw [if_pos hi, List.getElem?_eq_none (by omega)]
theorem stB_take {es : List El} {k : Nat} {e : El} {at' : Int} (hr : es[k]? = some e) : stB (es.take (k + 1)) at' = (stB (es.take k) at' || decide (e.1 ≤ at' ∧ at' < e.2.1)) := by
  unfold stB
  rw [take_snoc7 hr, List.any_append]
  simp
theorem stB_yes {es : List El} {e : El} {at' : Int} (hm : e ∈ es) (h : e.1 ≤ at' ∧ at' < e.2.1) : stB es at' = true := by
  unfold stB
  rw [List.any_eq_true]
  exact ⟨e, hm, decide_eq_true h⟩
theorem stB_kept {es : List El} {at' : Int} (hg : ∀ e ∈ es, Gd1 e) (h : stB es at' = true) : 0 ≤ at' ∧ ∃ c ∈ cel es, c.1 = at' := by
  unfold stB at h
  rw [List.any_eq_true] at h
  obtain ⟨⟨f, u, T⟩, hm, hd⟩ := h
  replace hd := of_decide_eq_true hd
  simp only at hd
  have h0 : 0 ≤ f ∧ T = [] := by
    rcases hg _ hm with ⟨g1, g2, g3⟩ | ⟨g1, g2, g3⟩
    · exact ⟨g2, g1⟩
    · simp only at g2 g3; omega
  obtain ⟨h0, rfl⟩ := h0
  refine ⟨by omega, (at', 0), ?_, rfl⟩
  obtain ⟨k, hr⟩ := List.getElem?_of_mem hm
  rw [cel_at hr, ce1_copy, rng_split (f := f) (m := at') (t := u) hd.1 (by omega), rng_cons (f := at') (t := u) hd.2]
  simp
end Go.Proofs.YtafhogfbjklboaaDoor
namespace Go.Proofs.YtafhogfbjklboaaDoor
set_option linter.unusedSimpArgs false
set_option linter.unusedVariables false

theorem inS_one14 (f t : Int) (T : List UInt8) : inS [(f, t, T)] = T.length := by simp [inS]
theorem elG_one14 {n f q : Int} {T : List UInt8} : (elG n [] 0 [(f, q, T)]).length ≤ 60 := by
  have tl : ∀ T : List UInt8, (tx T).length ≤ 1 := fun T => by unfold tx; split <;> simp
  simp only [elG]
  have h1 := tl T
  have h2 := tl ([] : List UInt8)
  have h3 := tl ([] ++ T)
  repeat' split
  all_goals simp only [List.length_append, List.length_cons, List.length_nil]
  all_goals omega
theorem flt_one14 {N a b : Nat} {T : List UInt8} (hN : N ≤ 1000) (hab : a ≤ b) (hb : b ≤ N) (hT : T.length ≤ 1000) (hv : vld T = true) : flt N [((a : Int), (b : Int), T)] = 0 := by
  unfold flt
  have h1 : wthB N [((a : Int), (b : Int), T)] = true := by
    show (wthE N ((a : Int), (b : Int), T) && true) = true
    rw [show wthE N ((a : Int), (b : Int), T) = true from decide_eq_true ⟨by simp only; omega, by simp only; omega, by simp only; omega⟩]; rfl
  have h2 : ordB [((a : Int), (b : Int), T)] = true := rfl
  have h3 : vldB [((a : Int), (b : Int), T)] = true := by show (vld T && true) = true; rw [hv]; rfl
  rw [h1, h2, h3, decide_eq_true (show (0 : Int) ≤ (N : Int) ∧ (N : Int) ≤ 20000 by omega)]
  simp [sz8]
  omega
theorem flt_bad14 {N a : Nat} {T : List UInt8} (hN : N ≤ 1000) (hb : a ≤ N) (hv : vld T = false) : flt N [((a : Int), (a : Int), T)] = 12 := by
  unfold flt
  have h1 : wthB N [((a : Int), (a : Int), T)] = true := by
    show (wthE N ((a : Int), (a : Int), T) && true) = true
    rw [show wthE N ((a : Int), (a : Int), T) = true from decide_eq_true ⟨by simp only; omega, by simp only; omega, by simp only; omega⟩]; rfl
  have h2 : ordB [((a : Int), (a : Int), T)] = true := rfl
  have h3 : vldB [((a : Int), (a : Int), T)] = false := by show (vld T && true) = false; rw [hv]; rfl
  rw [h1, h2, h3, decide_eq_true (show (0 : Int) ≤ (N : Int) ∧ (N : Int) ≤ 20000 by omega)]
  rfl
/-- What was built has these bytes, and is a delta. -/
theorem built14 {base : Int} {l : List El} (hf : flt base l = 0) (hm : (elG base [] 0 l).length ≤ 60) : isB base (elG base [] 0 l) = true ∧ cel (elG base [] 0 l) = bce base 0 l := by
  refine ⟨isB_elG hf hm, ?_⟩
  rw [cel_elG l [] 0 (gd_of hf).ch]
  rfl
theorem hld_in {x n : Int} (h0 : 0 ≤ x) (h1 : x ≤ n) : hld x n = x := by
  unfold hld
  rw [Int.min_def, Int.max_def]
  repeat' split
  all_goals omega
theorem mvV_in {base : Int} {es : List El} {x : Int} (hi : isB base es = true) (h0 : 0 ≤ x) (h1 : x ≤ base) : mvV base es x false = (mvN x (cel es) : Nat) ∧ mvV base es x true = (frK x (cel es) : Nat) := by
  unfold mvV
  rw [if_pos hi, if_pos hi, hld_in h0 h1]
  exact ⟨rfl, rfl⟩
/-- What the law asks of the one. -/
structure Pm (N a x : Nat) (T : List UInt8) (P : List El) : Prop where
  len : P.length ≤ 60
  is : isB N P = true
  no : mvV N P x false = if (a : Int) < x then (x : Int) + (T.length : Nat) else x
  yes : mvV N P x true = if (a : Int) ≤ x then (x : Int) + (T.length : Nat) else x
theorem pm_of {N a x : Nat} {T : List UInt8} (hN : N ≤ 1000) (ha : a ≤ N) (hx : x ≤ N) (hT : T.length ≤ 1000) (hv : vld T = true) : Pm N a x T (elG N [] 0 [((a : Int), (a : Int), T)]) := by
  obtain ⟨h1, h2⟩ := built14 (flt_one14 hN (Nat.le_refl a) ha hT hv) elG_one14
  obtain ⟨h3, h4⟩ := mvV_in (x := (x : Int)) h1 (by omega) (by omega)
  refine ⟨elG_one14, h1, ?_, ?_⟩
  · rw [h3, h2, mvN_ins (by omega) (by omega) (by omega) (by omega)]
  · rw [h4, h2, frK_ins (by omega) (by omega) (by omega) (by omega)]
/-- .. of the other. -/
structure Qm (N a b x : Nat) (Q : List El) : Prop where
  len : Q.length ≤ 60
  is : isB N Q = true
  no : mvV N Q x false = if (a : Int) < x then max (a : Int) (x - (b - a)) else x
  yes : mvV N Q x true = if (a : Int) < x then max (a : Int) (x - (b - a)) else x
theorem qm_of {N a b x : Nat} (hN : N ≤ 1000) (hab : a ≤ b) (hb : b ≤ N) (hx : x ≤ N) : Qm N a b x (elG N [] 0 [((a : Int), (b : Int), [])]) := by
  obtain ⟨h1, h2⟩ := built14 (flt_one14 (T := []) hN hab hb (by simp) rfl) elG_one14
  obtain ⟨h3, h4⟩ := mvV_in (x := (x : Int)) h1 (by omega) (by omega)
  refine ⟨elG_one14, h1, ?_, ?_⟩
  · rw [h3, h2, mvN_cut (by omega) (by omega) (by omega) (by omega) (by omega)]
  · rw [h4, h2, frK_cut (by omega) (by omega) (by omega) (by omega) (by omega)]
end Go.Proofs.YtafhogfbjklboaaDoor
