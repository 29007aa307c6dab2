/- How far compose's through, changes, backwards have come: plain mathematics (layer 13). -/
import Derived.Test.YtelpinngimohoaaDoorComBld
namespace Go.Proofs.YtelpinngimohoaaDoor
set_option linter.unusedSimpArgs false
set_option linter.unusedVariables false

/-- How many bytes an element makes; those from one to another; without the first ones. -/
def elz (e : El) : Int := e.2.1 - e.1 + (e.2.2.length : Nat)
def prt (e : El) (a b : Int) : El := if e.2.2 = [] then (e.1 + a, e.1 + b, []) else (0, 0, (e.2.2.drop a.toNat).take (b.toNat - a.toNat))
def beh (e : El) (n : Int) (es : List El) : List El := if n = elz e then es else prt e n (elz e) :: es
theorem ce1_elz {e : El} (h : Gd1 e) : ((ce1 e).length : Int) = elz e ∧ 1 ≤ elz e := by
  obtain ⟨f, t, T⟩ := e
  have hl : (ce1 (f, t, T)).length = T.length + (t - f).toNat := by show (ownT T ++ rng f t).length = _; rw [List.length_append, own_len, rng_len]
  rw [hl]
  unfold elz
  rcases h with ⟨h1, h2, h3⟩ | ⟨h1, h2, h3⟩
  · simp only at h1 h2 h3 ⊢
    subst h1
    simp
    omega
  · simp only at h1 h2 h3 ⊢
    subst h2 h3
    have := List.length_pos_iff.2 h1
    simp
    omega
theorem prt_spec {e : El} (h : Gd1 e) {a b : Int} (h0 : 0 ≤ a) (h1 : a < b) (h2 : b ≤ elz e) : ce1 (prt e a b) = ((ce1 e).drop a.toNat).take (b.toNat - a.toNat) ∧ Gd1 (prt e a b) := by
  obtain ⟨f, t, T⟩ := e
  unfold elz at h2
  rcases h with ⟨g1, g2, g3⟩ | ⟨g1, g2, g3⟩
  · simp only at g1 g2 g3 h2
    subst g1
    simp only [List.length_nil] at h2
    unfold prt
    rw [if_pos rfl]
    refine ⟨?_, Or.inl ⟨rfl, by simp only; omega, by simp only; omega⟩⟩
    show ownT [] ++ rng (f + a) (f + b) = ((ownT [] ++ rng f t).drop a.toNat).take (b.toNat - a.toNat)
    simp only [ownT, List.map_nil, List.nil_append]
    rw [rng_split (f := f) (m := f + a) (t := t) (by omega) (by omega), List.drop_left' (by rw [rng_len]; omega), rng_split (f := f + a) (m := f + b) (t := t) (by omega) (by omega), List.take_left' (by rw [rng_len]; omega)]
  · simp only at g1 g2 g3 h2
    subst g2 g3
    unfold prt
    simp only [if_neg g1]
    refine ⟨?_, Or.inr ⟨?_, rfl, rfl⟩⟩
    · show ownT _ ++ rng 0 0 = ((ownT T ++ rng 0 0).drop a.toNat).take (b.toNat - a.toNat)
      rw [rng_none (Int.le_refl _), List.append_nil, List.append_nil]
      simp only [ownT, List.map_drop, List.map_take]
    · simp only
      intro e
      have := congrArg List.length e
      rw [List.length_take, List.length_drop] at this
      simp at this
      omega
theorem cel_beh {e : El} {es : List El} (h : Gd1 e) {n : Int} (h0 : 1 ≤ n) (h2 : n ≤ elz e) : cel (beh e n es) = (cel (e :: es)).drop n.toNat := by
  have hl := (ce1_elz h).1
  unfold beh
  rw [cel_cons]
  split
  · rename_i hn
    rw [List.drop_left' (by omega)]
  · rename_i hn
    rw [cel_cons, (prt_spec h (by omega) (by omega) (Int.le_refl _)).1, List.drop_append_of_le_length (by omega), List.take_of_length_le (by rw [List.length_drop]; omega)]
theorem gd_beh {e : El} {es : List El} (h : ∀ x ∈ e :: es, Gd1 x) {n : Int} (h0 : 1 ≤ n) (h2 : n ≤ elz e) : ∀ x ∈ beh e n es, Gd1 x := by
  intro x hx
  unfold beh at hx
  split at hx
  · exact h x (by simp [hx])
  · rcases List.mem_cons.1 hx with rfl | hx
    · exact (prt_spec (h e (by simp)) (by omega) (by omega) (Int.le_refl _)).2
    · exact h x (by simp [hx])
theorem beh_len (e : El) (n : Int) (es : List El) : (beh e n es).length ≤ es.length + 1 ∧ (n = elz e → (beh e n es).length = es.length) := by
  unfold beh
  split
  · exact ⟨by omega, fun _ => rfl⟩
  · exact ⟨by simp, fun h => absurd h (by assumption)⟩
/-- Numbers within some bounds. -/
def Bx (e : El) : Prop := 0 ≤ e.1 ∧ e.1 ≤ e.2.1 ∧ e.2.1 ≤ 20000 ∧ e.2.2.length ≤ 20000
theorem bx_prt {e : El} (h : Bx e) {a b : Int} (h0 : 0 ≤ a) (h1 : a ≤ b) (h2 : b ≤ elz e) : Bx (prt e a b) := by
  obtain ⟨f, t, T⟩ := e
  obtain ⟨b1, b2, b3, b4⟩ := h
  unfold prt elz at *
  simp only at b1 b2 b3 b4 h2
  by_cases hT : T = []
  · subst hT
    simp only [List.length_nil] at h2
    simp only [if_pos]
    exact ⟨by simp only; omega, by simp only; omega, by simp only; omega, by simp⟩
  · simp only [if_neg hT]
    refine ⟨by simp, by simp, by simp, ?_⟩
    simp only
    rw [List.length_take, List.length_drop]
    omega
theorem bx_beh {e : El} {es : List El} (h : ∀ x ∈ e :: es, Bx x) {n : Int} (h0 : 1 ≤ n) (h2 : n ≤ elz e) : ∀ x ∈ beh e n es, Bx x := by
  intro x hx
  unfold beh at hx
  split at hx
  · exact h x (by simp [hx])
  · rcases List.mem_cons.1 hx with rfl | hx
    · exact bx_prt (h e (by simp)) (by omega) h2 (Int.le_refl _)
    · exact h x (by simp [hx])
theorem bx_elz {e : El} (h : Bx e) : elz e ≤ 40000 := by
  obtain ⟨h1, h2, h3, h4⟩ := h
  unfold elz; omega
theorem bx_of {base : Int} {es : List El} (h : isB base es = true) : ∀ e ∈ es, Bx e := by
  have hd := dl_of h
  intro e he
  have h1 := hd.bd e he
  exact ⟨h1.1, h1.2.1, h1.2.2, hd.sm e he⟩
/-- How far both deltas are gone through. -/
structure Th (A : List Ce) (ea eb xs ys acc : List El) (a : Int) : Prop where
  cx : cel xs = A.drop a.toNat
  gx : ∀ e ∈ xs, Gd1 e
  bx : ∀ e ∈ xs, Bx e
  a0 : 0 ≤ a
  a1 : a ≤ A.length
  ly : ∃ k, Nm A.length a k ys
  by' : ∀ e ∈ ys, Bx e
  ga : ∀ e ∈ acc, Gd1 e
  ba : ∀ e ∈ acc, Bx e
  eq : twoC A (cel eb) = cel acc ++ twoC A (cel ys)
  cnt : acc.length + xs.length + ys.length ≤ ea.length + eb.length
theorem th_start {ba bb : Int} {ea eb : List El} (ha : isB ba ea = true) (hb : isB bb eb = true) (hl : bb = ((cel ea).length : Nat)) : Th (cel ea) ea eb ea eb [] 0 := by
  have na := (isB_spec.1 ha).2.1
  have nb := (isB_spec.1 hb).2.1
  subst hl
  exact ⟨rfl, nm_gd ea 0 0 (Int.le_refl _) na, bx_of ha, Int.le_refl _, by omega, ⟨0, nb⟩, bx_of hb, fun e he => (by cases he), fun e he => (by cases he), rfl, by simp⟩
theorem th_text {A : List Ce} {ea eb xs ys acc : List El} {a f t : Int} {T : List UInt8} (h : Th A ea eb xs ((f, t, T) :: ys) acc a) (hT : T ≠ []) : Th A ea eb xs ys (acc ++ [(f, t, T)]) a := by
  obtain ⟨k, hk⟩ := h.ly
  rw [Nm, if_neg hT] at hk
  obtain ⟨rfl, rfl, h3, h4⟩ := hk
  refine ⟨h.cx, h.gx, h.bx, h.a0, h.a1, ⟨1, h4⟩, fun e he => h.by' e (by simp [he]), ?_, ?_, ?_, ?_⟩
  · intro e he
    rcases List.mem_append.1 he with he | he
    · exact h.ga e he
    · simp only [List.mem_singleton] at he
      subst he
      exact Or.inr ⟨hT, rfl, rfl⟩
  · intro e he
    rcases List.mem_append.1 he with he | he
    · exact h.ba e he
    · simp only [List.mem_singleton] at he
      subst he
      exact h.by' _ (by simp)
  · have e1 : ce1 ((0 : Int), (0 : Int), T) = ownT T := by show ownT T ++ rng 0 0 = _; rw [rng_none (Int.le_refl _), List.append_nil]
    rw [h.eq, cel_cons, e1, twoC_append, twoC_own, cel_append, cel_cons, e1, cel_nil, List.append_nil, List.append_assoc]
  · have := h.cnt
    simp only [List.length_append, List.length_cons, List.length_nil] at this ⊢
    omega
/-- A copy ahead: there is something left of the first one. -/
theorem th_more {A : List Ce} {ea eb xs ys acc : List El} {a f t : Int} (h : Th A ea eb xs ((f, t, []) :: ys) acc a) : a ≤ f ∧ f < t ∧ t ≤ A.length ∧ ∃ x r, xs = x :: r := by
  obtain ⟨k, hk⟩ := h.ly
  rw [Nm, if_pos rfl] at hk
  obtain ⟨h1, h2, h3, h4, h5⟩ := hk
  refine ⟨h1, h3, h4, ?_⟩
  have e := congrArg List.length h.cx
  rw [List.length_drop] at e
  have := h.a0
  cases xs with
  | nil => simp [cel] at e; omega
  | cons x r => exact ⟨x, r, rfl⟩
theorem th_left {A : List Ce} {ea eb xs ys acc : List El} {x : El} {a : Int} (h : Th A ea eb (x :: xs) ys acc a) : elz x ≤ (A.length : Int) - a := by
  have e := congrArg List.length h.cx
  rw [List.length_drop, cel_cons, List.length_append] at e
  have := (ce1_elz (h.gx x (by simp))).1
  have := h.a0
  have := h.a1
  omega
theorem drop_two {A : List Ce} {a n : Int} (h0 : 0 ≤ a) (h1 : 0 ≤ n) : (A.drop a.toNat).drop n.toNat = A.drop (a + n).toNat := by
  rw [List.drop_drop]; congr 1; omega
theorem th_skip {A : List Ce} {ea eb xs ys acc : List El} {x : El} {a f t n : Int} (h : Th A ea eb (x :: xs) ((f, t, []) :: ys) acc a) (h1 : 1 ≤ n) (h2 : n ≤ elz x) (h3 : a + n ≤ f) : Th A ea eb (beh x n xs) ((f, t, []) :: ys) acc (a + n) := by
  obtain ⟨k, hk⟩ := h.ly
  rw [Nm, if_pos rfl] at hk
  have hl := th_left h
  have := h.a0
  refine ⟨?_, gd_beh h.gx h1 h2, bx_beh h.bx h1 h2, by omega, by omega, ⟨0, ?_⟩, h.by', h.ga, h.ba, h.eq, ?_⟩
  · rw [cel_beh (h.gx x (by simp)) h1 h2, h.cx, drop_two h.a0 (by omega)]
  · rw [Nm, if_pos rfl]
    exact ⟨h3, fun e => by omega, hk.2.2⟩
  · have := h.cnt
    have := (beh_len x n xs).1
    simp only [List.length_cons] at *
    omega
theorem th_copy {A : List Ce} {ea eb xs ys acc : List El} {x : El} {f t n : Int} (h : Th A ea eb (x :: xs) ((f, t, []) :: ys) acc f) (h1 : 1 ≤ n) (h2 : n ≤ elz x) (h3 : f + n ≤ t) (h4 : n = elz x ∨ f + n = t) : Th A ea eb (beh x n xs) (beh (f, t, []) n ys) (acc ++ [prt x 0 n]) (f + n) := by
  obtain ⟨k, hk⟩ := h.ly
  rw [Nm, if_pos rfl] at hk
  obtain ⟨k1, k2, k3, k4, k5⟩ := hk
  have h0 := h.a0
  have hx := h.gx x (by simp)
  have hs : elz (f, t, []) = t - f := by simp [elz]
  have hp := prt_spec hx (a := 0) (b := n) (Int.le_refl _) (by omega) h2
  have hl := th_left h
  refine ⟨?_, gd_beh h.gx h1 h2, bx_beh h.bx h1 h2, by omega, by omega, ?_, bx_beh h.by' h1 (by omega), ?_, ?_, ?_, ?_⟩
  · rw [cel_beh hx h1 h2, h.cx, drop_two h.a0 (by omega)]
  · unfold beh
    rw [hs]
    split
    · rename_i e
      rw [show f + n = t by omega]
      exact ⟨2, k5⟩
    · rename_i e
      refine ⟨0, ?_⟩
      show Nm A.length (f + n) 0 ((f + n, f + (t - f), []) :: ys)
      rw [Nm, if_pos rfl, show f + (t - f) = t by omega]
      exact ⟨Int.le_refl _, fun e => by omega, by omega, k4, k5⟩
  · intro e he
    rcases List.mem_append.1 he with he | he
    · exact h.ga e he
    · simp only [List.mem_singleton] at he
      subst he
      exact hp.2
  · intro e he
    rcases List.mem_append.1 he with he | he
    · exact h.ba e he
    · simp only [List.mem_singleton] at he
      subst he
      exact bx_prt (h.bx x (by simp)) (Int.le_refl _) (by omega) h2
  · have hgy : Gd1 (f, t, []) := Or.inl ⟨rfl, h0, k3⟩
    have e2 : cel ((f, t, []) :: ys) = rng f (f + n) ++ cel (beh (f, t, []) n ys) := by
      have e0 : cel ((f, t, []) :: ys) = rng f (f + n) ++ (rng (f + n) t ++ cel ys) := by
        rw [cel_cons, show ce1 (f, t, []) = rng f t from rfl, rng_split (f := f) (m := f + n) (t := t) (by omega) h3, List.append_assoc]
      rw [cel_beh hgy h1 (by omega), e0, List.drop_left' (by rw [rng_len]; omega)]
    have e3 : ce1 (prt x 0 n) = twoC A (rng f (f + n)) := by
      rw [hp.1, twoC_rng h0 (by omega) (by omega), ← h.cx, cel_cons]
      have := (ce1_elz hx).1
      rw [show (0 : Int).toNat = 0 from rfl, List.drop_zero, Nat.sub_zero, show (f + n - f).toNat = n.toNat by omega, List.take_append_of_le_length (by omega)]
    rw [h.eq, e2, twoC_append, cel_append, cel_cons, cel_nil, List.append_nil, e3, List.append_assoc]
  · have := h.cnt
    have b1 := beh_len x n xs
    have b2 := beh_len (f, t, []) n ys
    simp only [List.length_cons, List.length_append, List.length_nil] at *
    rcases h4 with e | e
    · have := b1.2 e; omega
    · have := b2.2 (by omega); omega
/-- What comes of through. -/
structure Tg (base : Int) (cs : List Ce) (ps : List El) : Prop where
  b0 : 0 ≤ base ∧ base ≤ 20000
  gd : ∀ e ∈ ps, Gd1 e
  bx : ∀ e ∈ ps, Bx e
  eq : cel ps = cs
  up : Up base 0 cs
  sz : cs.length ≤ 20000
  len : ps.length ≤ 120
theorem th_end {ba bb : Int} {ea eb xs acc : List El} {a : Int} (ha : isB ba ea = true) (hb : isB bb eb = true) (hl : bb = ((cel ea).length : Nat)) (h : Th (cel ea) ea eb xs [] acc a) : Tg ba (twoC (cel ea) (cel eb)) acc := by
  have da := dl_of ha
  have db := dl_of hb
  refine ⟨⟨da.b0, da.b1⟩, h.ga, h.ba, ?_, two_up ha hb hl, ?_, ?_⟩
  · rw [h.eq]; simp [cel, twoC]
  · rw [twoC_len]
    have h1 := cel_size eb 0 0 db.nm
    have h2 := db.sz
    rw [szE_two] at h1
    omega
  · have := h.cnt
    have := da.len
    have := db.len
    omega
/-- How far changes has come. -/
structure Cq (base : Int) (cs : List Ce) (ps acc : List El) (k : Nat) (en : Int) (txt : List UInt8) : Prop where
  eq : cs = bce en 0 acc ++ (ownT txt ++ cel (ps.drop k))
  up : Up base en (cel (ps.drop k))
  e0 : 0 ≤ en ∧ en ≤ base
  pw : acc.Pairwise (fun a b => a.2.1 < b.1)
  al : ∀ e ∈ acc, 0 ≤ e.1 ∧ e.1 ≤ e.2.1 ∧ e.2.1 < en
  len : acc.length ≤ k
theorem cq_start {base : Int} {cs : List Ce} {ps : List El} (h : Tg base cs ps) : Cq base cs ps [] 0 0 [] :=
  ⟨by simp [bce, rng_none, ownT, h.eq], by rw [List.drop_zero, h.eq]; exact h.up, ⟨Int.le_refl _, h.b0.1⟩, List.Pairwise.nil, fun e he => (by cases he), Nat.le_refl _⟩
theorem drop_consB {α : Type} {l : List α} {k : Nat} {x : α} (h : l[k]? = some x) : l.drop k = x :: l.drop (k + 1) := by
  obtain ⟨h1, h2⟩ := List.getElem?_eq_some_iff.1 h
  rw [List.drop_eq_getElem_cons h1, h2]
theorem cq_text {base : Int} {cs : List Ce} {ps acc : List El} {k : Nat} {en f t : Int} {txt T : List UInt8} (h : Cq base cs ps acc k en txt) (hr : ps[k]? = some (f, t, T)) (hg : Gd1 (f, t, T)) (hT : T ≠ []) : Cq base cs ps acc (k + 1) en (txt ++ T) := by
  rcases hg with ⟨h1, _⟩ | ⟨_, h2, h3⟩
  · exact absurd h1 hT
  simp only at h2 h3
  subst h2 h3
  have e1 : cel (ps.drop k) = ownT T ++ cel (ps.drop (k + 1)) := by
    rw [drop_consB hr, cel_cons]
    show (ownT T ++ rng 0 0) ++ _ = _
    rw [rng_none (Int.le_refl _), List.append_nil]
  have hu := h.up
  have he := h.eq
  rw [e1] at hu he
  exact ⟨by rw [he, own_append]; simp only [List.append_assoc], up_own_inv T hu, h.e0, h.pw, h.al, by have := h.len; omega⟩
theorem cq_copy {base : Int} {cs : List Ce} {ps acc : List El} {k : Nat} {en f t : Int} {txt : List UInt8} (h : Cq base cs ps acc k en txt) (hr : ps[k]? = some (f, t, [])) (hg : Gd1 (f, t, [])) : Cq base cs ps (acc ++ [(en, f, txt)]) (k + 1) t [] ∧ en ≤ f := by
  rcases hg with ⟨_, h2, h3⟩ | ⟨h1, _⟩
  case inr => exact absurd rfl h1
  simp only at h2 h3
  have e1 : cel (ps.drop k) = rng f t ++ cel (ps.drop (k + 1)) := by
    rw [drop_consB hr, cel_cons]; rfl
  have hu := h.up
  have he := h.eq
  rw [e1] at hu he
  obtain ⟨u1, u2, u3⟩ := up_rng_inv _ f en rfl h2 h3 hu
  have h0 := h.e0
  refine ⟨⟨?_, u3, ⟨by omega, u2⟩, gq_snoc h.pw fun e hm => (h.al e hm).2.2, ?_, by simp; have := h.len; omega⟩, u1⟩
  · rw [he, bce_snocB]
    simp [ownT]
  · intro e hm
    rcases List.mem_append.1 hm with hm | hm
    · have := h.al e hm; omega
    · simp only [List.mem_singleton] at hm
      subst hm
      exact ⟨h0.1, u1, h3⟩
/-- What comes of changes. -/
structure Cg (base : Int) (cs : List Ce) (l : List El) : Prop where
  gq : Gq base l
  eq : bce base 0 l = cs
  len : l.length ≤ 121
theorem cq_end {base : Int} {cs : List Ce} {ps acc : List El} {k : Nat} {en : Int} {txt : List UInt8} (h : Cq base cs ps acc k en txt) (ht : Tg base cs ps) (hk : ps.length = k) : Cg base cs (acc ++ [(en, base, txt)]) := by
  have he := h.eq
  have h0 := h.e0
  rw [← hk, List.drop_length, cel_nil, List.append_nil] at he
  have e1 : bce base 0 (acc ++ [(en, base, txt)]) = cs := by
    rw [bce_snocB, rng_none (Int.le_refl _), List.append_nil]; exact he.symm
  refine ⟨⟨ht.b0, gq_snoc h.pw fun e hm => (h.al e hm).2.2, ?_, by rw [e1]; exact ht.sz⟩, e1, by have := h.len; have := ht.len; simp; omega⟩
  intro e hm
  rcases List.mem_append.1 hm with hm | hm
  · have := h.al e hm; omega
  · simp only [List.mem_singleton] at hm
    subst hm
    exact ⟨h0.1, h0.2, Int.le_refl _⟩
theorem Cq.txt {base : Int} {cs : List Ce} {ps acc : List El} {k : Nat} {en : Int} {txt : List UInt8} (h : Cq base cs ps acc k en txt) (ht : Tg base cs ps) : txt.length + (cel (ps.drop k)).length ≤ 20000 := by
  have e := congrArg List.length h.eq
  have := ht.sz
  simp only [List.length_append, own_len] at e
  omega
/-- How far backwards has come. -/
structure Bq (s : List UInt8) (es acc : List El) (k : Nat) (en kp a : Int) : Prop where
  eq : invC s 0 0 (cel es) = bce kp 0 acc ++ invC s en.toNat a.toNat (cel (es.drop k))
  nm : ∃ j, Nm s.length en j (es.drop k)
  e0 : 0 ≤ en ∧ en ≤ s.length
  k0 : 0 ≤ kp ∧ kp ≤ a
  al : a + (cel (es.drop k)).length = (cel es).length
  pw : acc.Pairwise (fun a b => a.2.1 < b.1)
  ac : ∀ e ∈ acc, 0 ≤ e.1 ∧ e.1 ≤ e.2.1 ∧ e.2.1 < kp
  len : acc.length ≤ k
theorem bq_start {s : List UInt8} {es : List El} (h : isB (s.length : Nat) es = true) : Bq s es [] 0 0 0 0 := by
  have hd := dl_of h
  exact ⟨by simp [bce, rng_none], ⟨0, hd.nm⟩, ⟨Int.le_refl _, by omega⟩, ⟨Int.le_refl _, Int.le_refl _⟩, by simp, List.Pairwise.nil, fun e he => (by cases he), Nat.le_refl _⟩
theorem bq_text {s : List UInt8} {es acc : List El} {k : Nat} {en kp a f t : Int} {T : List UInt8} (h : Bq s es acc k en kp a) (hr : es[k]? = some (f, t, T)) (hT : T ≠ []) : Bq s es acc (k + 1) en kp (a + elz (f, t, T)) ∧ a + elz (f, t, T) ≤ (cel es).length := by
  obtain ⟨j, hj⟩ := h.nm
  rw [drop_consB hr, Nm, if_neg hT] at hj
  obtain ⟨rfl, rfl, h3, h4⟩ := hj
  have e1 : cel (es.drop k) = ownT T ++ cel (es.drop (k + 1)) := by
    rw [drop_consB hr, cel_cons]
    show (ownT T ++ rng 0 0) ++ _ = _
    rw [rng_none (Int.le_refl _), List.append_nil]
  have hs : elz (0, 0, T) = (T.length : Nat) := by simp [elz]
  have he := h.eq
  have ha := h.al
  have h0 := h.k0
  rw [e1] at he ha
  rw [List.length_append, own_len] at ha
  rw [invC_own] at he
  rw [hs]
  refine ⟨⟨?_, ⟨1, h4⟩, h.e0, ⟨h0.1, by omega⟩, by omega, h.pw, h.ac, by have := h.len; omega⟩, by omega⟩
  rw [he, show (a + ((T.length : Nat) : Int)).toNat = a.toNat + T.length by omega]
theorem bq_copy {s : List UInt8} {es acc : List El} {k : Nat} {en kp a f t : Int} (h : Bq s es acc k en kp a) (hr : es[k]? = some (f, t, [])) :
    Bq s es (acc ++ [(kp, a, (s.drop en.toNat).take (f.toNat - en.toNat))]) (k + 1) t (a + elz (f, t, [])) (a + elz (f, t, [])) ∧ a + elz (f, t, []) ≤ (cel es).length ∧ en ≤ f ∧ f < t ∧ t ≤ s.length := by
  obtain ⟨j, hj⟩ := h.nm
  rw [drop_consB hr, Nm, if_pos rfl] at hj
  obtain ⟨h1, h2, h3, h4, h5⟩ := hj
  have e1 : cel (es.drop k) = rng f t ++ cel (es.drop (k + 1)) := by
    rw [drop_consB hr, cel_cons]; rfl
  have hs : elz (f, t, []) = t - f := by simp [elz]
  have he := h.eq
  have ha := h.al
  have h0 := h.k0
  have hn := h.e0
  rw [e1] at he ha
  rw [List.length_append, rng_len] at ha
  rw [hs]
  obtain ⟨fN, rfl⟩ : ∃ n : Nat, f = (n : Int) := ⟨f.toNat, by omega⟩
  obtain ⟨tN, rfl⟩ : ∃ n : Nat, t = (n : Int) := ⟨t.toNat, by omega⟩
  obtain ⟨aN, rfl⟩ : ∃ n : Nat, a = (n : Int) := ⟨a.toNat, by omega⟩
  refine ⟨⟨?_, ⟨2, h5⟩, ⟨by omega, h4⟩, ⟨by omega, Int.le_refl _⟩, by omega, gq_snoc h.pw fun e hm => (h.ac e hm).2.2, ?_, by simp; have := h.len; omega⟩, by omega, h1, h3, h4⟩
  · have e2 : invC s en.toNat aN (rng fN tN ++ cel (es.drop (k + 1))) = ownT ((s.drop en.toNat).take (fN - en.toNat)) ++ invC s fN aN (rng fN tN ++ cel (es.drop (k + 1))) := by
      rw [rng_cons (by omega : (fN : Int) < tN)]
      show invC s en.toNat aN (((fN : Int), 0) :: (rng ((fN : Int) + 1) tN ++ _)) = _ ++ invC s fN aN (((fN : Int), 0) :: (rng ((fN : Int) + 1) tN ++ _))
      rw [invC, invC, if_neg (by simp only; omega), if_neg (by simp only; omega)]
      have e3 : ((fN : Int), (0 : UInt8)).1.toNat = fN := by simp
      rw [e3, Nat.sub_self, List.take_zero]
      rfl
    rw [he, bce_snocB, Int.toNat_natCast, e2, invC_rng s _ fN tN _ aN rfl (by omega), Int.toNat_natCast, show ((aN : Int) + ((tN : Int) - fN)).toNat = aN + (tN - fN) by omega, Int.toNat_natCast]
    simp only [List.append_assoc]
  · intro e hm
    rcases List.mem_append.1 hm with hm | hm
    · have := h.ac e hm; omega
    · simp only [List.mem_singleton] at hm
      subst hm
      exact ⟨h0.1, h0.2, by simp only; omega⟩
/-- What comes of backwards: of s the delta back. -/
theorem bq_end {s : List UInt8} {es acc : List El} {k : Nat} {en kp a : Int} (hi : isB (s.length : Nat) es = true) (h : Bq s es acc k en kp a) (hk : es.length = k) : Cg (cel es).length (invC s 0 0 (cel es)) (acc ++ [(kp, a, s.drop en.toNat)]) ∧ a = (cel es).length := by
  have hd := dl_of hi
  have he := h.eq
  have ha := h.al
  have h0 := h.k0
  rw [← hk, List.drop_length] at he ha
  rw [cel_nil] at he ha
  have haa : a = (cel es).length := by simp only [List.length_nil] at ha; omega
  have h1 := cel_size es 0 0 hd.nm
  have h2 := hd.sz
  rw [szE_two] at h1
  have hup := up_cel es 0 0 (Int.le_refl _) hd.nm
  have hl := (inv_own (s := s) (cel es) 0 0 hup (Nat.zero_le _)).2
  have hb1 := hd.b1
  have e1 : bce (cel es).length 0 (acc ++ [(kp, a, s.drop en.toNat)]) = invC s 0 0 (cel es) := by
    rw [bce_snocB, ← haa, rng_none (Int.le_refl _), List.append_nil, he]
    rw [invC]
  refine ⟨⟨⟨⟨by omega, by omega⟩, gq_snoc h.pw fun e hm => (h.ac e hm).2.2, ?_, by rw [e1]; omega⟩, e1, by have := h.len; have := hd.len; simp; omega⟩, haa⟩
  intro e hm
  rcases List.mem_append.1 hm with hm | hm
  · have := h.ac e hm; omega
  · simp only [List.mem_singleton] at hm
    subst hm
    exact ⟨h0.1, h0.2, by simp only; omega⟩
end Go.Proofs.YtelpinngimohoaaDoor
