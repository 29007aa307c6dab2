/- What Build answers of changes that lie apart: plain mathematics (layer 13). -/
import Derived.Test.YtelpinngimohoaaDoorComTwo
namespace Go.Proofs.YtelpinngimohoaaDoor
set_option linter.unusedSimpArgs false
set_option linter.unusedVariables false

/-- What is answered of elements: as a delta, or why not. -/
def Rs (base : Int) (E : List El) (b1 : Int) (zs : List El) (er : Int) : Prop :=
  (vldB E = true ∧ E.length ≤ 60 ∧ b1 = base ∧ zs = E ∧ er = 0) ∨ (vldB E = false ∧ b1 = 0 ∧ zs = [] ∧ er = 12) ∨ (vldB E = true ∧ 60 < E.length ∧ b1 = 0 ∧ zs = [] ∧ er = 70)
theorem rs_ex (base : Int) (E : List El) : ∃ b1 zs er, Rs base E b1 zs er := by
  cases hv : vldB E with
  | false => exact ⟨0, [], 12, Or.inr (Or.inl ⟨hv, rfl, rfl, rfl⟩)⟩
  | true =>
    by_cases hm : E.length ≤ 60
    · exact ⟨base, E, 0, Or.inl ⟨hv, hm, rfl, rfl, rfl⟩⟩
    · exact ⟨0, [], 70, Or.inr (Or.inr ⟨hv, by omega, rfl, rfl, rfl⟩)⟩
theorem Rs.len {base b1 er : Int} {E zs : List El} (h : Rs base E b1 zs er) : zs.length ≤ 60 := by
  rcases h with ⟨_, h2, _, rfl, _⟩ | ⟨_, _, rfl, _⟩ | ⟨_, _, _, rfl, _⟩
  · exact h2
  · simp
  · simp
theorem Rs.ok {base b1 er : Int} {E zs : List El} (h : Rs base E b1 zs er) : er = 0 ∨ (er = 12 ∧ zs = [] ∧ b1 = 0) ∨ (er = 70 ∧ zs = [] ∧ b1 = 0) := by
  rcases h with ⟨_, h2, _, rfl, _⟩ | ⟨_, h1, rfl, h3⟩ | ⟨_, _, h1, rfl, h3⟩
  · exact Or.inl (by assumption)
  · exact Or.inr (Or.inl ⟨h3, rfl, h1⟩)
  · exact Or.inr (Or.inr ⟨h3, rfl, h1⟩)
theorem rs_good {base : Int} {E : List El} (hv : vldB E = true) (hm : E.length ≤ 60) : Rs base E base E 0 := Or.inl ⟨hv, hm, rfl, rfl, rfl⟩
theorem vldB_append (a b : List El) : vldB (a ++ b) = (vldB a && vldB b) := by simp [vldB]
theorem vldB_cons (e : El) (b : List El) : vldB (e :: b) = (vld e.2.2 && vldB b) := by simp [vldB]
theorem vldB_tx (T : List UInt8) : vldB (tx T) = vld T := by
  unfold tx
  split
  · rename_i h; rw [h, vld_nil]; rfl
  · simp [vldB]
theorem vldB_copy (f t : Int) (b : List El) : vldB ((f, t, []) :: b) = vldB b := by rw [vldB_cons]; simp [vld_nil]
/-- Changes that lie apart tell their texts one by one. -/
theorem vldB_ap {base : Int} : ∀ (l : List El) (txt : List UInt8) (en : Int), (∀ e ∈ l, en < e.1 ∧ e.1 ≤ e.2.1) → l.Pairwise (fun a b => a.2.1 < b.1) → vldB (elG base txt en l) = (vld txt && vldB l)
  | [], txt, en, _, _ => by
    simp only [elG, vldB_append, vldB_tx]
    congr 1
    split
    · rw [vldB_copy]
    · rfl
  | (f, t, T) :: l, txt, en, ha, hp => by
    have h1 := ha (f, t, T) (by simp)
    simp only at h1
    rw [List.pairwise_cons] at hp
    have ha' : ∀ e ∈ l, t < e.1 ∧ e.1 ≤ e.2.1 := fun e he => ⟨hp.1 e he, (ha e (by simp [he])).2⟩
    simp only [elG]
    split
    · rename_i hc
      obtain ⟨rfl, rfl⟩ := hc
      rw [vldB_ap l txt en (fun e he => ha e (by simp [he])) hp.2, vldB_copy]
    · rw [if_pos h1.1, vldB_append, vldB_tx, vldB_copy, vldB_ap l T t ha' hp.2, vldB_cons]
/-- Changes that lie apart, of a base. -/
structure Gq (base : Int) (l : List El) : Prop where
  b0 : 0 ≤ base ∧ base ≤ 20000
  pw : l.Pairwise (fun a b => a.2.1 < b.1)
  al : ∀ e ∈ l, 0 ≤ e.1 ∧ e.1 ≤ e.2.1 ∧ e.2.1 ≤ base
  sz : (bce base 0 l).length ≤ 20000
theorem gq_vld {base : Int} : ∀ {l : List El}, Gq base l → vldB (elG base [] 0 l) = vldB l
  | [], h => by
    simp only [elG, vldB_append, vldB_tx, vld_nil]
    split
    · rw [vldB_copy]; rfl
    · rfl
  | (f, t, T) :: l, h => by
    have h1 := h.al (f, t, T) (by simp)
    have hp := h.pw
    simp only at h1
    rw [List.pairwise_cons] at hp
    have ha' : ∀ e ∈ l, t < e.1 ∧ e.1 ≤ e.2.1 := fun e he => ⟨hp.1 e he, (h.al e (by simp [he])).2.1⟩
    simp only [elG]
    split
    · rename_i hc
      obtain ⟨rfl, rfl⟩ := hc
      rw [vldB_ap l [] 0 (fun e he => ⟨by have := (ha' e he).1; omega, (ha' e he).2⟩) hp.2, vldB_copy, vld_nil]; rfl
    · split
      · rw [vldB_append, vldB_tx, vldB_copy, vldB_ap l T t ha' hp.2, vldB_cons, vld_nil]; rfl
      · rw [vldB_ap l ([] ++ T) t ha' hp.2, vldB_cons]; rfl
theorem pw_ordB : ∀ (l : List El), (∀ e ∈ l, e.1 ≤ e.2.1) → l.Pairwise (fun a b => a.2.1 < b.1) → ordB l = true
  | [], _, _ => rfl
  | [_], _, _ => rfl
  | a :: b :: l, ha, hp => by
    rw [List.pairwise_cons] at hp
    have h1 := hp.1 b (by simp)
    have h2 := ha a (by simp)
    show (ordE a b && ordB (b :: l)) = true
    rw [show ordE a b = true from decide_eq_true ⟨by omega, by omega⟩, pw_ordB (b :: l) (fun e he => ha e (by simp at he ⊢; exact Or.inr he)) hp.2]; rfl
theorem Gq.wt {base : Int} {l : List El} (h : Gq base l) : wthB base l = true := List.all_eq_true.2 fun e he => decide_eq_true (h.al e he)
theorem Gq.od {base : Int} {l : List El} (h : Gq base l) : ordB l = true := pw_ordB l (fun e he => (h.al e he).2.1) h.pw
theorem Gq.ch {base : Int} {l : List El} (h : Gq base l) : Chs base 0 l :=
  chs_of l 0 h.b0.1 h.wt (fun e r he => (h.al e (by rw [he]; simp)).1) h.od
theorem Gq.flt {base : Int} {l : List El} (h : Gq base l) : flt base l = if vldB l = false then 12 else 0 := by
  have e1 := bce_size l 0 h.ch
  rw [Int.sub_zero] at e1
  have e2 := h.sz
  unfold Go.Proofs.YtelpinngimohoaaDoor.flt
  rw [h.wt, h.od, decide_eq_true h.b0, if_neg (by simp), if_neg (by simp), if_neg (show ¬ 20000 < sz8 base l by omega)]
theorem Gq.elG {base : Int} {l : List El} (h : Gq base l) : elG base [] 0 l = tld (bce base 0 l) := elG_tld h.ch
/-- How long its texts are. -/
theorem inS_memB : ∀ (l : List El) (e : El), e ∈ l → e.2.2.length ≤ inS l := by
  intro l e he
  induction l with
  | nil => cases he
  | cons x l ih =>
    simp only [inS, List.map_cons, List.sum_cons] at *
    rcases List.mem_cons.1 he with rfl | he
    · omega
    · have := ih he; omega
theorem bce_inS {base : Int} : ∀ (l : List El) (a : Int), inS l ≤ (bce base a l).length
  | [], a => by simp [inS]
  | (f, t, T) :: l, a => by
    have ih := bce_inS (base := base) l t
    simp only [bce, List.length_append, own_len, inS, List.map_cons, List.sum_cons] at ih ⊢
    omega
theorem Gq.ins {base : Int} {l : List El} (h : Gq base l) : inS l ≤ 20000 := Nat.le_trans (bce_inS l 0) h.sz
theorem Gq.sm {base : Int} {l : List El} (h : Gq base l) : Sm l 20000 := fun e he => Nat.le_trans (inS_memB l e he) h.ins
/-- What Build answers of them. -/
theorem gq_rs {base b1 er : Int} {l E zs : List El} (h : Gq base l) (hE : tld (bce base 0 l) = E) (hr : Rs base E b1 zs er) :
    (er = 0 ∧ flt base l = 0 ∧ elG base [] 0 l = zs ∧ zs.length ≤ 60 ∧ b1 = base) ∨ (er = 12 ∧ flt base l = 12 ∧ b1 = 0 ∧ zs = []) ∨ (er = 70 ∧ flt base l = 0 ∧ 60 < (elG base [] 0 l).length ∧ b1 = 0 ∧ zs = []) := by
  have e1 := gq_vld h
  rw [h.elG, hE] at e1
  have e2 := h.flt
  rw [h.elG, hE]
  rcases hr with ⟨h1, h2, h3, rfl, h5⟩ | ⟨h1, h2, h3, h5⟩ | ⟨h1, h2, h3, h4, h5⟩
  · rw [← e1, h1] at e2
    exact Or.inl ⟨h5, e2, rfl, h2, h3⟩
  · rw [← e1, h1] at e2
    exact Or.inr (Or.inl ⟨h5, e2, h2, h3⟩)
  · rw [← e1, h1] at e2
    exact Or.inr (Or.inr ⟨h5, e2, h2, h3, h4⟩)
/-- One change more, at the end. -/
theorem bce_snocB (b t : Int) (f : Int) (T : List UInt8) : ∀ (l : List El) (a : Int), bce b a (l ++ [(f, t, T)]) = bce f a l ++ ownT T ++ rng t b
  | [], a => by simp [bce]
  | (x, y, U) :: l, a => by simp only [List.cons_append, bce, bce_snocB b t f T l y, List.append_assoc]
theorem gq_snoc {acc : List El} {f t : Int} {T : List UInt8} (hp : acc.Pairwise (fun a b => a.2.1 < b.1)) (ha : ∀ e ∈ acc, e.2.1 < f) : (acc ++ [(f, t, T)]).Pairwise (fun a b => a.2.1 < b.1) := by
  rw [List.pairwise_append]
  refine ⟨hp, List.pairwise_singleton _ _, fun a h b hb => ?_⟩
  simp only [List.mem_singleton] at hb
  subst hb
  exact ha a h
theorem up_own_inv {base : Int} : ∀ (T : List UInt8) {a : Int} {cs : List Ce}, Up base a (ownT T ++ cs) → Up base a cs
  | [], a, cs, h => h
  | b :: T, a, cs, h => by
    have h' : Up base a ((-1, b) :: (ownT T ++ cs)) := h
    rw [Up, if_pos (by simp only; omega)] at h'
    exact up_own_inv T h'.2
theorem up_rng_inv {base : Int} {cs : List Ce} {t : Int} : ∀ (n : Nat) (f a : Int), (t - f).toNat = n → 0 ≤ f → f < t → Up base a (rng f t ++ cs) → a ≤ f ∧ t ≤ base ∧ Up base t cs
  | 0, f, a, hn, _, h1, _ => by omega
  | n + 1, f, a, hn, h0, h1, hu => by
    rw [rng_cons h1] at hu
    have h' : Up base a ((f, 0) :: (rng (f + 1) t ++ cs)) := hu
    rw [Up, if_neg (by simp only; omega)] at h'
    obtain ⟨u1, u2, _, u4⟩ := h'
    simp only at u1 u2 u4
    by_cases e : f + 1 = t
    · subst e
      rw [rng_none (Int.le_refl _)] at u4
      exact ⟨u1, by omega, u4⟩
    · have ih := up_rng_inv n (f + 1) (f + 1) (by omega) (by omega) (by omega) u4
      exact ⟨u1, ih.2.1, ih.2.2⟩
end Go.Proofs.YtelpinngimohoaaDoor
