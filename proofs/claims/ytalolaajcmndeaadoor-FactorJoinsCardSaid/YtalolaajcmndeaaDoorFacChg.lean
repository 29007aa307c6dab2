/- factor's inserts. What factor's changes goes through: plain mathematics. factor's changes. -/
import Derived.Test.YtalolaajcmndeaaDoorFacIns
namespace Go.Proofs.YtalolaajcmndeaaDoor
open Go.RowKit Go.Sort
set_option linter.unusedSimpArgs false
set_option linter.unusedVariables false

structure Ix12 (es : List El) (W wr : World) (k : Nat) (lv : Value) (en : Int) (A : List El) : Prop where
  own : OwnC wr W.heap.size lv A
  eq : insX 0 es = A ++ insX en (es.drop k)
  len : A.length ≤ k
  be : Below W.heap.size W wr
set_option maxHeartbeats 4000000 in
set_option maxRecDepth 100000 in
theorem inserts_any {w : World} {v : Value} {es : List El} (hl : es.length ≤ 1000) (h : ElAt w v es) :
    Calls Tryd.prog 39 #[v] w fun e w' => ∃ v', e = .returned v' ∧ ElAt w' v' (insX 0 es) ∧ Below w.heap.size w w' := by
  obtain ⟨i0, hi, hz0, hz1, hz2⟩ := info_parts Tryd.info_ch
  have HI := Hid.mk7 hi
  obtain ⟨a, cap, rfl, hcap, _, hcells⟩ := h
  have HC := Hid.mk7 hcells
  clear hcells hi
  go_enter Tryd.func39, Tryd.ntmps39
  go_wp2
  go_loopw [3, 4, 9] (fun lv nv iv wr => ∃ (k : Nat) (en : Int) (A : List El), k ≤ es.length ∧ iv = .int .i64 (k : Nat) ∧ nv = .int .i64 en ∧ Hid (Ix12 es w wr k lv en A)) (fun _ _ iv _ => es.length - (intOf iv).toNat)
  case atStart => exact ⟨0, 0, [], Nat.zero_le _, rfl, rfl, ⟨OwnC.nil _ _, rfl, Nat.le_refl _, Below.refl _ _⟩⟩
  case round =>
    obtain ⟨k, en, A, hk, rfl, rfl, HE⟩ := hrel
    have hb := HE.out.be
    have hsz := hb.size
    have hA := HE.out.len
    by_cases hlt : k < es.length
    · obtain ⟨⟨f, t, T⟩, hr⟩ : ∃ r, es[k]? = some r := ⟨es[k], List.getElem?_eq_getElem hlt⟩
      obtain ⟨g, off, rfl, q0, q1, q2⟩ := HC.out k _ hr
      have c0 := cell_later7 hb (Nat.le_refl _) q0
      have c1 := cell_later7 hb (Nat.le_refl _) q1
      have c2 := cell_later7 hb (Nat.le_refl _) q2
      simp only at c0 c1 c2
      have RC := Hid.mk7 (Re.new wr (.int .i64 f) (.int .i64 t) (.string (cacc T)))
      have HO := Hid.mk7 (HE.out.own.alloc (.cells #[.int .i64 f, .int .i64 t, .string (cacc T)] 70))
      have HBX := Hid.mk7 (hb.alloc hsz (.cells #[.int .i64 f, .int .i64 t, .string (cacc T)] 70))
      have hcs : (cacc T).size = T.length := cacc_size T
      have HR := Hid.mk7 hr
      clear q0 q1 q2 hr
      by_cases hT0 : T = []
      · subst hT0
        have HQ := Hid.mk7 (insX_copy (en := en) HR.out)
        have hss : decide ((cacc []).size ≠ 0) = false := by rw [hcs]; rfl
        have HIT := Hid.mk7 (isText_any f t (cacc []))
        rw [hss] at HIT
        clear hss hcs HR
        generalize cacc ([] : List UInt8) = s at *
        go_upto_region 6 with fail
        generalize hz : wr.heap.size = z at *
        generalize wr.alloc (.cells #[.int .i64 f, .int .i64 t, .string s] 70) = W at *
        have d0 := RC.out.c0
        have d1 := RC.out.c1
        have d2 := RC.out.c2
        clear c0 c1 c2
        go_wp2_with fail
        refine (HIT.out W).mono ?_
        rintro e w2 ⟨rfl, b2⟩
        have R2 := Hid.mk7 (RC.out.later b2)
        have HE2 : Hid (Ix12 es w w2 (k + 1) u3 t A) := by
          refine ⟨HO.out.later b2, ?_, by omega, HBX.out.trans (b2.mono HBX.out.size)⟩
          rw [HE.out.eq, HQ.out]
        clear d0 d1 d2 RC HO HBX b2 HIT HE HQ
        have d1 := R2.out.c1
        go_wp2
        go_roundw
        case rel => exact ⟨k + 1, t, _, by omega, by go_num, rfl, HE2⟩
        case measure => simp [intOf]; omega
      · have HQ := Hid.mk7 (insX_text (en := en) HR.out hT0)
        have hss : decide ((cacc T).size ≠ 0) = true := by rw [hcs]; simp; exact hT0
        have HIT := Hid.mk7 (isText_any f t (cacc T))
        have HCS := Hid.mk7 (rfl : cacc T = cacc T)
        rw [hss] at HIT
        clear hss hcs HR hT0
        generalize hs : cacc T = s at *
        have HS := Hid.mk7 hs
        clear hs
        go_upto_region 6 with fail
        generalize hz : wr.heap.size = z at *
        generalize wr.alloc (.cells #[.int .i64 f, .int .i64 t, .string s] 70) = W at *
        have d0 := RC.out.c0
        have d1 := RC.out.c1
        have d2 := RC.out.c2
        clear c0 c1 c2
        go_wp2_with fail
        refine (HIT.out W).mono ?_
        rintro e w2 ⟨rfl, b2⟩
        have R2 := Hid.mk7 (RC.out.later b2)
        have O2 := Hid.mk7 (HO.out.later b2)
        have B2 := Hid.mk7 (HBX.out.trans (b2.mono HBX.out.size))
        clear d0 d1 d2 RC HO HBX b2 HIT
        have d2 := R2.out.c2
        have hzl := R2.out.lt
        go_wp2_with (at_builtin; refine wpList_append_own _ rfl _ _ 54 rfl w.heap.size 56 i0 (.agg #[.int .i64 0, .int .i64 0, .string ⟨#[]⟩]) 3 32 Tryd.underlying54 HI.out hz0 hz1 hz2 rfl (by decide) _ _ _ rfl (O2.out.alloc _) ⟨_, 0, none⟩ 1 1 [.int .i64 en, .int .i64 en, .string s] rfl rfl (three_newE _ _ _ _ _) (fun u hu => by simp at hu; rcases hu with rfl | rfl | rfl <;> rfl) (by unfold maxLen; omega) (by omega) (by simp; omega) ?_)
        intro v' w3 hown' hgrow _
        have HE3 : Hid (Ix12 es w w3 (k + 1) v' en (A ++ [(en, en, T)])) := by
          refine ⟨?_, ?_, by simp; omega, (B2.out.alloc B2.out.size _).grown hgrow ?_ ?_⟩
          · unfold OwnC
            rw [List.length_append, c3_append, c3_one, HS.out]
            exact hown'
          · rw [HE.out.eq, HQ.out]; simp
          · have := B2.out.size; simp; omega
          · exact fun j hj => (O2.out.lt hj).1
        clear d2 hown' hgrow O2 B2 R2 HE HQ
        go_wp2
        go_roundw
        case rel => exact ⟨k + 1, en, _, by omega, by go_num, rfl, HE3⟩
        case measure => simp [intOf]; omega
    · obtain rfl : k = es.length := by omega
      have HQ : Hid (insX 0 es = A) := by
        show _ = _
        rw [HE.out.eq, List.drop_length]; simp [insX]
      go_wp2
      go_ret
      exact ⟨_, rfl, by rw [HQ.out]; exact HE.out.own.row, hb⟩
end Go.Proofs.YtalolaajcmndeaaDoor
namespace Go.Proofs.YtalolaajcmndeaaDoor
set_option linter.unusedSimpArgs false
set_option linter.unusedVariables false

/-- How far both halves are gone through: what is made, what is left. -/
structure Cp (base : Int) (L : List Int) (es xs : List El) (ys : List Sg) (acc : List El) (a : Int) (k : Nat) (txt : List UInt8) : Prop where
  eq : fil L (cel es) = bce a 0 acc ++ (ownT txt ++ fil L (cel xs))
  ky : Ky base a k xs
  tk : txt ≠ [] → k = 1
  ry : xp ys = L.drop a.toNat
  py : ∀ r ∈ ys, 1 ≤ r.1
  a0 : 0 ≤ a
  ord : ordB acc = true
  all : ∀ e ∈ acc, 0 ≤ e.1 ∧ e.1 ≤ e.2.1 ∧ e.2.1 ≤ a ∧ e.1 < a ∧ vld e.2.2 = true
  vt : vld txt = true
  vx : ∀ e ∈ xs, vld e.2.2 = true
  ins : inS acc + txt.length + inS xs = inS es
  cnt : acc.length + xs.length + ys.length ≤ es.length + (rle L).length
theorem ordB_snoc : ∀ (l : List El) (c : El), ordB l = true → (∀ e ∈ l, e.2.1 ≤ c.1 ∧ e.1 < c.1) → ordB (l ++ [c]) = true
  | [], c, _, _ => rfl
  | [a], c, _, h => by
    have := h a (by simp)
    show (ordE a c && ordB [c]) = true
    rw [show ordE a c = true from decide_eq_true ⟨this.1, by omega⟩]; rfl
  | a :: b :: l, c, ho, h => by
    have ho' : (ordE a b && ordB (b :: l)) = true := ho
    rw [Bool.and_eq_true] at ho'
    have ih := ordB_snoc (b :: l) c ho'.2 fun e he => h e (List.mem_cons_of_mem _ he)
    show (ordE a b && ordB (b :: (l ++ [c]))) = true
    rw [ho'.1]
    exact ih
theorem cp_start {base : Int} {L : List Int} {es : List El} (hk : Ky base 0 0 es) (hv : ∀ e ∈ es, vld e.2.2 = true) : Cp base L es es (rle L) [] 0 0 [] := by
  refine ⟨?_, hk, fun h => absurd rfl h, by rw [xp_rle]; rfl, fun r hr => rle_pos hr, Int.le_refl _, rfl, fun e he => (by cases he), vld_nil, hv, by simp [inS], by simp⟩
  simp [bce, rng_none, ownT]
theorem cp_text {base : Int} {L : List Int} {es xs : List El} {ys : List Sg} {acc : List El} {a : Int} {k : Nat} {txt : List UInt8} {f t : Int} {T : List UInt8}
    (h : Cp base L es ((f, t, T) :: xs) ys acc a k txt) (hT : T ≠ []) : Cp base L es xs ys acc a 1 T := by
  have hk := h.ky
  rw [Ky, if_neg hT] at hk
  obtain ⟨rfl, rfl, h3, h4⟩ := hk
  have ht : txt = [] := Classical.byContradiction fun e => h3 (h.tk e)
  subst ht
  refine ⟨?_, h4, fun _ => rfl, h.ry, h.py, h.a0, h.ord, h.all, h.vx (0, 0, T) (by simp), fun e he => h.vx e (by simp [he]), ?_, ?_⟩
  · rw [h.eq, cel_cons, show ce1 (0, 0, T) = ownT T ++ rng 0 0 from rfl, rng_none (Int.le_refl _), List.append_nil, fil_append, fil_own]
    simp [ownT]
  · have := h.ins
    simp only [inS, List.map_cons, List.sum_cons, List.length_nil] at this ⊢
    omega
  · have := h.cnt
    simp only [List.length_cons] at this
    omega
theorem inS_snoc (l : List El) (f t : Int) (T : List UInt8) : inS (l ++ [(f, t, T)]) = inS l + T.length := by simp [inS]
theorem cp_copy {base : Int} {L : List Int} {es xs : List El} {ys : List Sg} {acc : List El} {a : Int} {k : Nat} {txt : List UInt8} {f t m c : Int}
    (h : Cp base L es ((f, t, []) :: xs) ((m, c) :: ys) acc a k txt) {n tu : Int} (hn1 : 1 ≤ n) (hn2 : f + n ≤ t) (hn3 : n ≤ m) (hn4 : f + n = t ∨ m = n)
    (hto : (0 < c ∧ tu = a + n) ∨ (c = 0 ∧ tu = a)) : Cp base L es (lessE f t n xs) (less m c n ys) (acc ++ [(a, tu, txt)]) (a + n) 2 [] := by
  have hk := h.ky
  rw [Ky, if_pos rfl] at hk
  obtain ⟨rfl, h2, h3⟩ := hk
  have ha := h.a0
  have ht1 : f ≤ tu := by rcases hto with ⟨_, e⟩ | ⟨_, e⟩ <;> omega
  have ht2 : tu ≤ f + n := by rcases hto with ⟨_, e⟩ | ⟨_, e⟩ <;> omega
  have hxs : cel (lessE f t n xs) = rng (f + n) t ++ cel xs := by
    unfold lessE
    split
    · rename_i e; rw [e, rng_none (Int.le_refl _)]; rfl
    · rfl
  have hf : fil L (rng f (f + n)) = rng tu (f + n) := by
    have hg : ∀ i : Nat, f ≤ i → (i : Int) < f + n → L.getD i 0 = c := fun i i1 i2 => get_run (a := f.toNat) h.ry (by omega) (by omega)
    rcases hto with ⟨hc, rfl⟩ | ⟨rfl, rfl⟩
    · rw [rng_none (Int.le_refl (f + n)), fil_gone ha (fun i i1 i2 => by rw [hg i i1 i2]; omega)]
    · exact fil_zero ha fun i i1 i2 => hg i i1 i2
  refine ⟨?_, ?_, fun e => absurd rfl e, ?_, less_pos hn3 h.py, by omega, ?_, ?_, vld_nil, ?_, ?_, ?_⟩
  · rw [h.eq, bce_snoc, cel_cons, show ce1 (f, t, []) = rng f t from rfl, rng_split (m := f + n) (by omega) hn2, hxs, fil_append, fil_append, fil_append, hf]
    simp [ownT]
  · unfold lessE
    split
    · rename_i e; rw [e]; exact h3
    · rename_i e; rw [Ky, if_pos rfl]; exact ⟨rfl, by omega, h3⟩
  · have h1 := h.ry
    rw [xp_part (by omega : 0 ≤ n) hn3] at h1
    have h5 : (List.replicate n.toNat c ++ xp (less m c n ys)).drop n.toNat = (L.drop f.toNat).drop n.toNat := by rw [h1]
    rw [List.drop_left' (by simp)] at h5
    rw [h5, List.drop_drop]
    congr 1
    omega
  · exact ordB_snoc _ _ h.ord fun e he => by have := h.all e he; simp only; omega
  · intro e he
    rcases List.mem_append.1 he with he | he
    · have := h.all e he
      exact ⟨this.1, this.2.1, by omega, by omega, this.2.2.2.2⟩
    · simp only [List.mem_singleton] at he
      subst he
      exact ⟨ha, ht1, ht2, by simp only; omega, h.vt⟩
  · intro e he
    unfold lessE at he
    split at he
    · exact h.vx e (by simp [he])
    · rcases List.mem_cons.1 he with rfl | he
      · exact vld_nil
      · exact h.vx e (by simp [he])
  · have h1 := h.ins
    have h2 : inS (lessE f t n xs) = inS xs := by
      unfold lessE
      split <;> simp [inS]
    rw [inS_snoc, h2]
    simp only [inS, List.map_cons, List.sum_cons, List.length_nil] at h1 ⊢
    omega
  · have h1 := h.cnt
    have h4 := less_len m c n ys
    have h5 : (lessE f t n xs).length ≤ xs.length + 1 ∧ (f + n = t → (lessE f t n xs).length = xs.length) := by
      unfold lessE
      split
      · exact ⟨by omega, fun _ => rfl⟩
      · exact ⟨by simp, fun h => absurd h (by assumption)⟩
    simp only [List.length_cons, List.length_append, List.length_nil] at h1 ⊢
    rcases hn4 with e | e
    · have := h5.2 e; omega
    · have := h4.2 e; omega
theorem lessE_len (f t n : Int) (xs : List El) : (lessE f t n xs).length ≤ xs.length + 1 ∧ (f + n = t → (lessE f t n xs).length = xs.length) := by
  unfold lessE
  split
  · exact ⟨by omega, fun _ => rfl⟩
  · exact ⟨by simp, fun h => absurd h (by assumption)⟩
/-- What comes of both halves: changes of the base. -/
structure Chd (base : Int) (L : List Int) (es l : List El) : Prop where
  fl : flt base l = 0
  ce : bce base 0 l = fil L (cel es)
  ins : inS l = inS es
  cnt : l.length ≤ es.length + (rle L).length + 1
theorem cp_end {base : Int} {L : List Int} {es : List El} {ys : List Sg} {acc : List El} {a : Int} {k : Nat} {txt : List UInt8} (hi : isB base es = true)
    (h : Cp base L es [] ys acc a k txt) : Chd base L es (acc ++ [(a, a, txt)]) := by
  have hk : a = base := h.ky
  subst hk
  obtain ⟨h1, h2, h3, h4⟩ := isB_spec.1 hi
  have hce : bce a 0 (acc ++ [(a, a, txt)]) = fil L (cel es) := by
    rw [bce_snoc, h.eq, rng_none (Int.le_refl _)]
    simp [cel, fil]
  have hin : inS (acc ++ [(a, a, txt)]) = inS es := by
    have := h.ins
    rw [inS_snoc]
    simp only [inS, List.map_nil, List.sum_nil] at this ⊢
    omega
  have hwt : wthB a (acc ++ [(a, a, txt)]) = true := by
    refine List.all_eq_true.2 fun e he => ?_
    rcases List.mem_append.1 he with he | he
    · have := h.all e he
      exact decide_eq_true ⟨this.1, this.2.1, by omega⟩
    · simp only [List.mem_singleton] at he
      subst he
      exact decide_eq_true ⟨h.a0, Int.le_refl _, Int.le_refl _⟩
  have hod : ordB (acc ++ [(a, a, txt)]) = true := ordB_snoc _ _ h.ord fun e he => by have := h.all e he; simp only; omega
  have hvl : vldB (acc ++ [(a, a, txt)]) = true := by
    refine List.all_eq_true.2 fun e he => ?_
    rcases List.mem_append.1 he with he | he
    · exact (h.all e he).2.2.2.2
    · simp only [List.mem_singleton] at he
      subst he
      exact h.vt
  have hch : Chs a 0 (acc ++ [(a, a, txt)]) := chs_of _ 0 h.a0 hwt (fun e r he => by
    have := List.all_eq_true.1 hwt e (by rw [he]; simp)
    exact (of_decide_eq_true this).1) hod
  refine ⟨?_, hce, hin, ?_⟩
  · unfold flt
    rw [hwt, hod, hvl, decide_eq_true ⟨h1.1, h1.2.1⟩]
    have e1 := bce_size _ 0 hch
    rw [hce, Int.sub_zero] at e1
    have e2 := cel_size es 0 0 h2
    have e3 : (fil L (cel es)).length ≤ (cel es).length := List.length_filter_le _ _
    simp
    omega
  · have := h.cnt
    simp only [List.length_append, List.length_cons, List.length_nil] at this ⊢
    omega
end Go.Proofs.YtalolaajcmndeaaDoor
namespace Go.Proofs.YtalolaajcmndeaaDoor
open Go.RowKit Go.Sort
set_option linter.unusedSimpArgs false
set_option linter.unusedVariables false

/-- What is left of a row of elements, or nothing. -/
def Xl (w : World) (B g : Nat) (v : Value) (xs : List El) : Prop := (xs ≠ [] → Xk w B g v xs) ∧ (xs = [] → ∃ a cap, v = .slice a 0 cap)
theorem Xl.kept {w w' : World} {B g : Nat} {v : Value} {xs : List El} (h : Xl w B g v xs) {row : Option Nat} (hg : w.grownBy w' row) (hne : some g ≠ row) : Xl w' B g v xs :=
  ⟨fun e => (h.1 e).kept hg hne, h.2⟩
theorem xl_of {w : World} {B g : Nat} {v : Value} {xs : List El} (h : Xk w B g v xs) : Xl w B g v xs :=
  ⟨fun _ => h, fun e => by obtain ⟨a, cap, e2⟩ := h.shape; subst e; exact ⟨a, cap, e2⟩⟩
/-- Rows that are gone through, and one that grows. -/
structure Cm (w : World) (B1 B2 B3 gx gy : Nat) (wr : World) (lv xv yv : Value) (xs : List El) (ys : List Sg) (acc : List El) : Prop where
  tx : Xl wr B1 gx xv xs
  ty : Tl wr B2 gy yv ys
  own : OwnC wr B3 lv acc
  be : Below w.heap.size w wr
  sz : B3 ≤ wr.heap.size
theorem Cm.grown {w : World} {B1 B2 B3 gx gy : Nat} {wr w' : World} {lv xv yv : Value} {xs : List El} {ys : List Sg} {acc : List El} (h : Cm w B1 B2 B3 gx gy wr lv xv yv xs ys acc) (hg : Below wr.heap.size wr w') : Cm w B1 B2 B3 gx gy w' lv xv yv xs ys acc :=
  ⟨h.tx.kept (grown_below hg none) (by simp), h.ty.kept (grown_below hg none) (by simp), h.own.later hg, h.be.trans (hg.mono h.be.size), Nat.le_trans h.sz hg.size⟩
theorem cm_tx {w : World} {B1 B2 B3 gx gy : Nat} {wr : World} {lv xv yv : Value} {xs : List El} {ys : List Sg} {acc : List El} {f t : Int} (h : Cm w B1 B2 B3 gx gy wr lv xv yv ((f, t, []) :: xs) ys acc) (hw : w.heap.size ≤ B1) (hx : gx < B3) (hxy : gx ≠ gy) (n : Int) (h0 : 0 ≤ f) (hn : 1 ≤ n) (hn2 : f + n ≤ t) (hm : t ≤ 20000) (hl : xs.length ≤ 20000) :
    Calls Tryd.prog 65 #[xv, .int .i64 n] wr fun e w' => ∃ xv', e = .returned xv' ∧ slen xv' = (lessE f t n xs).length ∧ Cm w B1 B2 B3 gx gy w' lv xv' yv (lessE f t n xs) ys acc := by
  have tk := h.tx.1 (by simp)
  refine (ebehind_any f t n tk h0 hn hn2 (by omega) (by omega)).mono ?_
  rintro e w' ⟨xv', rfl, t', g'⟩
  obtain ⟨a, cap, e⟩ := t'.shape
  refine ⟨xv', rfl, by rw [e]; rfl, xl_of t', h.ty.kept g' ?_, h.own.kept g' ?_, h.be.grown g' h.be.size ?_, Nat.le_trans h.sz g'.size⟩
  · intro e; simp at e; exact hxy e.symm
  · by_cases hv : lv.ownBlock = none
    · exact Or.inl hv
    · refine Or.inr fun e => ?_
      have := (h.own.lt e).1
      omega
  · intro j hj; cases hj; have := tk.lt.1; omega
theorem cm_ty {w : World} {B1 B2 B3 gx gy : Nat} {wr : World} {lv xv yv : Value} {xs : List El} {ys : List Sg} {acc : List El} {m c : Int} (h : Cm w B1 B2 B3 gx gy wr lv xv yv xs ((m, c) :: ys) acc) (hw : w.heap.size ≤ B2) (hx : gy < B3) (hxy : gx ≠ gy) (n : Int) (hn : 1 ≤ n) (hn2 : n ≤ m) (hm : m ≤ 20000) (hl : ys.length ≤ 20000) :
    Calls Tryd.prog 66 #[yv, .int .i64 n] wr fun e w' => ∃ yv', e = .returned yv' ∧ slen yv' = (less m c n ys).length ∧ Cm w B1 B2 B3 gx gy w' lv xv yv' xs (less m c n ys) acc := by
  have tk := h.ty.1 (by simp)
  refine (rbehind_any m c n tk hn hn2 (by omega) (by omega)).mono ?_
  rintro e w' ⟨yv', rfl, t', g'⟩
  obtain ⟨a, cap, e⟩ := t'.shape
  refine ⟨yv', rfl, by rw [e]; rfl, h.tx.kept g' ?_, tl_less t', h.own.kept g' ?_, h.be.grown g' h.be.size ?_, Nat.le_trans h.sz g'.size⟩
  · intro e; simp at e; exact hxy e
  · by_cases hv : lv.ownBlock = none
    · exact Or.inl hv
    · refine Or.inr fun e => ?_
      have := (h.own.lt e).1
      omega
  · intro j hj; cases hj; have := tk.lt.1; omega
theorem cm_push {w : World} {B1 B2 B3 gx gy : Nat} {wr : World} {lv xv yv : Value} {xs : List El} {ys : List Sg} {acc : List El} (h : Cm w B1 B2 B3 gx gy wr lv xv yv xs ys acc) (hw : w.heap.size ≤ B3) (hx : gx < B3) (hy : gy < B3) {o : Obj} {v' : Value} {w' : World} (f t : Int) (T : List UInt8)
    (ho : w'.ownsRow B3 56 3 v' (acc.length + 1) (c3 acc ++ [.int .i64 f, .int .i64 t, .string (cacc T)])) (hg : (wr.alloc o).grownBy w' lv.ownBlock) : Cm w B1 B2 B3 gx gy w' v' xv yv xs ys (acc ++ [(f, t, T)]) := by
  have hg2 : wr.grownBy w' lv.ownBlock := grown_trans (World.grownBy_alloc _ _ _) hg
  refine ⟨h.tx.kept hg2 ?_, h.ty.kept hg2 ?_, ?_, h.be.grown hg2 h.be.size ?_, Nat.le_trans h.sz hg2.size⟩
  · intro e; have := (h.own.lt e.symm).1; omega
  · intro e; have := (h.own.lt e.symm).1; omega
  · unfold OwnC
    rw [List.length_append, c3_append, c3_one]
    exact ho
  · intro j hj; have := (h.own.lt hj).1; omega
theorem ky_bd {base : Int} : ∀ (es : List El) (a : Int) (k : Nat), Ky base a k es → ∀ e ∈ es, e.2.1 ≤ max base 0
  | [], _, _, _, e, he => by cases he
  | (f, t, T) :: es, a, k, h, e, he => by
    unfold Ky at h
    split at h
    · rcases List.mem_cons.1 he with rfl | he
      · have := ky_le es t 2 h.2.2; simp only; omega
      · exact ky_bd es t 2 h.2.2 e he
    · rcases List.mem_cons.1 he with rfl | he
      · simp only; omega
      · exact ky_bd es a 1 h.2.2.2 e he
theorem inS_mem : ∀ (l : List El) (e : El), e ∈ l → e.2.2.length ≤ inS l := by
  intro l e he
  induction l with
  | nil => cases he
  | cons x l ih =>
    simp only [inS, List.map_cons, List.sum_cons] at *
    rcases List.mem_cons.1 he with rfl | he
    · omega
    · have := ih he; omega
set_option maxHeartbeats 8000000 in
set_option maxRecDepth 100000 in
theorem changes_any {w W : World} {ev rv : Value} {base : Int} {es : List El} {L : List Int} (B1 B2 gx gy : Nat) (hi : isB base es = true) (hcp : cpS es = base) (hL : Ok8 L) (hlen : (L.length : Int) = base) (hrl : (rle L).length ≤ 600)
    (hx : Xl W B1 gx ev es) (hy : Tl W B2 gy rv (rle L)) (hb1 : w.heap.size ≤ B1) (hb2 : w.heap.size ≤ B2) (hgx : gx < W.heap.size) (hgy : gy < W.heap.size) (hne : gx ≠ gy) (hbe : Below w.heap.size w W) :
    Calls Tryd.prog 47 #[ev, rv] W fun e w' => ∃ v' l, e = .returned v' ∧ ElAt w' v' l ∧ Chd base L es l ∧ Below w.heap.size w w' := by
  have hd := dl_of hi
  obtain ⟨i0, hi0, hz0, hz1, hz2⟩ := info_parts Tryd.info_ch
  have HI := Hid.mk7 hi0
  have HCP := Hid.mk7 (cp_start (L := L) (ky_isB hi hcp) hd.vl)
  have HX := Hid.mk7 hx
  have HY := Hid.mk7 hy
  have HIS := Hid.mk7 hi
  have HOL := Hid.mk7 hL
  have HLE := Hid.mk7 hlen
  have hel := hd.len
  have hbe2 := hbe.size
  have hb00 := hd.b0
  have hb01 := hd.b1
  clear hx hy hd hi0 hi hL hlen hcp
  go_enter Tryd.func47, Tryd.ntmps47
  go_wp2
  go_loopw [0, 1, 5, 6, 7] (fun xv yv lv nv sv wr => ∃ xs ys acc a k txt, nv = .int .i64 a ∧ sv = .string (cacc txt) ∧ Hid (Cp base L es xs ys acc a k txt) ∧ Hid (Cm w B1 B2 W.heap.size gx gy wr lv xv yv xs ys acc)) (fun xv yv _ _ _ _ => slen xv + slen yv)
  case atStart => exact ⟨es, rle L, [], 0, 0, [], rfl, rfl, HCP, ⟨HX.out, HY.out, OwnC.nil _ _, hbe, Nat.le_refl _⟩⟩
  case round =>
    clear HCP HX HY hbe
    obtain ⟨xs, ys, acc, a, k, txt, rfl, rfl, HP, HT⟩ := hrel
    have hcnt := HP.out.cnt
    have ha0 := HP.out.a0
    have hky := HP.out.ky
    have hale := ky_le _ _ _ hky
    by_cases hx : xs = []
    · subst hx
      obtain ⟨ax, cx, rfl⟩ := HT.out.tx.2 rfl
      have HE := Hid.mk7 (cp_end HIS.out HP.out)
      have O2 := Hid.mk7 HT.out.own
      have B2' := Hid.mk7 HT.out.be
      have hs3 := HT.out.sz
      have hal : acc.length ≤ 2000 := by simp only [List.length_nil] at hcnt; omega
      have hl1 : (cacc txt).size = (cacc txt).size := rfl
      clear HT HP hky hcnt
      generalize hs : cacc txt = s at *
      have HS := Hid.mk7 hs
      clear hs
      go_wp2_with (at_builtin; refine wpList_append_own _ rfl _ _ 54 rfl W.heap.size 56 i0 (.agg #[.int .i64 0, .int .i64 0, .string ⟨#[]⟩]) 3 32 Tryd.underlying54 HI.out hz0 hz1 hz2 rfl (by decide) _ _ _ rfl (O2.out.alloc _) ⟨_, 0, none⟩ 1 1 [.int .i64 a, .int .i64 a, .string s] rfl rfl (three_newE _ _ _ _ _) (fun u hu => by simp at hu; rcases hu with rfl | rfl | rfl <;> rfl) (by unfold maxLen; omega) (by omega) (by simp; omega) ?_)
      intro v' w3 hown' hgrow _
      have H3 : Hid (ElAt w3 v' (acc ++ [(a, a, txt)]) ∧ Below w.heap.size w w3) := by
        refine ⟨?_, (B2'.out.alloc B2'.out.size _).grown hgrow ?_ ?_⟩
        · have : OwnC w3 W.heap.size v' (acc ++ [(a, a, txt)]) := by
            unfold OwnC
            rw [List.length_append, c3_append, c3_one, HS.out]
            exact hown'
          exact this.row
        · have := B2'.out.size; simp; omega
        · exact fun j hj => by have := (O2.out.lt hj).1; have := hbe2; omega
      clear hown' hgrow O2 B2'
      go_wp2
      go_ret
      exact ⟨v', _, rfl, H3.out.1, HE.out, H3.out.2⟩
    · obtain ⟨f, t, T, xs, rfl⟩ : ∃ f t T qs, xs = (f, t, T) :: qs := by cases xs with | nil => exact absurd rfl hx | cons r qs => exact ⟨r.1, r.2.1, r.2.2, qs, rfl⟩
      have tkx := HT.out.tx.1 (by simp)
      obtain ⟨ax, capx, rfl⟩ := tkx.shape
      obtain ⟨offx, rfl, _, hcx, hcx2, x0, x1, x2⟩ := tkx.cells
      simp only [List.length_cons] at hcnt hcx2 x0 x1 x2 ⊢
      have hgw := tkx.lt
      have hcs : (cacc T).size = T.length := cacc_size T
      clear hx
      by_cases hT0 : T = []
      · subst hT0
        have hky2 := hky
        rw [Ky, if_pos rfl] at hky2
        obtain ⟨rfl, hft, hk2⟩ := hky2
        have htb := ky_le _ _ _ hk2
        obtain ⟨m, c, ys, rfl⟩ : ∃ m c qs, ys = (m, c) :: qs := by
          refine xp_cons_of fun e => ?_
          have h1 := HP.out.ry
          rw [e] at h1
          have h2 := congrArg List.length h1
          have h3 := HLE.out
          simp at h2
          omega
        have hm1 : 1 ≤ m := HP.out.py (m, c) (by simp)
        obtain ⟨ic, lc⟩ := xp_head_in (rs := ys) (c := c) hm1
        have hm2 : m ≤ 20000 := by
          have h2 := congrArg List.length HP.out.ry
          have h3 := HOL.out.1
          simp only [List.length_drop] at h2
          omega
        have hc0 : 0 ≤ c := by
          rw [HP.out.ry] at ic
          exact (HOL.out.2 c (List.mem_of_mem_drop ic)).1
        have tky := HT.out.ty.1 (by simp)
        obtain ⟨ay, capy, rfl⟩ := tky.shape
        obtain ⟨offy, rfl, _, y0, y1⟩ := tky.cells
        have hgyw := tky.lt
        simp only [List.length_cons] at hcnt y0 y1 ⊢
        have hss : decide ((cacc []).size ≠ 0) = false := by rw [hcs]; rfl
        have HIT := Hid.mk7 (isText_any f t (cacc []))
        rw [hss] at HIT
        have HTM := Hid.mk7 HT.out
        clear tkx tky ic lc hss hcs HT
        generalize hs0 : cacc ([] : List UInt8) = s0 at *
        have HS0 := Hid.mk7 hs0
        generalize hs : cacc txt = s at *
        have HS := Hid.mk7 hs
        clear hs hs0
        go_wp2_with fail
        refine (HIT.out wr).mono ?_
        rintro e w2 ⟨rfl, b2⟩
        have HT2 := Hid.mk7 (HTM.out.grown b2)
        have x0' := cell_later7 b2 (Nat.le_refl _) x0
        have x1' := cell_later7 b2 (Nat.le_refl _) x1
        have y0' := cell_later7 b2 (Nat.le_refl _) y0
        have y1' := cell_later7 b2 (Nat.le_refl _) y1
        clear x0 x1 x2 y0 y1 HTM b2 HIT
        obtain ⟨n, hn⟩ : ∃ n, n = min (t - f) m := ⟨_, rfl⟩
        have HN : Hid (1 ≤ n ∧ f + n ≤ t ∧ n ≤ m ∧ (f + n = t ∨ m = n)) := by show _ ∧ _; omega
        have HNC := Hid.mk7 (fun tu h => cp_copy (n := n) (tu := tu) HP.out HN.out.1 HN.out.2.1 HN.out.2.2.1 HN.out.2.2.2 h)
        have HM : Hid ((lessE f t n xs).length + (less m c n ys).length < xs.length + 1 + (ys.length + 1)) := by
          show _ < _
          have e1 := lessE_len f t n xs
          have e2 := less_len m c n ys
          rcases HN.out.2.2.2 with h | h
          · have := e1.2 h; omega
          · have := e2.2 h; omega
        have hnn := HN.out
        clear hn
        rcases (show n = t - f ∧ t - f ≤ m ∨ n = m ∧ m < t - f from by omega) with ⟨hnx, hmin⟩ | ⟨hnx, hmin⟩
        · subst hnx
          go_upto_region 6 with fail
          go_quiet (fail)
          have HT3 := Hid.mk7 (HT2.out.grown (below_drewN (Below.refl _ _) nq))
          have y1'' : (w2.drewN nq).cell? ⟨gy, offy + 1, none⟩ = _ := y1'
          clear HT2 x0' x1' y0' y1'
          generalize w2.drewN nq = W3 at *
          have hs3 := HT3.out.sz
          have hal : acc.length ≤ 2000 := by omega
          by_cases hc : 0 < c
          · have dc : decide (0 < c) = true := decide_eq_true hc
            go_wp2_with (at_builtin; refine wpList_append_own _ rfl _ _ 54 rfl W.heap.size 56 i0 (.agg #[.int .i64 0, .int .i64 0, .string ⟨#[]⟩]) 3 32 Tryd.underlying54 HI.out hz0 hz1 hz2 rfl (by decide) _ _ _ rfl (HT3.out.own.alloc _) ⟨_, 0, none⟩ 1 1 [.int .i64 f, .int .i64 (f + (t - f)), .string s] rfl rfl (three_newE _ _ _ _ _) (fun u hu => by simp at hu; rcases hu with rfl | rfl | rfl <;> rfl) (by unfold maxLen; omega) (by omega) (by simp; omega) ?_)
            intro v' w4 hown' hgrow _
            have HT4 := Hid.mk7 (cm_push HT3.out (by omega) hgx hgy f (f + (t - f)) txt (by rw [HS.out]; exact hown') hgrow)
            have HP4 := Hid.mk7 (HNC.out (f + (t - f)) (by omega))
            clear y1'' HT3 HNC hown' hgrow HP
            go_wp2_with fail
            refine (cm_tx HT4.out (by omega) (by omega) hne (t - f) (by omega) (by omega) (by omega) (by omega) (by omega)).mono ?_
            rintro e w5 ⟨xv5, rfl, sx5, t5⟩
            have HT5 := Hid.mk7 t5
            have SX5 := Hid.mk7 sx5
            clear t5 sx5 HT4
            go_wp2_with fail
            refine (cm_ty HT5.out (by omega) (by omega) hne (t - f) (by omega) (by omega) (by omega) (by omega)).mono ?_
            rintro e w6 ⟨yv6, rfl, sy6, t6⟩
            have HT6 := Hid.mk7 t6
            have SY6 := Hid.mk7 sy6
            clear t6 sy6 HT5
            go_wp2
            go_roundw
            case rel => exact ⟨_, _, _, _, 2, [], rfl, rfl, HP4, HT6⟩
            case measure => rw [SX5.out, SY6.out]; exact HM.out
          · have dc : decide (0 < c) = false := decide_eq_false hc
            go_wp2_with (at_builtin; refine wpList_append_own _ rfl _ _ 54 rfl W.heap.size 56 i0 (.agg #[.int .i64 0, .int .i64 0, .string ⟨#[]⟩]) 3 32 Tryd.underlying54 HI.out hz0 hz1 hz2 rfl (by decide) _ _ _ rfl (HT3.out.own.alloc _) ⟨_, 0, none⟩ 1 1 [.int .i64 f, .int .i64 f, .string s] rfl rfl (three_newE _ _ _ _ _) (fun u hu => by simp at hu; rcases hu with rfl | rfl | rfl <;> rfl) (by unfold maxLen; omega) (by omega) (by simp; omega) ?_)
            intro v' w4 hown' hgrow _
            have HT4 := Hid.mk7 (cm_push HT3.out (by omega) hgx hgy f (f) txt (by rw [HS.out]; exact hown') hgrow)
            have HP4 := Hid.mk7 (HNC.out (f) (by omega))
            clear y1'' HT3 HNC hown' hgrow HP
            go_wp2_with fail
            refine (cm_tx HT4.out (by omega) (by omega) hne (t - f) (by omega) (by omega) (by omega) (by omega) (by omega)).mono ?_
            rintro e w5 ⟨xv5, rfl, sx5, t5⟩
            have HT5 := Hid.mk7 t5
            have SX5 := Hid.mk7 sx5
            clear t5 sx5 HT4
            go_wp2_with fail
            refine (cm_ty HT5.out (by omega) (by omega) hne (t - f) (by omega) (by omega) (by omega) (by omega)).mono ?_
            rintro e w6 ⟨yv6, rfl, sy6, t6⟩
            have HT6 := Hid.mk7 t6
            have SY6 := Hid.mk7 sy6
            clear t6 sy6 HT5
            go_wp2
            go_roundw
            case rel => exact ⟨_, _, _, _, 2, [], rfl, rfl, HP4, HT6⟩
            case measure => rw [SX5.out, SY6.out]; exact HM.out
        · subst hnx
          go_upto_region 6 with fail
          go_quiet (fail)
          have HT3 := Hid.mk7 (HT2.out.grown (below_drewN (Below.refl _ _) nq))
          have y1'' : (w2.drewN nq).cell? ⟨gy, offy + 1, none⟩ = _ := y1'
          clear HT2 x0' x1' y0' y1'
          generalize w2.drewN nq = W3 at *
          have hs3 := HT3.out.sz
          have hal : acc.length ≤ 2000 := by omega
          by_cases hc : 0 < c
          · have dc : decide (0 < c) = true := decide_eq_true hc
            go_wp2_with (at_builtin; refine wpList_append_own _ rfl _ _ 54 rfl W.heap.size 56 i0 (.agg #[.int .i64 0, .int .i64 0, .string ⟨#[]⟩]) 3 32 Tryd.underlying54 HI.out hz0 hz1 hz2 rfl (by decide) _ _ _ rfl (HT3.out.own.alloc _) ⟨_, 0, none⟩ 1 1 [.int .i64 f, .int .i64 (f + (n)), .string s] rfl rfl (three_newE _ _ _ _ _) (fun u hu => by simp at hu; rcases hu with rfl | rfl | rfl <;> rfl) (by unfold maxLen; omega) (by omega) (by simp; omega) ?_)
            intro v' w4 hown' hgrow _
            have HT4 := Hid.mk7 (cm_push HT3.out (by omega) hgx hgy f (f + (n)) txt (by rw [HS.out]; exact hown') hgrow)
            have HP4 := Hid.mk7 (HNC.out (f + (n)) (by omega))
            clear y1'' HT3 HNC hown' hgrow HP
            go_wp2_with fail
            refine (cm_tx HT4.out (by omega) (by omega) hne (n) (by omega) (by omega) (by omega) (by omega) (by omega)).mono ?_
            rintro e w5 ⟨xv5, rfl, sx5, t5⟩
            have HT5 := Hid.mk7 t5
            have SX5 := Hid.mk7 sx5
            clear t5 sx5 HT4
            go_wp2_with fail
            refine (cm_ty HT5.out (by omega) (by omega) hne (n) (by omega) (by omega) (by omega) (by omega)).mono ?_
            rintro e w6 ⟨yv6, rfl, sy6, t6⟩
            have HT6 := Hid.mk7 t6
            have SY6 := Hid.mk7 sy6
            clear t6 sy6 HT5
            go_wp2
            go_roundw
            case rel => exact ⟨_, _, _, _, 2, [], rfl, rfl, HP4, HT6⟩
            case measure => rw [SX5.out, SY6.out]; exact HM.out
          · have dc : decide (0 < c) = false := decide_eq_false hc
            go_wp2_with (at_builtin; refine wpList_append_own _ rfl _ _ 54 rfl W.heap.size 56 i0 (.agg #[.int .i64 0, .int .i64 0, .string ⟨#[]⟩]) 3 32 Tryd.underlying54 HI.out hz0 hz1 hz2 rfl (by decide) _ _ _ rfl (HT3.out.own.alloc _) ⟨_, 0, none⟩ 1 1 [.int .i64 f, .int .i64 f, .string s] rfl rfl (three_newE _ _ _ _ _) (fun u hu => by simp at hu; rcases hu with rfl | rfl | rfl <;> rfl) (by unfold maxLen; omega) (by omega) (by simp; omega) ?_)
            intro v' w4 hown' hgrow _
            have HT4 := Hid.mk7 (cm_push HT3.out (by omega) hgx hgy f (f) txt (by rw [HS.out]; exact hown') hgrow)
            have HP4 := Hid.mk7 (HNC.out (f) (by omega))
            clear y1'' HT3 HNC hown' hgrow HP
            go_wp2_with fail
            refine (cm_tx HT4.out (by omega) (by omega) hne (n) (by omega) (by omega) (by omega) (by omega) (by omega)).mono ?_
            rintro e w5 ⟨xv5, rfl, sx5, t5⟩
            have HT5 := Hid.mk7 t5
            have SX5 := Hid.mk7 sx5
            clear t5 sx5 HT4
            go_wp2_with fail
            refine (cm_ty HT5.out (by omega) (by omega) hne (n) (by omega) (by omega) (by omega) (by omega)).mono ?_
            rintro e w6 ⟨yv6, rfl, sy6, t6⟩
            have HT6 := Hid.mk7 t6
            have SY6 := Hid.mk7 sy6
            clear t6 sy6 HT5
            go_wp2
            go_roundw
            case rel => exact ⟨_, _, _, _, 2, [], rfl, rfl, HP4, HT6⟩
            case measure => rw [SX5.out, SY6.out]; exact HM.out
      · have HPT := Hid.mk7 (cp_text HP.out hT0)
        have hss : decide ((cacc T).size ≠ 0) = true := by rw [hcs]; simp; exact hT0
        have HIT := Hid.mk7 (isText_any f t (cacc T))
        rw [hss] at HIT
        have HTM := Hid.mk7 HT.out
        clear tkx hss hcs HT hT0 hky HP
        generalize hs0 : cacc T = s0 at *
        have HS0 := Hid.mk7 hs0
        generalize hs : cacc txt = s at *
        clear hs hs0
        obtain ⟨N, hN⟩ : ∃ N, N = xs.length + 1 := ⟨_, rfl⟩
        have HN := Hid.mk7 hN
        rw [← hN] at hcx2 ⊢
        have hp : 0 < N := by omega
        have hp2 : N ≤ 1000 := by omega
        clear hN
        go_wp2_with fail
        refine (HIT.out wr).mono ?_
        rintro e w2 ⟨rfl, b2⟩
        have HT2 := Hid.mk7 (HTM.out.grown b2)
        have x0' := cell_later7 b2 (Nat.le_refl _) x0
        have x1' := cell_later7 b2 (Nat.le_refl _) x1
        have x2' := cell_later7 b2 (Nat.le_refl _) x2
        clear x0 x1 x2 HTM b2 HIT
        go_upto_region 5 with fail
        go_quiet (fail)
        have HT3 := Hid.mk7 (HT2.out.grown (below_drewN (Below.refl _ _) nq))
        clear HT2 x0' x1' x2'
        generalize w2.drewN nq = W3 at *
        go_wp2
        go_roundw
        case rel =>
          refine ⟨xs, ys, acc, a, 1, T, rfl, by rw [HS0.out], HPT, ⟨xl_of ((HT3.out.tx.1 (by simp)).tail (by have := HN.out; omega) rfl ?_), HT3.out.ty, HT3.out.own, HT3.out.be, HT3.out.sz⟩⟩
          intro hxn
          have h1 : 0 < xs.length := List.length_pos_iff.2 hxn
          have h2 := HN.out
          rw [if_neg (by omega)]
        case measure => simp only [slen]; omega
end Go.Proofs.YtalolaajcmndeaaDoor
