/- factor's changes. -/
import Derived.Test.YtalolaajcmndeaaDoorFacInx
import Derived.Test.YtalolaajcmndeaaDoorFacChgM
namespace Go.Proofs.YtalolaajcmndeaaDoor
open Go.RowKit Go.Sort
set_option linter.unusedSimpArgs false
set_option linter.unusedVariables false

/-- What is left of a row of elements, or nothing. -/
def Xl (w : World) (B g : Nat) (v : Value) (xs : List El) : Prop := (xs ≠ [] → Xk w B g v xs) ∧ (xs = [] → ∃ a cap, v = .slice a 0 cap)
theorem Xl.kept {w w' : World} {B g : Nat} {v : Value} {xs : List El} (h : Xl w B g v xs) {row : Option Nat} (hg : w.grownBy w' row) (hne : some g ≠ row) : Xl w' B g v xs :=
  ⟨fun e => (h.1 e).kept hg hne, h.2⟩
theorem xl_of {w : World} {B g : Nat} {v : Value} {xs : List El} (h : Xk w B g v xs) : Xl w B g v xs :=
  ⟨fun _ => h, fun e => by obtain ⟨a, cap, e2⟩ := h.shape; subst e; exact ⟨a, cap, e2⟩⟩
/-- Rows that are gone through, and one that grows. -/
structure Cm (w : World) (B1 B2 B3 gx gy : Nat) (wr : World) (lv xv yv : Value) (xs : List El) (ys : List Sg) (acc : List El) : Prop where
  tx : Xl wr B1 gx xv xs
  ty : Tl wr B2 gy yv ys
  own : OwnC wr B3 lv acc
  be : Below w.heap.size w wr
  sz : B3 ≤ wr.heap.size
theorem Cm.grown {w : World} {B1 B2 B3 gx gy : Nat} {wr w' : World} {lv xv yv : Value} {xs : List El} {ys : List Sg} {acc : List El} (h : Cm w B1 B2 B3 gx gy wr lv xv yv xs ys acc) (hg : Below wr.heap.size wr w') : Cm w B1 B2 B3 gx gy w' lv xv yv xs ys acc :=
  ⟨h.tx.kept (grown_below hg none) (by simp), h.ty.kept (grown_below hg none) (by simp), h.own.later hg, h.be.trans (hg.mono h.be.size), Nat.le_trans h.sz hg.size⟩
theorem cm_tx {w : World} {B1 B2 B3 gx gy : Nat} {wr : World} {lv xv yv : Value} {xs : List El} {ys : List Sg} {acc : List El} {f t : Int} (h : Cm w B1 B2 B3 gx gy wr lv xv yv ((f, t, []) :: xs) ys acc) (hw : w.heap.size ≤ B1) (hx : gx < B3) (hxy : gx ≠ gy) (n : Int) (h0 : 0 ≤ f) (hn : 1 ≤ n) (hn2 : f + n ≤ t) (hm : t ≤ 20000) (hl : xs.length ≤ 20000) :
    Calls Tryd.prog 65 #[xv, .int .i64 n] wr fun e w' => ∃ xv', e = .returned xv' ∧ slen xv' = (lessE f t n xs).length ∧ Cm w B1 B2 B3 gx gy w' lv xv' yv (lessE f t n xs) ys acc := by
  have tk := h.tx.1 (by simp)
  refine (ebehind_any f t n tk h0 hn hn2 (by omega) (by omega)).mono ?_
  rintro e w' ⟨xv', rfl, t', g'⟩
  obtain ⟨a, cap, e⟩ := t'.shape
  refine ⟨xv', rfl, by rw [e]; rfl, xl_of t', h.ty.kept g' ?_, h.own.kept g' ?_, h.be.grown g' h.be.size ?_, Nat.le_trans h.sz g'.size⟩
  · intro e; simp at e; exact hxy e.symm
  · by_cases hv : lv.ownBlock = none
    · exact Or.inl hv
    · refine Or.inr fun e => ?_
      have := (h.own.lt e).1
      omega
  · intro j hj; cases hj; have := tk.lt.1; omega
theorem cm_ty {w : World} {B1 B2 B3 gx gy : Nat} {wr : World} {lv xv yv : Value} {xs : List El} {ys : List Sg} {acc : List El} {m c : Int} (h : Cm w B1 B2 B3 gx gy wr lv xv yv xs ((m, c) :: ys) acc) (hw : w.heap.size ≤ B2) (hx : gy < B3) (hxy : gx ≠ gy) (n : Int) (hn : 1 ≤ n) (hn2 : n ≤ m) (hm : m ≤ 20000) (hl : ys.length ≤ 20000) :
    Calls Tryd.prog 66 #[yv, .int .i64 n] wr fun e w' => ∃ yv', e = .returned yv' ∧ slen yv' = (less m c n ys).length ∧ Cm w B1 B2 B3 gx gy w' lv xv yv' xs (less m c n ys) acc := by
  have tk := h.ty.1 (by simp)
  refine (rbehind_any m c n tk hn hn2 (by omega) (by omega)).mono ?_
  rintro e w' ⟨yv', rfl, t', g'⟩
  obtain ⟨a, cap, e⟩ := t'.shape
  refine ⟨yv', rfl, by rw [e]; rfl, h.tx.kept g' ?_, tl_less t', h.own.kept g' ?_, h.be.grown g' h.be.size ?_, Nat.le_trans h.sz g'.size⟩
  · intro e; simp at e; exact hxy e
  · by_cases hv : lv.ownBlock = none
    · exact Or.inl hv
    · refine Or.inr fun e => ?_
      have := (h.own.lt e).1
      omega
  · intro j hj; cases hj; have := tk.lt.1; omega
theorem cm_push {w : World} {B1 B2 B3 gx gy : Nat} {wr : World} {lv xv yv : Value} {xs : List El} {ys : List Sg} {acc : List El} (h : Cm w B1 B2 B3 gx gy wr lv xv yv xs ys acc) (hw : w.heap.size ≤ B3) (hx : gx < B3) (hy : gy < B3) {o : Obj} {v' : Value} {w' : World} (f t : Int) (T : List UInt8)
    (ho : w'.ownsRow B3 56 3 v' (acc.length + 1) (c3 acc ++ [.int .i64 f, .int .i64 t, .string (cacc T)])) (hg : (wr.alloc o).grownBy w' lv.ownBlock) : Cm w B1 B2 B3 gx gy w' v' xv yv xs ys (acc ++ [(f, t, T)]) := by
  have hg2 : wr.grownBy w' lv.ownBlock := grown_trans (World.grownBy_alloc _ _ _) hg
  refine ⟨h.tx.kept hg2 ?_, h.ty.kept hg2 ?_, ?_, h.be.grown hg2 h.be.size ?_, Nat.le_trans h.sz hg2.size⟩
  · intro e; have := (h.own.lt e.symm).1; omega
  · intro e; have := (h.own.lt e.symm).1; omega
  · unfold OwnC
    rw [List.length_append, c3_append, c3_one]
    exact ho
  · intro j hj; have := (h.own.lt hj).1; omega
theorem ky_bd {base : Int} : ∀ (es : List El) (a : Int) (k : Nat), Ky base a k es → ∀ e ∈ es, e.2.1 ≤ max base 0
  | [], _, _, _, e, he => by cases he
  | (f, t, T) :: es, a, k, h, e, he => by
    unfold Ky at h
    split at h
    · rcases List.mem_cons.1 he with rfl | he
      · have := ky_le es t 2 h.2.2; simp only; omega
      · exact ky_bd es t 2 h.2.2 e he
    · rcases List.mem_cons.1 he with rfl | he
      · simp only; omega
      · exact ky_bd es a 1 h.2.2.2 e he
theorem inS_mem : ∀ (l : List El) (e : El), e ∈ l → e.2.2.length ≤ inS l := by
  intro l e he
  induction l with
  | nil => cases he
  | cons x l ih =>
    simp only [inS, List.map_cons, List.sum_cons] at *
    rcases List.mem_cons.1 he with rfl | he
    · omega
    · have := ih he; omega
set_option maxHeartbeats 8000000 in
set_option maxRecDepth 100000 in
theorem changes_any {w W : World} {ev rv : Value} {base : Int} {es : List El} {L : List Int} (B1 B2 gx gy : Nat) (hi : isB base es = true) (hcp : cpS es = base) (hL : Ok8 L) (hlen : (L.length : Int) = base) (hrl : (rle L).length ≤ 600)
    (hx : Xl W B1 gx ev es) (hy : Tl W B2 gy rv (rle L)) (hb1 : w.heap.size ≤ B1) (hb2 : w.heap.size ≤ B2) (hgx : gx < W.heap.size) (hgy : gy < W.heap.size) (hne : gx ≠ gy) (hbe : Below w.heap.size w W) :
    Calls Tryd.prog 47 #[ev, rv] W fun e w' => ∃ v' l, e = .returned v' ∧ ElAt w' v' l ∧ Chd base L es l ∧ Below w.heap.size w w' := by
  have hd := dl_of hi
  obtain ⟨i0, hi0, hz0, hz1, hz2⟩ := info_parts Tryd.info_ch
  have HI := Hid.mk7 hi0
  have HCP := Hid.mk7 (cp_start (L := L) (ky_isB hi hcp) hd.vl)
  have HX := Hid.mk7 hx
  have HY := Hid.mk7 hy
  have HIS := Hid.mk7 hi
  have HOL := Hid.mk7 hL
  have HLE := Hid.mk7 hlen
  have hel := hd.len
  have hbe2 := hbe.size
  have hb00 := hd.b0
  have hb01 := hd.b1
  clear hx hy hd hi0 hi hL hlen hcp
  go_enter Tryd.func47, Tryd.ntmps47
  go_wp2
  go_loopw [0, 1, 5, 6, 7] (fun xv yv lv nv sv wr => ∃ xs ys acc a k txt, nv = .int .i64 a ∧ sv = .string (cacc txt) ∧ Hid (Cp base L es xs ys acc a k txt) ∧ Hid (Cm w B1 B2 W.heap.size gx gy wr lv xv yv xs ys acc)) (fun xv yv _ _ _ _ => slen xv + slen yv)
  case atStart => exact ⟨es, rle L, [], 0, 0, [], rfl, rfl, HCP, ⟨HX.out, HY.out, OwnC.nil _ _, hbe, Nat.le_refl _⟩⟩
  case round =>
    clear HCP HX HY hbe
    obtain ⟨xs, ys, acc, a, k, txt, rfl, rfl, HP, HT⟩ := hrel
    have hcnt := HP.out.cnt
    have ha0 := HP.out.a0
    have hky := HP.out.ky
    have hale := ky_le _ _ _ hky
    by_cases hx : xs = []
    · subst hx
      obtain ⟨ax, cx, rfl⟩ := HT.out.tx.2 rfl
      have HE := Hid.mk7 (cp_end HIS.out HP.out)
      have O2 := Hid.mk7 HT.out.own
      have B2' := Hid.mk7 HT.out.be
      have hs3 := HT.out.sz
      have hal : acc.length ≤ 2000 := by simp only [List.length_nil] at hcnt; omega
      have hl1 : (cacc txt).size = (cacc txt).size := rfl
      clear HT HP hky hcnt
      generalize hs : cacc txt = s at *
      have HS := Hid.mk7 hs
      clear hs
      go_wp2_with (at_builtin; refine wpList_append_own _ rfl _ _ 54 rfl W.heap.size 56 i0 (.agg #[.int .i64 0, .int .i64 0, .string ⟨#[]⟩]) 3 32 Tryd.underlying54 HI.out hz0 hz1 hz2 rfl (by decide) _ _ _ rfl (O2.out.alloc _) ⟨_, 0, none⟩ 1 1 [.int .i64 a, .int .i64 a, .string s] rfl rfl (three_newE _ _ _ _ _) (fun u hu => by simp at hu; rcases hu with rfl | rfl | rfl <;> rfl) (by unfold maxLen; omega) (by omega) (by simp; omega) ?_)
      intro v' w3 hown' hgrow _
      have H3 : Hid (ElAt w3 v' (acc ++ [(a, a, txt)]) ∧ Below w.heap.size w w3) := by
        refine ⟨?_, (B2'.out.alloc B2'.out.size _).grown hgrow ?_ ?_⟩
        · have : OwnC w3 W.heap.size v' (acc ++ [(a, a, txt)]) := by
            unfold OwnC
            rw [List.length_append, c3_append, c3_one, HS.out]
            exact hown'
          exact this.row
        · have := B2'.out.size; simp; omega
        · exact fun j hj => by have := (O2.out.lt hj).1; have := hbe2; omega
      clear hown' hgrow O2 B2'
      go_wp2
      go_ret
      exact ⟨v', _, rfl, H3.out.1, HE.out, H3.out.2⟩
    · obtain ⟨f, t, T, xs, rfl⟩ : ∃ f t T qs, xs = (f, t, T) :: qs := by cases xs with | nil => exact absurd rfl hx | cons r qs => exact ⟨r.1, r.2.1, r.2.2, qs, rfl⟩
      have tkx := HT.out.tx.1 (by simp)
      obtain ⟨ax, capx, rfl⟩ := tkx.shape
      obtain ⟨offx, rfl, _, hcx, hcx2, x0, x1, x2⟩ := tkx.cells
      simp only [List.length_cons] at hcnt hcx2 x0 x1 x2 ⊢
      have hgw := tkx.lt
      have hcs : (cacc T).size = T.length := cacc_size T
      clear hx
      by_cases hT0 : T = []
      · subst hT0
        have hky2 := hky
        rw [Ky, if_pos rfl] at hky2
        obtain ⟨rfl, hft, hk2⟩ := hky2
        have htb := ky_le _ _ _ hk2
        obtain ⟨m, c, ys, rfl⟩ : ∃ m c qs, ys = (m, c) :: qs := by
          refine xp_cons_of fun e => ?_
          have h1 := HP.out.ry
          rw [e] at h1
          have h2 := congrArg List.length h1
          have h3 := HLE.out
          simp at h2
          omega
        have hm1 : 1 ≤ m := HP.out.py (m, c) (by simp)
        obtain ⟨ic, lc⟩ := xp_head_in (rs := ys) (c := c) hm1
        have hm2 : m ≤ 20000 := by
          have h2 := congrArg List.length HP.out.ry
          have h3 := HOL.out.1
          simp only [List.length_drop] at h2
          omega
        have hc0 : 0 ≤ c := by
          rw [HP.out.ry] at ic
          exact (HOL.out.2 c (List.mem_of_mem_drop ic)).1
        have tky := HT.out.ty.1 (by simp)
        obtain ⟨ay, capy, rfl⟩ := tky.shape
        obtain ⟨offy, rfl, _, y0, y1⟩ := tky.cells
        have hgyw := tky.lt
        simp only [List.length_cons] at hcnt y0 y1 ⊢
        have hss : decide ((cacc []).size ≠ 0) = false := by rw [hcs]; rfl
        have HIT := Hid.mk7 (isText_any f t (cacc []))
        rw [hss] at HIT
        have HTM := Hid.mk7 HT.out
        clear tkx tky ic lc hss hcs HT
        generalize hs0 : cacc ([] : List UInt8) = s0 at *
        have HS0 := Hid.mk7 hs0
        generalize hs : cacc txt = s at *
        have HS := Hid.mk7 hs
        clear hs hs0
        go_wp2_with fail
        refine (HIT.out wr).mono ?_
        rintro e w2 ⟨rfl, b2⟩
        have HT2 := Hid.mk7 (HTM.out.grown b2)
        have x0' := cell_later7 b2 (Nat.le_refl _) x0
        have x1' := cell_later7 b2 (Nat.le_refl _) x1
        have y0' := cell_later7 b2 (Nat.le_refl _) y0
        have y1' := cell_later7 b2 (Nat.le_refl _) y1
        clear x0 x1 x2 y0 y1 HTM b2 HIT
        obtain ⟨n, hn⟩ : ∃ n, n = min (t - f) m := ⟨_, rfl⟩
        have HN : Hid (1 ≤ n ∧ f + n ≤ t ∧ n ≤ m ∧ (f + n = t ∨ m = n)) := by show _ ∧ _; omega
        have HNC := Hid.mk7 (fun tu h => cp_copy (n := n) (tu := tu) HP.out HN.out.1 HN.out.2.1 HN.out.2.2.1 HN.out.2.2.2 h)
        have HM : Hid ((lessE f t n xs).length + (less m c n ys).length < xs.length + 1 + (ys.length + 1)) := by
          show _ < _
          have e1 := lessE_len f t n xs
          have e2 := less_len m c n ys
          rcases HN.out.2.2.2 with h | h
          · have := e1.2 h; omega
          · have := e2.2 h; omega
        have hnn := HN.out
        clear hn
        rcases (show n = t - f ∧ t - f ≤ m ∨ n = m ∧ m < t - f from by omega) with ⟨hnx, hmin⟩ | ⟨hnx, hmin⟩
        · subst hnx
          go_upto_region 6 with fail
          go_quiet (fail)
          have HT3 := Hid.mk7 (HT2.out.grown (below_drewN (Below.refl _ _) nq))
          have y1'' : (w2.drewN nq).cell? ⟨gy, offy + 1, none⟩ = _ := y1'
          clear HT2 x0' x1' y0' y1'
          generalize w2.drewN nq = W3 at *
          have hs3 := HT3.out.sz
          have hal : acc.length ≤ 2000 := by omega
          by_cases hc : 0 < c
          · have dc : decide (0 < c) = true := decide_eq_true hc
            go_wp2_with (at_builtin; refine wpList_append_own _ rfl _ _ 54 rfl W.heap.size 56 i0 (.agg #[.int .i64 0, .int .i64 0, .string ⟨#[]⟩]) 3 32 Tryd.underlying54 HI.out hz0 hz1 hz2 rfl (by decide) _ _ _ rfl (HT3.out.own.alloc _) ⟨_, 0, none⟩ 1 1 [.int .i64 f, .int .i64 (f + (t - f)), .string s] rfl rfl (three_newE _ _ _ _ _) (fun u hu => by simp at hu; rcases hu with rfl | rfl | rfl <;> rfl) (by unfold maxLen; omega) (by omega) (by simp; omega) ?_)
            intro v' w4 hown' hgrow _
            have HT4 := Hid.mk7 (cm_push HT3.out (by omega) hgx hgy f (f + (t - f)) txt (by rw [HS.out]; exact hown') hgrow)
            have HP4 := Hid.mk7 (HNC.out (f + (t - f)) (by omega))
            clear y1'' HT3 HNC hown' hgrow HP
            go_wp2_with fail
            refine (cm_tx HT4.out (by omega) (by omega) hne (t - f) (by omega) (by omega) (by omega) (by omega) (by omega)).mono ?_
            rintro e w5 ⟨xv5, rfl, sx5, t5⟩
            have HT5 := Hid.mk7 t5
            have SX5 := Hid.mk7 sx5
            clear t5 sx5 HT4
            go_wp2_with fail
            refine (cm_ty HT5.out (by omega) (by omega) hne (t - f) (by omega) (by omega) (by omega) (by omega)).mono ?_
            rintro e w6 ⟨yv6, rfl, sy6, t6⟩
            have HT6 := Hid.mk7 t6
            have SY6 := Hid.mk7 sy6
            clear t6 sy6 HT5
            go_wp2
            go_roundw
            case rel => exact ⟨_, _, _, _, 2, [], rfl, rfl, HP4, HT6⟩
            case measure => rw [SX5.out, SY6.out]; exact HM.out
          · have dc : decide (0 < c) = false := decide_eq_false hc
            go_wp2_with (at_builtin; refine wpList_append_own _ rfl _ _ 54 rfl W.heap.size 56 i0 (.agg #[.int .i64 0, .int .i64 0, .string ⟨#[]⟩]) 3 32 Tryd.underlying54 HI.out hz0 hz1 hz2 rfl (by decide) _ _ _ rfl (HT3.out.own.alloc _) ⟨_, 0, none⟩ 1 1 [.int .i64 f, .int .i64 f, .string s] rfl rfl (three_newE _ _ _ _ _) (fun u hu => by simp at hu; rcases hu with rfl | rfl | rfl <;> rfl) (by unfold maxLen; omega) (by omega) (by simp; omega) ?_)
            intro v' w4 hown' hgrow _
            have HT4 := Hid.mk7 (cm_push HT3.out (by omega) hgx hgy f (f) txt (by rw [HS.out]; exact hown') hgrow)
            have HP4 := Hid.mk7 (HNC.out (f) (by omega))
            clear y1'' HT3 HNC hown' hgrow HP
            go_wp2_with fail
            refine (cm_tx HT4.out (by omega) (by omega) hne (t - f) (by omega) (by omega) (by omega) (by omega) (by omega)).mono ?_
            rintro e w5 ⟨xv5, rfl, sx5, t5⟩
            have HT5 := Hid.mk7 t5
            have SX5 := Hid.mk7 sx5
            clear t5 sx5 HT4
            go_wp2_with fail
            refine (cm_ty HT5.out (by omega) (by omega) hne (t - f) (by omega) (by omega) (by omega) (by omega)).mono ?_
            rintro e w6 ⟨yv6, rfl, sy6, t6⟩
            have HT6 := Hid.mk7 t6
            have SY6 := Hid.mk7 sy6
            clear t6 sy6 HT5
            go_wp2
            go_roundw
            case rel => exact ⟨_, _, _, _, 2, [], rfl, rfl, HP4, HT6⟩
            case measure => rw [SX5.out, SY6.out]; exact HM.out
        · subst hnx
          go_upto_region 6 with fail
          go_quiet (fail)
          have HT3 := Hid.mk7 (HT2.out.grown (below_drewN (Below.refl _ _) nq))
          have y1'' : (w2.drewN nq).cell? ⟨gy, offy + 1, none⟩ = _ := y1'
          clear HT2 x0' x1' y0' y1'
          generalize w2.drewN nq = W3 at *
          have hs3 := HT3.out.sz
          have hal : acc.length ≤ 2000 := by omega
          by_cases hc : 0 < c
          · have dc : decide (0 < c) = true := decide_eq_true hc
            go_wp2_with (at_builtin; refine wpList_append_own _ rfl _ _ 54 rfl W.heap.size 56 i0 (.agg #[.int .i64 0, .int .i64 0, .string ⟨#[]⟩]) 3 32 Tryd.underlying54 HI.out hz0 hz1 hz2 rfl (by decide) _ _ _ rfl (HT3.out.own.alloc _) ⟨_, 0, none⟩ 1 1 [.int .i64 f, .int .i64 (f + (n)), .string s] rfl rfl (three_newE _ _ _ _ _) (fun u hu => by simp at hu; rcases hu with rfl | rfl | rfl <;> rfl) (by unfold maxLen; omega) (by omega) (by simp; omega) ?_)
            intro v' w4 hown' hgrow _
            have HT4 := Hid.mk7 (cm_push HT3.out (by omega) hgx hgy f (f + (n)) txt (by rw [HS.out]; exact hown') hgrow)
            have HP4 := Hid.mk7 (HNC.out (f + (n)) (by omega))
            clear y1'' HT3 HNC hown' hgrow HP
            go_wp2_with fail
            refine (cm_tx HT4.out (by omega) (by omega) hne (n) (by omega) (by omega) (by omega) (by omega) (by omega)).mono ?_
            rintro e w5 ⟨xv5, rfl, sx5, t5⟩
            have HT5 := Hid.mk7 t5
            have SX5 := Hid.mk7 sx5
            clear t5 sx5 HT4
            go_wp2_with fail
            refine (cm_ty HT5.out (by omega) (by omega) hne (n) (by omega) (by omega) (by omega) (by omega)).mono ?_
            rintro e w6 ⟨yv6, rfl, sy6, t6⟩
            have HT6 := Hid.mk7 t6
            have SY6 := Hid.mk7 sy6
            clear t6 sy6 HT5
            go_wp2
            go_roundw
            case rel => exact ⟨_, _, _, _, 2, [], rfl, rfl, HP4, HT6⟩
            case measure => rw [SX5.out, SY6.out]; exact HM.out
          · have dc : decide (0 < c) = false := decide_eq_false hc
            go_wp2_with (at_builtin; refine wpList_append_own _ rfl _ _ 54 rfl W.heap.size 56 i0 (.agg #[.int .i64 0, .int .i64 0, .string ⟨#[]⟩]) 3 32 Tryd.underlying54 HI.out hz0 hz1 hz2 rfl (by decide) _ _ _ rfl (HT3.out.own.alloc _) ⟨_, 0, none⟩ 1 1 [.int .i64 f, .int .i64 f, .string s] rfl rfl (three_newE _ _ _ _ _) (fun u hu => by simp at hu; rcases hu with rfl | rfl | rfl <;> rfl) (by unfold maxLen; omega) (by omega) (by simp; omega) ?_)
            intro v' w4 hown' hgrow _
            have HT4 := Hid.mk7 (cm_push HT3.out (by omega) hgx hgy f (f) txt (by rw [HS.out]; exact hown') hgrow)
            have HP4 := Hid.mk7 (HNC.out (f) (by omega))
            clear y1'' HT3 HNC hown' hgrow HP
            go_wp2_with fail
            refine (cm_tx HT4.out (by omega) (by omega) hne (n) (by omega) (by omega) (by omega) (by omega) (by omega)).mono ?_
            rintro e w5 ⟨xv5, rfl, sx5, t5⟩
            have HT5 := Hid.mk7 t5
            have SX5 := Hid.mk7 sx5
            clear t5 sx5 HT4
            go_wp2_with fail
            refine (cm_ty HT5.out (by omega) (by omega) hne (n) (by omega) (by omega) (by omega) (by omega)).mono ?_
            rintro e w6 ⟨yv6, rfl, sy6, t6⟩
            have HT6 := Hid.mk7 t6
            have SY6 := Hid.mk7 sy6
            clear t6 sy6 HT5
            go_wp2
            go_roundw
            case rel => exact ⟨_, _, _, _, 2, [], rfl, rfl, HP4, HT6⟩
            case measure => rw [SX5.out, SY6.out]; exact HM.out
      · have HPT := Hid.mk7 (cp_text HP.out hT0)
        have hss : decide ((cacc T).size ≠ 0) = true := by rw [hcs]; simp; exact hT0
        have HIT := Hid.mk7 (isText_any f t (cacc T))
        rw [hss] at HIT
        have HTM := Hid.mk7 HT.out
        clear tkx hss hcs HT hT0 hky HP
        generalize hs0 : cacc T = s0 at *
        have HS0 := Hid.mk7 hs0
        generalize hs : cacc txt = s at *
        clear hs hs0
        obtain ⟨N, hN⟩ : ∃ N, N = xs.length + 1 := ⟨_, rfl⟩
        have HN := Hid.mk7 hN
        rw [← hN] at hcx2 ⊢
        have hp : 0 < N := by omega
        have hp2 : N ≤ 1000 := by omega
        clear hN
        go_wp2_with fail
        refine (HIT.out wr).mono ?_
        rintro e w2 ⟨rfl, b2⟩
        have HT2 := Hid.mk7 (HTM.out.grown b2)
        have x0' := cell_later7 b2 (Nat.le_refl _) x0
        have x1' := cell_later7 b2 (Nat.le_refl _) x1
        have x2' := cell_later7 b2 (Nat.le_refl _) x2
        clear x0 x1 x2 HTM b2 HIT
        go_upto_region 5 with fail
        go_quiet (fail)
        have HT3 := Hid.mk7 (HT2.out.grown (below_drewN (Below.refl _ _) nq))
        clear HT2 x0' x1' x2'
        generalize w2.drewN nq = W3 at *
        go_wp2
        go_roundw
        case rel =>
          refine ⟨xs, ys, acc, a, 1, T, rfl, by rw [HS0.out], HPT, ⟨xl_of ((HT3.out.tx.1 (by simp)).tail (by have := HN.out; omega) rfl ?_), HT3.out.ty, HT3.out.own, HT3.out.be, HT3.out.sz⟩⟩
          intro hxn
          have h1 : 0 < xs.length := List.length_pos_iff.2 hxn
          have h2 := HN.out
          rw [if_neg (by omega)]
        case measure => simp only [slen]; omega
end Go.Proofs.YtalolaajcmndeaaDoor
