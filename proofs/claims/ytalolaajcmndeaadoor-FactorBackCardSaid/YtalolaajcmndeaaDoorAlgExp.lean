/- algebra's Expand. -/
import Derived.Test.YtalolaajcmndeaaDoorAlgOps
namespace Go.Proofs.YtalolaajcmndeaaDoor
open Go.RowKit Go.Sort
set_option linter.unusedSimpArgs false
set_option linter.unusedVariables false

/-- Of the places of B that are 0, one behind the other, as often as A says; the others 0 times. -/
def expd : List Int → List Int → List Int
  | _, [] => []
  | A, b :: B => if b = 0 then A.headD 0 :: expd A.tail B else 0 :: expd A B
def zrc (l : List Int) : Nat := (l.filter fun c => decide (c = 0)).length
theorem zrc_append (a b : List Int) : zrc (a ++ b) = zrc a + zrc b := by simp [zrc]
theorem zrc_rep0 (n : Nat) : zrc (List.replicate n 0) = n := by
  unfold zrc
  rw [List.filter_eq_self.2 (fun a ha => by rw [List.eq_of_mem_replicate ha]; rfl)]; simp
theorem zrc_rep (n : Nat) {c : Int} (h : c ≠ 0) : zrc (List.replicate n c) = 0 := by
  unfold zrc
  rw [List.filter_eq_nil_iff.2 (fun a ha => by rw [List.eq_of_mem_replicate ha]; simpa using h)]; rfl
theorem zrc_szc : ∀ {l : List Int}, (∀ c ∈ l, In8 c) → zrc l + szc l = l.length
  | [], _ => rfl
  | c :: l, h => by
    have ih := zrc_szc (l := l) fun x hx => h x (List.mem_cons_of_mem _ hx)
    have hc := h c (by simp)
    unfold In8 at hc
    unfold zrc szc at *
    by_cases e : c = 0
    · subst e; simp; omega
    · have : 0 < c := by omega
      simp [e, this]; omega
theorem expd_zero (n : Nat) (c : Int) (A B : List Int) : expd (List.replicate n c ++ A) (List.replicate n 0 ++ B) = List.replicate n c ++ expd A B := by
  induction n with
  | zero => rfl
  | succ n ih =>
    rw [List.replicate_succ, List.replicate_succ]
    show (if (0 : Int) = 0 then (c :: (List.replicate n c ++ A)).headD 0 :: expd (c :: (List.replicate n c ++ A)).tail (List.replicate n 0 ++ B) else _) = _
    rw [if_pos rfl]
    show c :: expd (List.replicate n c ++ A) (List.replicate n 0 ++ B) = _
    rw [ih]; rfl
theorem expd_pos (n : Nat) {c : Int} (h : c ≠ 0) (A B : List Int) : expd A (List.replicate n c ++ B) = List.replicate n 0 ++ expd A B := by
  induction n with
  | zero => rfl
  | succ n ih =>
    rw [List.replicate_succ]
    show (if c = 0 then _ else 0 :: expd A (List.replicate n c ++ B)) = _
    rw [if_neg h, ih]; rfl
theorem expd_len : ∀ (A B : List Int), (expd A B).length = B.length
  | _, [] => rfl
  | A, b :: B => by
    show (if b = 0 then A.headD 0 :: expd A.tail B else 0 :: expd A B).length = _
    split <;> simp [expd_len]
theorem expd_mem : ∀ {A B : List Int} {c : Int}, c ∈ expd A B → c ∈ A ∨ c = 0
  | _, [], c, h => by simp [expd] at h
  | A, b :: B, c, h => by
    have h' : c ∈ (if b = 0 then A.headD 0 :: expd A.tail B else 0 :: expd A B) := h
    split at h'
    · rcases List.mem_cons.1 h' with rfl | h'
      · cases A with
        | nil => exact Or.inr rfl
        | cons a A => exact Or.inl (by simp)
      · rcases expd_mem h' with h | h
        · exact Or.inl (List.mem_of_mem_tail h)
        · exact Or.inr h
    · rcases List.mem_cons.1 h' with rfl | h'
      · exact Or.inr rfl
      · exact expd_mem h'
theorem ok8_expd {A B : List Int} (hA : Ok8 A) (hB : Ok8 B) : Ok8 (expd A B) := by
  refine ⟨by rw [expd_len]; exact hB.1, fun c hc => ?_⟩
  rcases expd_mem hc with h | rfl
  · exact hA.2 c h
  · decide
/-- One piece, of places that aren't in b. -/
theorem expd_part0 {m1 c1 m2 n : Int} {xs ys : List Sg} (hn : 0 ≤ n) (h1 : n ≤ m1) (h2 : n ≤ m2) :
    expd (xp ((m1, c1) :: xs)) (xp ((m2, 0) :: ys)) = List.replicate n.toNat c1 ++ expd (xp (less m1 c1 n xs)) (xp (less m2 0 n ys)) := by
  rw [xp_part hn h1, xp_part hn h2, expd_zero]
theorem expd_part1 {m2 c2 : Int} {A : List Int} {ys : List Sg} (h : c2 ≠ 0) : expd A (xp ((m2, c2) :: ys)) = List.replicate m2.toNat 0 ++ expd A (xp ys) := expd_pos _ h A (xp ys)
theorem segs_tl2 {w : World} {p : Value} {L : List Int} (h : Sub w p L) (hl : L.length ≤ 20000) : Calls Tryd.prog 49 #[p] w fun e w' => ∃ v g, e = .returned v ∧ Tl w' w.heap.size g v (rle L) ∧ g < w'.heap.size ∧ Below w.heap.size w w' := by
  have h0 : 0 < w.heap.size := by
    obtain ⟨b, v, _, hc, _⟩ := h
    have := World.block_lt_of_cell? w _ hc
    omega
  refine (segs_tl h hl).mono ?_
  rintro e w' ⟨v, g, rfl, t, hg, b⟩
  by_cases hL : L = []
  · subst hL
    exact ⟨v, 0, rfl, ⟨fun h => absurd rfl h, t.2⟩, Nat.lt_of_lt_of_le h0 b.size, b⟩
  · exact ⟨v, g, rfl, t, hg hL, b⟩
structure Te (L M : List Int) (w : World) (B1 B2 B3 gx gy : Nat) (wr : World) (rv xv yv : Value) (xs ys : List Sg) (done : List Int) : Prop where
  tm : Tm w B1 B2 B3 gx gy wr rv xv yv xs ys done
  eq : expd L M = done ++ expd (xp xs) (xp ys)
  len : (xp xs).length = zrc (xp ys)
  px : ∀ r ∈ xs, 1 ≤ r.1
  py : ∀ r ∈ ys, 1 ≤ r.1
  mx : ∀ c ∈ xp xs, In8 c
  my : ∀ c ∈ xp ys, In8 c
  lx : (xp xs).length ≤ 20000
  ly : (xp ys).length ≤ M.length
theorem te_done {L M done A B : List Int} (hM : Ok8 M) (h : expd L M = done ++ expd A B) : done.length ≤ 20000 := by
  have := congrArg List.length h
  rw [List.length_append, expd_len] at this
  have := hM.1
  omega
set_option maxHeartbeats 1600000 in
set_option maxRecDepth 100000 in
theorem expand_len {w : World} {p q : Value} {L M : List Int} (hp : Sub w p L) (hq : Sub w q M) (hL : Ok8 L) (hM : Ok8 M) (hne : L.length ≠ zrc M) :
    Calls Tryd.prog 26 #[p, q] w fun e w' => e = .returned (.tuple #[.pointer none, .int .i64 80]) ∧ Below w.heap.size w w' := by
  have HP := Hid.mk7 hp
  have HQ := Hid.mk7 hq
  have hL1 := hL.1
  have hM1 := hM.1
  have H1 : Hid (∀ W, Sub W p L → Calls Tryd.prog 35 #[p] W fun e w' => e = .returned (.int .i64 (L.length : Nat)) ∧ Below W.heap.size W w') := fun W h => len_any7 h (by omega)
  have H2 : Hid (∀ W, Sub W q M → Calls Tryd.prog 35 #[q] W fun e w' => e = .returned (.int .i64 (M.length : Nat)) ∧ Below W.heap.size W w') := fun W h => len_any7 h (by omega)
  have H3 : Hid (∀ W, Sub W q M → Calls Tryd.prog 36 #[q] W fun e w' => e = .returned (.int .i64 (szc M : Nat)) ∧ Below W.heap.size W w') := fun W h => size_any7 h (by omega)
  have hz := zrc_szc hM.2
  have d0 : ((L.length : Int) != (M.length : Int) - (szc M : Int)) = true := by simp; omega
  clear hp hq hL hM
  generalize L.length = N at *
  generalize M.length = N2 at *
  generalize szc M = S at *
  have hz2 : S ≤ N2 := by omega
  clear hz hne
  go_enter Tryd.func26, Tryd.ntmps26
  go_wp2_with fail
  refine (orNone_any HP.out).mono ?_
  rintro e w1 ⟨rfl, rfl⟩
  go_wp2_with fail
  refine (orNone_any HQ.out).mono ?_
  rintro e w2 ⟨rfl, rfl⟩
  go_wp2_with fail
  refine (H1.out _ HP.out).mono ?_
  rintro e w3 ⟨rfl, b3⟩
  go_wp2_with fail
  refine (H2.out _ (HQ.out.later b3)).mono ?_
  rintro e w4 ⟨rfl, b4⟩
  have g4 := b3.trans (b4.mono b3.size)
  go_wp2_with fail
  refine (H3.out _ (HQ.out.later g4)).mono ?_
  rintro e w5 ⟨rfl, b5⟩
  have g5 := g4.trans (b5.mono g4.size)
  clear b3 b4 b5 g4 H1 H2 H3
  go_wp2
  go_ret2
  exact ⟨rfl, g5⟩
set_option maxHeartbeats 4000000 in
set_option maxRecDepth 100000 in
theorem expand_any {w : World} {p q : Value} {L M : List Int} (hp : Sub w p L) (hq : Sub w q M) (hL : Ok8 L) (hM : Ok8 M) (hlen : L.length = zrc M) :
    Calls Tryd.prog 26 #[p, q] w fun e w' => Out8 (expd L M) e w' ∧ Below w.heap.size w w' := by
  have HP := Hid.mk7 hp
  have HQ := Hid.mk7 hq
  have hL1 := hL.1
  have hM1 := hM.1
  have H1 : Hid (∀ W, Sub W p L → Calls Tryd.prog 35 #[p] W fun e w' => e = .returned (.int .i64 (L.length : Nat)) ∧ Below W.heap.size W w') := fun W h => len_any7 h (by omega)
  have H2 : Hid (∀ W, Sub W q M → Calls Tryd.prog 35 #[q] W fun e w' => e = .returned (.int .i64 (M.length : Nat)) ∧ Below W.heap.size W w') := fun W h => len_any7 h (by omega)
  have H3 : Hid (∀ W, Sub W q M → Calls Tryd.prog 36 #[q] W fun e w' => e = .returned (.int .i64 (szc M : Nat)) ∧ Below W.heap.size W w') := fun W h => size_any7 h (by omega)
  have H4 : Hid (∀ W, Sub W p L → Calls Tryd.prog 49 #[p] W fun e w' => ∃ v g, e = .returned v ∧ Tl w' W.heap.size g v (rle L) ∧ g < w'.heap.size ∧ Below W.heap.size W w') := fun W h => segs_tl2 h hL.1
  have H5 : Hid (∀ W, Sub W q M → Calls Tryd.prog 49 #[q] W fun e w' => ∃ v g, e = .returned v ∧ Tl w' W.heap.size g v (rle M) ∧ g < w'.heap.size ∧ Below W.heap.size W w') := fun W h => segs_tl2 h hM.1
  have hz := zrc_szc hM.2
  have d0 : ((L.length : Int) != (M.length : Int) - (szc M : Int)) = false := by simp; omega
  have HOL := Hid.mk7 hL
  have HOM := Hid.mk7 hM
  have HLEN := Hid.mk7 hlen
  have HOK := Hid.mk7 (ok8_expd hL hM)
  clear hp hq hL hM hlen
  obtain ⟨N, hN⟩ : ∃ N : Nat, L.length = N := ⟨_, rfl⟩
  obtain ⟨N2, hN2⟩ : ∃ N : Nat, M.length = N := ⟨_, rfl⟩
  obtain ⟨S, hS⟩ : ∃ N : Nat, szc M = N := ⟨_, rfl⟩
  rw [hN] at H1 d0
  rw [hN2] at H2 d0
  rw [hS] at H3 d0
  have hS2 : S ≤ N2 := by omega
  have hN3 : N ≤ 20000 := by omega
  have hN4 : N2 ≤ 20000 := by omega
  clear hz hN hN2 hS hL1 hM1
  go_enter Tryd.func26, Tryd.ntmps26
  go_wp2_with fail
  refine (orNone_any HP.out).mono ?_
  rintro e w1 ⟨rfl, rfl⟩
  go_wp2_with fail
  refine (orNone_any HQ.out).mono ?_
  rintro e w2 ⟨rfl, rfl⟩
  go_wp2_with fail
  refine (H1.out _ HP.out).mono ?_
  rintro e w3 ⟨rfl, b3⟩
  go_wp2_with fail
  refine (H2.out _ (HQ.out.later b3)).mono ?_
  rintro e w3b ⟨rfl, b3b⟩
  have g3 := b3.trans (b3b.mono b3.size)
  go_wp2_with fail
  refine (H3.out _ (HQ.out.later g3)).mono ?_
  rintro e w4 ⟨rfl, b4⟩
  have g4 := g3.trans (b4.mono g3.size)
  clear b3 b3b b4 g3 H1 H2 H3
  go_wp2_with fail
  refine (H4.out _ (HP.out.later g4)).mono ?_
  rintro e w5 ⟨xv, gx, rfl, tx, lx, b5⟩
  have g5 := g4.trans (b5.mono g4.size)
  have hs45 := b5.size
  have TX := Hid.mk7 tx
  clear tx b5
  go_wp2_with fail
  refine (H5.out _ (HQ.out.later g5)).mono ?_
  rintro e w6 ⟨yv, gy, rfl, ty, ly, b6⟩
  have g6 := g5.trans (b6.mono g5.size)
  have hs56 := b6.size
  have hs24 := g4.size
  have TX6 : Hid (Tl w6 w4.heap.size gx xv (rle L)) := ⟨fun h => (TX.out.1 h).later b6, TX.out.2⟩
  have TY6 := Hid.mk7 ty
  clear ty b6 TX H4 H5 g4 g5 d0
  go_wp2
  go_loopw [6, 7, 8] (fun rv xv yv wr => ∃ xs ys done, Hid (Te L M w2 w4.heap.size w5.heap.size w6.heap.size gx gy wr rv xv yv xs ys done)) (fun _ xv yv _ => slen xv + slen yv)
  case atStart =>
    exact ⟨rle L, rle M, [], ⟨⟨TX6.out, TY6.out, Own.nil _ _, g6, Nat.le_refl _⟩, by rw [xp_rle, xp_rle]; rfl, by rw [xp_rle, xp_rle]; exact HLEN.out, fun r hr => rle_pos hr, fun r hr => rle_pos hr, by rw [xp_rle]; exact HOL.out.2, by rw [xp_rle]; exact HOM.out.2, by rw [xp_rle]; exact HOL.out.1, by rw [xp_rle]; exact Nat.le_refl _⟩⟩
  case round =>
    clear TX6 TY6 g6
    obtain ⟨xs, ys, done, HT⟩ := hrel
    by_cases hy : ys = []
    · subst hy
      obtain ⟨a, cap, rfl⟩ := HT.out.tm.ty.2 rfl
      have HD : Hid (expd L M = done) := by have := HT.out.eq; rw [show expd (xp xs) (xp []) = [] from by cases xp xs <;> rfl, List.append_nil] at this; exact this
      have HOF : Hid (Calls Tryd.prog 19 #[u6] wr fun e w' => Out8 (expd L M) e w' ∧ Below wr.heap.size wr w') := by
        have h1 := HT.out.tm.own.row
        rw [← HD.out] at h1
        exact of_any8 h1 HOK.out
      have g7 := HT.out.tm.be
      clear HT HD
      go_wp2_with fail
      refine HOF.out.mono ?_
      rintro e w7 ⟨ho, b7⟩
      have g8 := g7.trans (b7.mono g7.size)
      rcases ho with ⟨hm, rfl⟩ | ⟨hm, pr, rfl, hs⟩
      · go_wp2
        go_ret2
        exact ⟨Or.inl ⟨hm, rfl⟩, g8⟩
      · have HS := Hid.mk7 hs
        clear hs
        go_wp2
        go_ret2
        exact ⟨Or.inr ⟨hm, pr, rfl, HS.out⟩, g8⟩
    · obtain ⟨m2, c2, ys, rfl⟩ : ∃ m c qs, ys = (m, c) :: qs := by cases ys with | nil => exact absurd rfl hy | cons r qs => exact ⟨r.1, r.2, qs, rfl⟩
      have hm2 : 1 ≤ m2 := HT.out.py (m2, c2) (by simp)
      obtain ⟨i2, l2⟩ := xp_head_in (rs := ys) (c := c2) hm2
      have hc2 := HT.out.my c2 i2
      have hly := HT.out.ly
      have hMl := HOM.out.1
      have hm2' : m2 ≤ 20000 := by omega
      have hys : ys.length ≤ 20000 := by
        have := sgs_len HT.out.py
        simp only [List.length_cons] at this
        omega
      have tky := HT.out.tm.ty.1 (by simp)
      have hgy := tky.lt.1
      obtain ⟨ay, capy, rfl⟩ := tky.shape
      obtain ⟨offy, rfl, _, y0, y1⟩ := tky.cells
      have hdl := te_done HOM.out HT.out.eq
      simp only [List.length_cons] at *
      by_cases hc0 : c2 = 0
      · subst hc0
        obtain ⟨m1, c1, xs, rfl⟩ : ∃ m c qs, xs = (m, c) :: qs := by
          refine xp_cons_of fun e => ?_
          have := HT.out.len
          rw [e, show xp ((m2, 0) :: ys) = List.replicate m2.toNat 0 ++ xp ys from rfl, zrc_append, zrc_rep0] at this
          simp only [List.length_nil] at this
          omega
        have hm1 : 1 ≤ m1 := HT.out.px (m1, c1) (by simp)
        obtain ⟨i1, l1⟩ := xp_head_in (rs := xs) (c := c1) hm1
        have hlx := HT.out.lx
        have hm1' : m1 ≤ 20000 := by omega
        have hxs : xs.length ≤ 20000 := by
          have := sgs_len HT.out.px
          simp only [List.length_cons] at this
          omega
        have tkx := HT.out.tm.tx.1 (by simp)
        obtain ⟨ax, capx, rfl⟩ := tkx.shape
        obtain ⟨offx, rfl, _, x0, x1⟩ := tkx.cells
        simp only [List.length_cons] at *
        obtain ⟨n, hn⟩ : ∃ n, n = min m2 m1 := ⟨_, rfl⟩
        have HN : Hid (1 ≤ n ∧ n ≤ m1 ∧ n ≤ m2 ∧ (m1 = n ∨ m2 = n)) := by show _ ∧ _; omega
        have HGO : Hid (∀ W rv' xv' yv', Tm w2 w4.heap.size w5.heap.size w6.heap.size gx gy W rv' xv' yv' (less m1 c1 n xs) (less m2 0 n ys) (done ++ List.replicate n.toNat c1) → Te L M w2 w4.heap.size w5.heap.size w6.heap.size gx gy W rv' xv' yv' (less m1 c1 n xs) (less m2 0 n ys) (done ++ List.replicate n.toNat c1)) := fun W rv' xv' yv' h => by
          obtain ⟨q1, q2, q3, q4⟩ := HN.out
          have e1 := len_part (c := c1) (rs := xs) (by omega : 0 ≤ n) q2
          have e2 := len_part (c := 0) (rs := ys) (by omega : 0 ≤ n) q3
          refine ⟨h, ?_, ?_, less_pos q2 HT.out.px, less_pos q3 HT.out.py, fun c hc => HT.out.mx c (xp_less_mem (by omega) q2 hc), fun c hc => HT.out.my c (xp_less_mem (by omega) q3 hc), ?_, ?_⟩
          · rw [HT.out.eq, expd_part0 (by omega : 0 ≤ n) q2 q3, List.append_assoc]
          · have e3 := HT.out.len
            rw [xp_part (by omega : 0 ≤ n) q3, zrc_append, zrc_rep0] at e3
            omega
          · omega
          · omega
        have HM : Hid ((less m1 c1 n xs).length + (less m2 0 n ys).length < xs.length + 1 + (ys.length + 1)) := by
          show _ < _
          have e1 := less_len m1 c1 n xs
          have e2 := less_len m2 0 n ys
          rcases HN.out.2.2.2 with h | h
          · have := e1.2 h; omega
          · have := e2.2 h; omega
        have HTM := Hid.mk7 HT.out.tm
        clear tkx tky i1 i2 l1 l2 hlx hly hMl hy HT hn
        obtain ⟨q1, q2, q3, q4⟩ := HN.out
        rcases (show n = m2 ∧ m2 ≤ m1 ∨ n = m1 ∧ m1 < m2 from by omega) with ⟨rfl, hmin⟩ | ⟨rfl, hmin⟩
        all_goals
          clear q4
          go_wp2
          go_quiet (fail)
          have HT2 := Hid.mk7 (HTM.out.grown (below_drewN (Below.refl _ _) nq))
          clear x0 x1 y0 y1 HTM
          generalize wr.drewN nq = W at *
          go_wp2_with fail
          refine (tm_tx HT2.out (by omega) (by omega) (by omega) n (by omega) (by omega) (by omega) (by omega)).mono ?_
          rintro e W3 ⟨xv3, rfl, sx3, t3⟩
          have HT3 := Hid.mk7 t3
          have SX3 := Hid.mk7 sx3
          clear t3 sx3 HT2
          go_wp2_with fail
          refine (tm_ty HT3.out (by omega) (by omega) (by omega) n (by omega) (by omega) (by omega) (by omega)).mono ?_
          rintro e W4 ⟨yv4, rfl, sy4, t4⟩
          have HT4 := Hid.mk7 t4
          have SY4 := Hid.mk7 sy4
          clear t4 sy4 HT3
          go_wp2_with fail
          refine (tm_add HT4.out (by omega) (by omega) (by omega) n c1 (by omega) (by omega) (by omega)).mono ?_
          rintro e W5 ⟨rv5, rfl, t5⟩
          have HT5 := Hid.mk7 t5
          clear t5 HT4
          go_wp2
          go_roundw
          case rel => exact ⟨_, _, _, HGO.out _ _ _ _ HT5.out⟩
          case measure => rw [SX3.out, SY4.out]; exact HM.out
      · have HSX : Hid (∃ z, z = slen u7) := ⟨_, rfl⟩
        have dz : (c2 == 0) = false := by simpa using hc0
        have hle : less m2 c2 m2 ys = ys := if_pos rfl
        have HLE := Hid.mk7 hle
        have HGO : Hid (∀ W rv' yv', Tm w2 w4.heap.size w5.heap.size w6.heap.size gx gy W rv' u7 yv' xs ys (done ++ List.replicate m2.toNat 0) → Te L M w2 w4.heap.size w5.heap.size w6.heap.size gx gy W rv' u7 yv' xs ys (done ++ List.replicate m2.toNat 0)) := fun W rv' yv' h => by
          have e2 := len_part (c := c2) (rs := ys) (by omega : 0 ≤ m2) (Int.le_refl m2)
          rw [hle] at e2
          have e4 : xp ((m2, c2) :: ys) = List.replicate m2.toNat c2 ++ xp ys := rfl
          refine ⟨h, ?_, ?_, HT.out.px, fun r hr => HT.out.py r (List.mem_cons_of_mem _ hr), HT.out.mx, fun c hc => HT.out.my c (by rw [e4]; exact List.mem_append.2 (Or.inr hc)), HT.out.lx, by omega⟩
          · rw [HT.out.eq, expd_part1 hc0, List.append_assoc]
          · have e3 := HT.out.len
            rw [e4, zrc_append, zrc_rep _ hc0] at e3
            omega
        have HTM := Hid.mk7 HT.out.tm
        clear tky i2 l2 hly hMl hy HT hle hc0
        go_wp2_with fail
        refine (tm_ty HTM.out (by omega) (by omega) (by omega) m2 (by omega) (by omega) (by omega) (by omega)).mono ?_
        rintro e W4 ⟨yv4, rfl, sy4, t4⟩
        rw [HLE.out] at sy4 t4
        have HT4 := Hid.mk7 t4
        have SY4 := Hid.mk7 sy4
        clear t4 sy4 HTM
        go_wp2_with fail
        refine (tm_add HT4.out (by omega) (by omega) (by omega) m2 0 (by omega) (by omega) (by omega)).mono ?_
        rintro e W5 ⟨rv5, rfl, t5⟩
        have HT5 := Hid.mk7 t5
        clear t5 HT4
        go_wp2
        go_roundw
        case rel => exact ⟨_, _, _, HGO.out _ _ _ HT5.out⟩
        case measure => rw [SY4.out]; show slen u7 + ys.length < slen u7 + (ys.length + 1); omega
end Go.Proofs.YtalolaajcmndeaaDoor
