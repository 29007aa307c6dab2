/- algebra's together: two rows place by place. -/
import Derived.Test.YtkiiknaoljppdaaAlgMath
namespace Go.Proofs.Ytkiiknaoljppdaa
open Go.RowKit Go.Sort
set_option linter.unusedSimpArgs false
set_option linter.unusedVariables false

def slen : Value → Nat
  | .slice _ n _ => n
  | _ => 0
def In8 (c : Int) : Prop := 0 ≤ c ∧ c ≤ 100
/-- What is left of a row, or nothing. -/
def Tl (w : World) (B g : Nat) (v : Value) (rs : List Sg) : Prop := (rs ≠ [] → Tk w B g v rs) ∧ (rs = [] → ∃ a cap, v = .slice a 0 cap)
theorem Tl.kept {w w' : World} {B g : Nat} {v : Value} {rs : List Sg} (h : Tl w B g v rs) {row : Option Nat} (hg : w.grownBy w' row) (hne : some g ≠ row) : Tl w' B g v rs :=
  ⟨fun e => (h.1 e).kept hg hne, h.2⟩
theorem tl_less {w : World} {B g : Nat} {v : Value} {rs : List Sg} (h : Tk w B g v rs) : Tl w B g v rs :=
  ⟨fun _ => h, fun e => by obtain ⟨a, cap, e2⟩ := h.shape; subst e; exact ⟨a, cap, e2⟩⟩

/-- Segs of a subset: what is left of it is all. -/
theorem segs_tl {w : World} {p : Value} {L : List Int} (h : Sub w p L) (hl : L.length ≤ 20000) : Calls Try.prog 41 #[p] w fun e w' => ∃ v g, e = .returned v ∧ Tl w' w.heap.size g v (rle L) ∧ (L ≠ [] → g < w'.heap.size) ∧ Below w.heap.size w w' := by
  refine (segs_own h (by omega)).mono ?_
  rintro e w' ⟨v, rfl, ho, b⟩
  obtain ⟨a, cap, rfl, hc, hg⟩ := own_shape ho
  by_cases hL : L = []
  · subst hL
    exact ⟨_, 0, rfl, ⟨fun h => absurd rfl h, fun _ => ⟨a, cap, rfl⟩⟩, fun h => absurd rfl h, b⟩
  · have hne : rle L ≠ [] := fun e => hL (by rw [← xp_rle L, e]; rfl)
    obtain ⟨g, rfl⟩ := hg hne
    have t : Tk w' w.heap.size g (.slice (some ⟨g, 0, none⟩) (rle L).length cap) (rle L) := ⟨rle L, 0, cap, _, ho, hc, Nat.zero_le _, rfl, rfl, fun _ => rfl⟩
    exact ⟨_, g, rfl, tl_less t, fun _ => t.lt.2, b⟩
set_option maxHeartbeats 1600000 in
set_option maxRecDepth 100000 in
theorem together_len {w : World} {p q t : Value} {L M : List Int} (hp : Sub w p L) (hq : Sub w q M) (hL : L.length ≤ 20000) (hM : M.length ≤ 20000) (hne : L.length ≠ M.length) :
    Calls Try.prog 34 #[p, q, t] w fun e w' => e = .returned (.tuple #[.pointer none, .int .i64 80]) ∧ Below w.heap.size w w' := by
  have HP := Hid.mk7 hp
  have HQ := Hid.mk7 hq
  have H1 : Hid (∀ W, Sub W p L → Calls Try.prog 32 #[p] W fun e w' => e = .returned (.int .i64 (L.length : Nat)) ∧ Below W.heap.size W w') := fun W h => len_any7 h (by omega)
  have H2 : Hid (∀ W, Sub W q M → Calls Try.prog 32 #[q] W fun e w' => e = .returned (.int .i64 (M.length : Nat)) ∧ Below W.heap.size W w') := fun W h => len_any7 h (by omega)
  have d0 : ((L.length : Int) != (M.length : Int)) = true := by simp; omega
  have d1 : (L.length != M.length) = true := by simpa using hne
  clear hp hq hne
  go_enter Try.func34, Try.ntmps34
  go_wp2_with fail
  refine (orNone_any HP.out).mono ?_
  rintro e w1 ⟨rfl, rfl⟩
  go_wp2_with fail
  refine (orNone_any HQ.out).mono ?_
  rintro e w2 ⟨rfl, rfl⟩
  go_wp2_with fail
  refine (H1.out _ HP.out).mono ?_
  rintro e w3 ⟨rfl, b3⟩
  go_wp2_with fail
  refine (H2.out _ (HQ.out.later b3)).mono ?_
  rintro e w4 ⟨rfl, b4⟩
  have g4 := b3.trans (b4.mono b3.size)
  go_wp2
  go_ret2
  exact ⟨rfl, g4⟩

theorem ok8_done {f : Int → Int → Int} {L M done A B : List Int} (hL : Ok8 L) (h : tog f L M = done ++ tog f A B) : done.length ≤ 20000 := by
  have := congrArg List.length h
  rw [List.length_append] at this
  have := tog_len f L M
  have := hL.1
  omega
theorem ok8_tog {f : Int → Int → Int} {L M : List Int} (hL : Ok8 L) (hM : Ok8 M) (hf : ∀ a b, In8 a → In8 b → f a b = -1 ∨ In8 (f a b)) : Ok8 (tog f L M) := by
  refine ⟨Nat.le_trans (tog_len f L M) hL.1, fun c hc => ?_⟩
  obtain ⟨a, b, ha, hb, rfl, hn⟩ := tog_mem hc
  rcases hf a b (hL.2 a ha) (hM.2 b hb) with h | h
  · exact absurd h hn
  · exact h
/-- Two rows that are gone through, and one that grows. -/
structure Tm (w : World) (B1 B2 B3 gx gy : Nat) (wr : World) (rv xv yv : Value) (xs ys : List Sg) (done : List Int) : Prop where
  tx : Tl wr B1 gx xv xs
  ty : Tl wr B2 gy yv ys
  own : Own wr B3 rv (rle done)
  be : Below w.heap.size w wr
  sz : B3 ≤ wr.heap.size
theorem Tm.grown {w : World} {B1 B2 B3 gx gy : Nat} {wr w' : World} {rv xv yv : Value} {xs ys : List Sg} {done : List Int} (h : Tm w B1 B2 B3 gx gy wr rv xv yv xs ys done) (hg : Below wr.heap.size wr w') : Tm w B1 B2 B3 gx gy w' rv xv yv xs ys done :=
  ⟨h.tx.kept (grown_below hg none) (by simp), h.ty.kept (grown_below hg none) (by simp), h.own.later hg, h.be.trans (hg.mono h.be.size), Nat.le_trans h.sz hg.size⟩
theorem tm_add {w : World} {B1 B2 B3 gx gy : Nat} {wr : World} {rv xv yv : Value} {xs ys : List Sg} {done : List Int} (h : Tm w B1 B2 B3 gx gy wr rv xv yv xs ys done) (hw : w.heap.size ≤ B3) (hx : gx < B3) (hy : gy < B3) (n c : Int) (hn : 1 ≤ n) (hn2 : n ≤ 20000) (hd : done.length ≤ 20000) :
    Calls Try.prog 43 #[rv, .int .i64 n, .int .i64 c] wr fun e w' => ∃ rv', e = .returned rv' ∧ Tm w B1 B2 B3 gx gy w' rv' xv yv xs ys (done ++ List.replicate n.toNat c) := by
  refine (aadd_any B3 rv done n c wr h.sz (by omega) hn (by omega) h.own).mono ?_
  rintro e w' ⟨rv', rfl, o', g'⟩
  refine ⟨rv', rfl, h.tx.kept g' ?_, h.ty.kept g' ?_, o', h.be.grown g' h.be.size ?_, Nat.le_trans h.sz g'.size⟩
  · intro e; have := (h.own.lt _ e.symm).1; omega
  · intro e; have := (h.own.lt _ e.symm).1; omega
  · intro j hj; have := (h.own.lt _ hj).1; omega
theorem tm_tx {w : World} {B1 B2 B3 gx gy : Nat} {wr : World} {rv xv yv : Value} {xs ys : List Sg} {done : List Int} {m c : Int} (h : Tm w B1 B2 B3 gx gy wr rv xv yv ((m, c) :: xs) ys done) (hw : w.heap.size ≤ B1) (hx : gx < B3) (hxy : gx ≠ gy) (n : Int) (hn : 1 ≤ n) (hn2 : n ≤ m) (hm : m ≤ 20000) (hl : xs.length ≤ 20000) :
    Calls Try.prog 42 #[xv, .int .i64 n] wr fun e w' => ∃ xv', e = .returned xv' ∧ slen xv' = (less m c n xs).length ∧ Tm w B1 B2 B3 gx gy w' rv xv' yv (less m c n xs) ys done := by
  have tk := h.tx.1 (by simp)
  refine (taken_any m c n tk hn hn2 (by omega) (by omega)).mono ?_
  rintro e w' ⟨xv', rfl, t', g'⟩
  obtain ⟨a, cap, e⟩ := t'.shape
  refine ⟨xv', rfl, by rw [e]; rfl, tl_less t', h.ty.kept g' ?_, World.ownsRow.kept h.own g' ?_, h.be.grown g' h.be.size ?_, Nat.le_trans h.sz g'.size⟩
  · intro e; simp at e; exact hxy e.symm
  · by_cases hv : rv.ownBlock = none
    · exact Or.inl hv
    · refine Or.inr fun e => ?_
      have := (h.own.lt gx e).1
      omega
  · intro j hj; cases hj; have := tk.lt.1; omega
theorem tm_ty {w : World} {B1 B2 B3 gx gy : Nat} {wr : World} {rv xv yv : Value} {xs ys : List Sg} {done : List Int} {m c : Int} (h : Tm w B1 B2 B3 gx gy wr rv xv yv xs ((m, c) :: ys) done) (hw : w.heap.size ≤ B2) (hx : gy < B3) (hxy : gx ≠ gy) (n : Int) (hn : 1 ≤ n) (hn2 : n ≤ m) (hm : m ≤ 20000) (hl : ys.length ≤ 20000) :
    Calls Try.prog 42 #[yv, .int .i64 n] wr fun e w' => ∃ yv', e = .returned yv' ∧ slen yv' = (less m c n ys).length ∧ Tm w B1 B2 B3 gx gy w' rv xv yv' xs (less m c n ys) done := by
  have tk := h.ty.1 (by simp)
  refine (taken_any m c n tk hn hn2 (by omega) (by omega)).mono ?_
  rintro e w' ⟨yv', rfl, t', g'⟩
  obtain ⟨a, cap, e⟩ := t'.shape
  refine ⟨yv', rfl, by rw [e]; rfl, h.tx.kept g' ?_, tl_less t', World.ownsRow.kept h.own g' ?_, h.be.grown g' h.be.size ?_, Nat.le_trans h.sz g'.size⟩
  · intro e; simp at e; exact hxy e
  · by_cases hv : rv.ownBlock = none
    · exact Or.inl hv
    · refine Or.inr fun e => ?_
      have := (h.own.lt gy e).1
      omega
  · intro j hj; cases hj; have := tk.lt.1; omega
/-- What the loop hands on. -/
structure Tg (f : Int → Int → Int) (L M : List Int) (w : World) (B1 B2 B3 gx gy : Nat) (wr : World) (rv xv yv : Value) (xs ys : List Sg) (done : List Int) : Prop where
  tm : Tm w B1 B2 B3 gx gy wr rv xv yv xs ys done
  eq : tog f L M = done ++ tog f (xp xs) (xp ys)
  len : (xp xs).length = (xp ys).length
  px : ∀ r ∈ xs, 1 ≤ r.1
  py : ∀ r ∈ ys, 1 ≤ r.1
  mx : ∀ c ∈ xp xs, In8 c
  my : ∀ c ∈ xp ys, In8 c
  lx : (xp xs).length ≤ 20000
  ln : (xp xs).length ≤ L.length
theorem sgs_len {rs : List Sg} (h : ∀ r ∈ rs, 1 ≤ r.1) : rs.length ≤ (xp rs).length := by
  induction rs with
  | nil => simp
  | cons r rs ih =>
    have := ih (fun q hq => h q (List.mem_cons_of_mem _ hq))
    have := h r (by simp)
    simp [xp]
    omega

set_option maxHeartbeats 4000000 in
set_option maxRecDepth 100000 in
theorem together_any {w : World} {p q : Value} {L M : List Int} (f : Int → Int → Int) (F : FuncId) (hp : Sub w p L) (hq : Sub w q M) (hL : Ok8 L) (hM : Ok8 M) (hlen : L.length = M.length)
    (hf : ∀ a b, In8 a → In8 b → f a b = -1 ∨ In8 (f a b))
    (hE : ∀ (args : Array Value) (W : World), Sem.run Try.prog (callFunc F args) W = .ok (.enter F args) W)
    (hF : ∀ W a b, In8 a → In8 b → Calls Try.prog F #[.int .i64 a, .int .i64 b] W fun e w' => e = .returned (.int .i64 (f a b)) ∧ w' = W) :
    Calls Try.prog 34 #[p, q, .func (.func F) #[] #[]] w fun e w' => Out8 (tog f L M) e w' ∧ Below w.heap.size w w' := by
  have HP := Hid.mk7 hp
  have HQ := Hid.mk7 hq
  obtain ⟨N, hN⟩ : ∃ N : Nat, L.length = N := ⟨_, rfl⟩
  have hN2 : M.length = N := by omega
  have hNl : N ≤ 20000 := by have := hL.1; omega
  have H1 : Hid (∀ W, Sub W p L → Calls Try.prog 32 #[p] W fun e w' => e = .returned (.int .i64 (N : Nat)) ∧ Below W.heap.size W w') := fun W h => by have := len_any7 h (by omega); rw [hN] at this; exact this
  have H2 : Hid (∀ W, Sub W q M → Calls Try.prog 32 #[q] W fun e w' => e = .returned (.int .i64 (N : Nat)) ∧ Below W.heap.size W w') := fun W h => by have := len_any7 h (by omega); rw [hN2] at this; exact this
  have H3 : Hid (∀ W, Sub W p L → Calls Try.prog 41 #[p] W fun e w' => ∃ v g, e = .returned v ∧ Tl w' W.heap.size g v (rle L) ∧ (L ≠ [] → g < w'.heap.size) ∧ Below W.heap.size W w') := fun W h => segs_tl h hL.1
  have H4 : Hid (∀ W, Sub W q M → Calls Try.prog 41 #[q] W fun e w' => ∃ v g, e = .returned v ∧ Tl w' W.heap.size g v (rle M) ∧ (M ≠ [] → g < w'.heap.size) ∧ Below W.heap.size W w') := fun W h => segs_tl h hM.1
  have HOL := Hid.mk7 hL
  have HOM := Hid.mk7 hM
  have HLEN : Hid (L.length = M.length) := hlen
  have HFF := Hid.mk7 hF
  have HOK := Hid.mk7 (ok8_tog hL hM hf)
  have Hf := Hid.mk7 hf
  clear hp hq hlen hN hN2 hL hM hF hf
  go_enter Try.func34, Try.ntmps34
  go_wp2_with fail
  refine (orNone_any HP.out).mono ?_
  rintro e w1 ⟨rfl, rfl⟩
  go_wp2_with fail
  refine (orNone_any HQ.out).mono ?_
  rintro e w2 ⟨rfl, rfl⟩
  go_wp2_with fail
  refine (H1.out _ HP.out).mono ?_
  rintro e w3 ⟨rfl, b3⟩
  go_wp2_with fail
  refine (H2.out _ (HQ.out.later b3)).mono ?_
  rintro e w4 ⟨rfl, b4⟩
  have g4 := b3.trans (b4.mono b3.size)
  clear b3 b4 H1 H2
  go_wp2_with fail
  refine (H3.out _ (HP.out.later g4)).mono ?_
  rintro e w5 ⟨xv, gx, rfl, tx, lx, b5⟩
  have g5 := g4.trans (b5.mono g4.size)
  have hs45 := b5.size
  have TX := Hid.mk7 tx
  clear tx b5
  go_wp2_with fail
  refine (H4.out _ (HQ.out.later g5)).mono ?_
  rintro e w6 ⟨yv, gy, rfl, ty, ly, b6⟩
  have g6 := g5.trans (b6.mono g5.size)
  have TX6 : Hid (Tl w6 w4.heap.size gx xv (rle L)) := ⟨fun h => (TX.out.1 h).later b6, TX.out.2⟩
  have TY6 := Hid.mk7 ty
  have HNE : Hid (L ≠ [] → gx < w5.heap.size ∧ w5.heap.size ≤ gy ∧ gy < w6.heap.size) := fun h => by
    have hM : M ≠ [] := fun e => h (List.eq_nil_of_length_eq_zero (by rw [HLEN.out, e]; rfl))
    have hr : rle M ≠ [] := fun e => hM (by rw [← xp_rle M, e]; rfl)
    exact ⟨lx h, ((ty.1 hr).lt).1, ly hM⟩
  have hs56 := b6.size
  have hs245 : w2.heap.size ≤ w4.heap.size ∧ w4.heap.size ≤ w5.heap.size := ⟨g4.size, hs45⟩
  clear ty b6 TX lx ly H3 H4 g4 g5
  go_wp2
  go_loopw [8, 9, 10] (fun rv xv yv wr => ∃ xs ys done, Hid (Tg f L M w2 w4.heap.size w5.heap.size w6.heap.size gx gy wr rv xv yv xs ys done)) (fun _ xv yv _ => slen xv + slen yv)
  case atStart =>
    exact ⟨rle L, rle M, [], ⟨⟨TX6.out, TY6.out, Own.nil _ _, g6, Nat.le_refl _⟩, by rw [xp_rle, xp_rle]; rfl, by rw [xp_rle, xp_rle]; exact HLEN.out, fun r hr => rle_pos hr, fun r hr => rle_pos hr, by rw [xp_rle]; exact HOL.out.2, by rw [xp_rle]; exact HOM.out.2, by rw [xp_rle]; exact HOL.out.1, by rw [xp_rle]; exact Nat.le_refl _⟩⟩
  case round =>
    clear TX6 TY6 g6
    obtain ⟨xs, ys, done, HT⟩ := hrel
    by_cases hx : xs = []
    · subst hx
      obtain ⟨a, cap, rfl⟩ := HT.out.tm.tx.2 rfl
      have hy : ys = [] := xp_nil_of HT.out.py (List.eq_nil_of_length_eq_zero (by rw [← HT.out.len]; rfl))
      subst hy
      have HD : Hid (tog f L M = done) := by have := HT.out.eq; rw [show tog f (xp []) (xp []) = [] from rfl, List.append_nil] at this; exact this
      have HOF : Hid (Calls Try.prog 33 #[u8] wr fun e w' => Out8 (tog f L M) e w' ∧ Below wr.heap.size wr w') := by
        have h1 := HT.out.tm.own.row
        rw [← HD.out] at h1
        exact of_any8 h1 HOK.out
      have g7 := HT.out.tm.be
      clear HT HD
      go_wp2_with fail
      refine HOF.out.mono ?_
      rintro e w7 ⟨ho, b7⟩
      have g8 := g7.trans (b7.mono g7.size)
      rcases ho with ⟨hm, rfl⟩ | ⟨hm, pr, rfl, hs⟩
      · go_wp2
        go_ret2
        exact ⟨Or.inl ⟨hm, rfl⟩, g8⟩
      · have HS := Hid.mk7 hs
        clear hs
        go_wp2
        go_ret2
        exact ⟨Or.inr ⟨hm, pr, rfl, HS.out⟩, g8⟩
    · obtain ⟨m1, c1, xs, rfl⟩ : ∃ m c qs, xs = (m, c) :: qs := by cases xs with | nil => exact absurd rfl hx | cons r qs => exact ⟨r.1, r.2, qs, rfl⟩
      have hm1 : 1 ≤ m1 := HT.out.px (m1, c1) (by simp)
      obtain ⟨i1, l1⟩ := xp_head_in (rs := xs) (c := c1) hm1
      obtain ⟨m2, c2, ys, rfl⟩ : ∃ m c qs, ys = (m, c) :: qs := by
        refine xp_cons_of fun e => ?_
        have := HT.out.len
        rw [e] at this
        simp only [List.length_nil] at this
        omega
      have hm2 : 1 ≤ m2 := HT.out.py (m2, c2) (by simp)
      obtain ⟨i2, l2⟩ := xp_head_in (rs := ys) (c := c2) hm2
      have hc1 := HT.out.mx c1 i1
      have hc2 := HT.out.my c2 i2
      have hl := HT.out.lx
      have hl2 := HT.out.len
      have hm1' : m1 ≤ 20000 := by omega
      have hm2' : m2 ≤ 20000 := by omega
      have tkx := HT.out.tm.tx.1 (by simp)
      have tky := HT.out.tm.ty.1 (by simp)
      obtain ⟨ax, capx, rfl⟩ := tkx.shape
      obtain ⟨ay, capy, rfl⟩ := tky.shape
      obtain ⟨offx, rfl, _, x0, x1⟩ := tkx.cells
      obtain ⟨offy, rfl, _, y0, y1⟩ := tky.cells
      simp only [List.length_cons] at *
      have hz := Hf.out c1 c2 hc1 hc2
      have hLne : L ≠ [] := fun e => by
        have := HT.out.ln
        rw [e] at this
        simp only [List.length_nil] at this
        omega
      obtain ⟨n1, n2, n3⟩ := HNE.out hLne
      obtain ⟨n, hn⟩ : ∃ n, n = min m1 m2 := ⟨_, rfl⟩
      have HN : Hid (1 ≤ n ∧ n ≤ m1 ∧ n ≤ m2 ∧ (m1 = n ∨ m2 = n)) := by show _ ∧ _; omega
      have HEQ := Hid.mk7 (tog_part f (c1 := c1) (c2 := c2) (xs := xs) (ys := ys) (by have := HN.out; omega : 0 ≤ n) HN.out.2.1 HN.out.2.2.1)
      have HCL : Hid (∀ W : World, ∀ d os, Calls Try.prog F #[.int .i64 c1, .int .i64 c2] (grow (redrawn W d) os) fun e w'' => e = .returned (.int .i64 (f c1 c2)) ∧ ∃ p : Regrown, w'' = grow (redrawn W p.d) p.os) := fun W d os => (HFF.out _ c1 c2 hc1 hc2).mono fun e w' h => ⟨h.1, ⟨d, os⟩, h.2⟩
      have hdl := ok8_done HOL.out HT.out.eq
      have hws : w2.heap.size ≤ w4.heap.size ∧ w4.heap.size ≤ w5.heap.size := hs245
      have hlx : xs.length ≤ 20000 := by
        have := sgs_len HT.out.px
        simp only [List.length_cons] at this
        omega
      have hly : ys.length ≤ 20000 := by
        have := sgs_len HT.out.py
        simp only [List.length_cons] at this
        omega
      have HGO : Hid (∀ W rv' xv' yv' done', Tm w2 w4.heap.size w5.heap.size w6.heap.size gx gy W rv' xv' yv' (less m1 c1 n xs) (less m2 c2 n ys) done' → done' = done ++ (if f c1 c2 = -1 then [] else List.replicate n.toNat (f c1 c2)) → Tg f L M w2 w4.heap.size w5.heap.size w6.heap.size gx gy W rv' xv' yv' (less m1 c1 n xs) (less m2 c2 n ys) done') := fun W rv' xv' yv' done' h e => by
        obtain ⟨q1, q2, q3, q4⟩ := HN.out
        refine ⟨h, ?_, ?_, less_pos q2 HT.out.px, less_pos q3 HT.out.py, fun c hc => HT.out.mx c (xp_less_mem (by omega) q2 hc), fun c hc => HT.out.my c (xp_less_mem (by omega) q3 hc), ?_, ?_⟩
        · rw [HT.out.eq, HEQ.out, e, List.append_assoc]
        · have e1 := len_part (c := c1) (rs := xs) (by omega : 0 ≤ n) q2
          have e2 := len_part (c := c2) (rs := ys) (by omega : 0 ≤ n) q3
          omega
        · have e1 := len_part (c := c1) (rs := xs) (by omega : 0 ≤ n) q2
          omega
        · have e1 := len_part (c := c1) (rs := xs) (by omega : 0 ≤ n) q2
          have e2 := HT.out.ln
          omega
      have HM : Hid ((less m1 c1 n xs).length + (less m2 c2 n ys).length < xs.length + 1 + (ys.length + 1)) := by
        show _ < _
        have e1 := less_len m1 c1 n xs
        have e2 := less_len m2 c2 n ys
        rcases HN.out.2.2.2 with h | h
        · have := e1.2 h; omega
        · have := e2.2 h; omega
      have HTM := Hid.mk7 HT.out.tm
      clear tkx tky i1 i2 l1 l2 hl hl2 hx HEQ HT hn
      generalize f c1 c2 = z at *
      obtain ⟨q1, q2, q3, q4⟩ := HN.out
      rcases (show n = m1 ∧ m1 ≤ m2 ∨ n = m2 ∧ m2 < m1 from by omega) with ⟨rfl, hmin⟩ | ⟨rfl, hmin⟩
      all_goals
        clear q4
        go_wp2
        go_quiet (fail)
        go_wp2
        have HT2 := Hid.mk7 (HTM.out.grown (below_drewN (Below.refl _ _) nq))
        have x0' : (wr.drewN nq).cell? ⟨gx, offx, none⟩ = _ := x0
        have x1' : (wr.drewN nq).cell? ⟨gx, offx + 1, none⟩ = _ := x1
        have y0' : (wr.drewN nq).cell? ⟨gy, offy, none⟩ = _ := y0
        have y1' : (wr.drewN nq).cell? ⟨gy, offy + 1, none⟩ = _ := y1
        clear x0 x1 y0 y1 HTM
        generalize wr.drewN nq = W at *
        have z0 := cell_regrown x1'
        have z1 := cell_regrown y1'
        have CC := Hid.mk7 (HCL.out W)
        clear x0' x1' y0' y1' HCL
        refine wp_region_quiet_below (by kernel_rfl) (by kernel_rfl) ?_
        repeat (go_big_quiet_step (exact CC.out _ _))
        refine wpQuiet_nil ?_
        intro _ hw'
        obtain ⟨⟨dq, osq⟩, hw''⟩ := hw'
        subst hw''
        have HT3 := Hid.mk7 (HT2.out.grown (below_regrown W dq osq))
        clear z0 z1 CC HT2
        generalize grow (redrawn W dq) osq = W3 at *
        by_cases hz1 : z = -1
        · have dz : (z != -1) = false := by rw [hz1]; rfl
          have HD : Hid ((if z = -1 then ([] : List Int) else List.replicate n.toNat z) = []) := if_pos hz1
          clear hz1 hz
          go_wp2_with fail
          refine (tm_tx HT3.out (by omega) (by omega) (by omega) n (by omega) (by omega) (by omega) (by omega)).mono ?_
          rintro e W4 ⟨xv4, rfl, sx4, t4⟩
          have HT4 := Hid.mk7 t4
          have SX4 := Hid.mk7 sx4
          clear t4 sx4 HT3
          go_wp2_with fail
          refine (tm_ty HT4.out (by omega) (by omega) (by omega) n (by omega) (by omega) (by omega) (by omega)).mono ?_
          rintro e W5 ⟨yv5, rfl, sy5, t5⟩
          have HT5 := Hid.mk7 t5
          have SY5 := Hid.mk7 sy5
          clear t5 sy5 HT4
          go_wp2
          go_roundw
          case rel => exact ⟨_, _, _, HGO.out _ _ _ _ _ HT5.out (by rw [HD.out]; simp)⟩
          case measure => rw [SX4.out, SY5.out]; exact HM.out
        · have dz : (z != -1) = true := by simpa using hz1
          have HD : Hid ((if z = -1 then ([] : List Int) else List.replicate n.toNat z) = List.replicate n.toNat z) := if_neg hz1
          clear hz1 hz
          go_wp2_with fail
          refine (tm_add HT3.out (by omega) (by omega) (by omega) n z (by omega) (by omega) (by omega)).mono ?_
          rintro e W3a ⟨rv3, rfl, t3⟩
          have HT3a := Hid.mk7 t3
          clear t3 HT3
          go_wp2_with fail
          refine (tm_tx HT3a.out (by omega) (by omega) (by omega) n (by omega) (by omega) (by omega) (by omega)).mono ?_
          rintro e W4 ⟨xv4, rfl, sx4, t4⟩
          have HT4 := Hid.mk7 t4
          have SX4 := Hid.mk7 sx4
          clear t4 sx4 HT3a
          go_wp2_with fail
          refine (tm_ty HT4.out (by omega) (by omega) (by omega) n (by omega) (by omega) (by omega) (by omega)).mono ?_
          rintro e W5 ⟨yv5, rfl, sy5, t5⟩
          have HT5 := Hid.mk7 t5
          have SY5 := Hid.mk7 sy5
          clear t5 sy5 HT4
          go_wp2
          go_roundw
          case rel => exact ⟨_, _, _, HGO.out _ _ _ _ _ HT5.out (by rw [HD.out])⟩
          case measure => rw [SX4.out, SY5.out]; exact HM.out
end Go.Proofs.Ytkiiknaoljppdaa
