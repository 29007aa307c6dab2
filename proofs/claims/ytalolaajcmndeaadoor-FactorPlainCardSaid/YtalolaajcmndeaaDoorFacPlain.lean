/- FactorPlain walked. -/
import Derived.Test.YtalolaajcmndeaaDoorFacKnown
import Derived.Test.YtalolaajcmndeaaDoorFacSpl
import Derived.Test.YtalolaajcmndeaaDoorTurnsP
namespace Go.Proofs.YtalolaajcmndeaaDoor
open Go.RowKit Go.Sort Go.Lib
set_option linter.unusedSimpArgs false
set_option linter.unusedVariables false

theorem tx_len (T : List UInt8) : (tx T).length ≤ 1 := by unfold tx; split <;> simp
theorem elG_len {base : Int} : ∀ (l : List El) (txt : List UInt8) (en : Int), (elG base txt en l).length ≤ 2 * l.length + 2
  | [], txt, en => by
    have := tx_len txt
    simp only [elG, List.length_append]
    split <;> simp <;> omega
  | (f, t, T) :: l, txt, en => by
    simp only [elG]
    split
    · have := elG_len (base := base) l txt en; simp only [List.length_cons]; omega
    · split
      · have := elG_len (base := base) l T t
        have := tx_len txt
        simp only [List.length_append, List.length_cons]; omega
      · have := elG_len (base := base) l (txt ++ T) t; simp only [List.length_cons]; omega
/-- What the law asks of the first half: the text alone. -/
structure Pa (N : Nat) (P : List El) (L : List Int) : Prop where
  len : P.length ≤ 60
  is : isB N P = true
  fit : (N : Int) + inS P ≤ 20000
  self : insE N P = P
  gon : gon N 0 P = L
  none : decide (szc L = 0) = true
  ll : (L.length : Int) = N
  l2 : L.length ≤ 20000
structure Pq (N a b : Nat) (Q K : List El) (L : List Int) : Prop where
  len : Q.length ≤ 60
  is : isB N Q = true
  fit : (N : Int) + inS Q ≤ 20000
  half : insE N Q = K
  gon : gon N 0 Q = L
  size : (szc L : Int) = (b : Int) - (a : Int)
  ll : (L.length : Int) = N
  l2 : L.length ≤ 20000
  ok : Ok8 L
  rl : (rle L).length ≤ 600
  kl : K.length ≤ 60
  kis : isB N K = true
  kcp : cpS K = N
  back : tld (fil L (cel K)) = Q
theorem flt_one {N a b : Nat} {T : List UInt8} (hN : N ≤ 100) (hab : a ≤ b) (hb : b ≤ N) (hT : T.length ≤ 40) (hv : vld T = true) : flt N [((a : Int), (b : Int), T)] = 0 := by
  unfold flt
  have h1 : wthB N [((a : Int), (b : Int), T)] = true := by
    show (wthE N ((a : Int), (b : Int), T) && true) = true
    rw [show wthE N ((a : Int), (b : Int), T) = true from decide_eq_true ⟨by simp only; omega, by simp only; omega, by simp only; omega⟩]; rfl
  have h2 : ordB [((a : Int), (b : Int), T)] = true := rfl
  have h3 : vldB [((a : Int), (b : Int), T)] = true := by show (vld T && true) = true; rw [hv]; rfl
  rw [h1, h2, h3, decide_eq_true (show (0 : Int) ≤ (N : Int) ∧ (N : Int) ≤ 20000 by omega)]
  simp [sz8]
  omega
theorem flt_bad {N a : Nat} {T : List UInt8} (hN : N ≤ 100) (hb : a ≤ N) (hv : vld T = false) : flt N [((a : Int), (a : Int), T)] = 12 := by
  unfold flt
  have h1 : wthB N [((a : Int), (a : Int), T)] = true := by
    show (wthE N ((a : Int), (a : Int), T) && true) = true
    rw [show wthE N ((a : Int), (a : Int), T) = true from decide_eq_true ⟨by simp only; omega, by simp only; omega, by simp only; omega⟩]; rfl
  have h2 : ordB [((a : Int), (a : Int), T)] = true := rfl
  have h3 : vldB [((a : Int), (a : Int), T)] = false := by show (vld T && true) = false; rw [hv]; rfl
  rw [h1, h2, h3, decide_eq_true (show (0 : Int) ≤ (N : Int) ∧ (N : Int) ≤ 20000 by omega)]
  rfl
theorem inS_one (a b : Int) (T : List UInt8) : inS [(a, b, T)] = T.length := by simp [inS]
theorem pa_of {N a : Nat} {T : List UInt8} (hN : N ≤ 100) (hb : a ≤ N) (hT : T.length ≤ 40) (hv : vld T = true) : ∃ L, Pa N (elG N [] 0 [((a : Int), (a : Int), T)]) L := by
  have hf := flt_one hN (Nat.le_refl a) hb hT hv
  have hl := elG_len (base := (N : Int)) [((a : Int), (a : Int), T)] [] 0
  simp only [List.length_cons, List.length_nil] at hl
  have his := isB_elG hf (by omega)
  have gd := gd_of hf
  have hin : inS (elG N [] 0 [((a : Int), (a : Int), T)]) = T.length := by rw [inS_elGF, inS_one]; simp
  have hcp : cpS (elG N [] 0 [((a : Int), (a : Int), T)]) = N := by
    rw [cpS_elGF gd.ch, sz8_two]; simp [inS, cpS]
  have nm := (isB_spec.1 his).2.1
  have g1 := gon_len _ 0 0 (by omega) nm
  have g2 := gon_szc _ 0 0 (by omega) nm
  rw [hcp] at g2
  exact ⟨_, by omega, his, by rw [hin]; omega, insE_self his hcp, rfl, decide_eq_true (by omega), by omega, (gon_ok8 his).1⟩
theorem pq_of {N a b : Nat} (hN : N ≤ 100) (hab : a ≤ b) (hb : b ≤ N) : ∃ L, Pq N a b (elG N [] 0 [((a : Int), (b : Int), [])]) (elG N [] 0 []) L := by
  have hf := flt_one hN hab hb (T := []) (by simp) vld_nil
  have hl := elG_len (base := (N : Int)) [((a : Int), (b : Int), [])] [] 0
  have hl0 := elG_len (base := (N : Int)) [] [] 0
  simp only [List.length_cons, List.length_nil] at hl hl0
  have his := isB_elG hf (by omega)
  have gd := gd_of hf
  have hin : inS (elG N [] 0 [((a : Int), (b : Int), [])]) = 0 := by rw [inS_elGF, inS_one]; simp
  have hcp : cpS (elG N [] 0 [((a : Int), (b : Int), [])]) = (N : Int) - ((b : Int) - (a : Int)) := by
    rw [cpS_elGF gd.ch, sz8_two]; simp [inS, cpS]
  have nm := (isB_spec.1 his).2.1
  have g1 := gon_len _ 0 0 (by omega) nm
  have g2 := gon_szc _ 0 0 (by omega) nm
  rw [hcp] at g2
  have hf0 : flt N [] = 0 := by
    unfold flt
    rw [decide_eq_true (show (0 : Int) ≤ (N : Int) ∧ (N : Int) ≤ 20000 by omega)]
    simp [wthB, ordB, vldB, sz8]
    omega
  have gd0 := gd_of hf0
  have hk := isB_elG hf0 (by omega)
  have hcp0 : cpS (elG N [] 0 []) = N := by rw [cpS_elGF gd0.ch, sz8_two]; simp [inS, cpS]
  have hh : insE N (elG N [] 0 [((a : Int), (b : Int), [])]) = elG N [] 0 [] := by unfold insE; rw [insX_none _ 0 hin]
  have hj := (join_back his).2
  rw [hh] at hj
  have hr := gon_rle (base := (N : Int)) (elG N [] 0 [((a : Int), (b : Int), [])]) 0
  exact ⟨_, by omega, his, by rw [hin]; omega, hh, rfl, by omega, by omega, (gon_ok8 his).1, gon_ok8 his, by omega, by omega, hk, hcp0, hj⟩
theorem el_lit2 (W : World) (g : Nat) (hg : g = W.heap.size) (es : List El) (cells : Array Value) (e : TypeId) (hc : cells.toList = c3 es) (n : Nat) (hn : n = es.length) : ElAt (W.alloc (.cells cells e)) (.slice (some ⟨g, 0, none⟩) n n) es := by
  subst hg; exact el_lit W es cells e hc n hn
theorem z_is : isB 0 [] = true := by decide
set_option maxHeartbeats 3000000 in
set_option maxRecDepth 100000 in
theorem plain12_any (n fr tt : Int) (s : ByteArray) (hn : 0 ≤ n ∧ n ≤ 255) (hf : 0 ≤ fr ∧ fr ≤ 255) (ht : 0 ≤ tt ∧ tt ≤ 255) (hs : s.size ≤ maxLen) (w : World) (tb : Nat × Nat) (hT : Tab w tb) :
    Calls Tryd.prog 6 #[.int .u8 n, .int .u8 fr, .int .u8 tt, .string s] w fun e w' => e = .returned (.bool true) ∧ RowKit.Below w.heap.size w w' := by
  have HK := Hid.mk7 (known12_any w tb hT)
  have HT := Hid.mk7 hT
  clear hT
  by_cases hlong : 40 < s.size
  · have t1 : decide ((40 : Int) < (s.size : Int)) = true := decide_eq_true (by omega)
    go_enter Tryd.func6, Tryd.ntmps6
    go_wp2_with fail
    refine HK.out.mono ?_
    rintro e w1 ⟨rfl, b1⟩
    go_wp2
    go_ret
    exact ⟨rfl, b1⟩
  have hsn : s.size ≤ 40 := by omega
  have t1 : decide ((40 : Int) < (s.size : Int)) = false := decide_eq_false (by omega)
  obtain ⟨m, hm⟩ : ∃ m : Nat, n % 100 = (m : Int) := ⟨(n % 100).toNat, by omega⟩
  have hm1 : m < 100 := by omega
  have hTl : s.data.toList.length ≤ 40 := by rw [bytes_length]; omega
  go_enter Tryd.func6, Tryd.ntmps6
  go_wp2_with fail
  refine HK.out.mono ?_
  rintro e w1 ⟨rfl, b1⟩
  have TT1 := Hid.mk7 (HT.out.later b1)
  have G1 := Hid.mk7 b1
  clear HK b1 hlong HT
  go_upto_region 5 with fail
  go_cut [9] from 33 to 37 (fun s9 wx => ∃ N : Nat, s9 = .int .i64 (N : Nat) ∧ 1 ≤ N ∧ N ≤ 100 ∧ wx = w1)
  case first =>
    go_wp2
    go_meet
    exact ⟨m + 1, by simp, by omega, by omega, rfl⟩
  case rest =>
    obtain ⟨N, rfl, hN1, hN, rfl⟩ := hcut
    clear hm
    obtain ⟨a0, ha0⟩ : ∃ a : Nat, fr % ((N : Int) + 1) = (a : Int) := ⟨(fr % ((N : Int) + 1)).toNat, by have := Int.emod_nonneg fr (show (N : Int) + 1 ≠ 0 by omega); omega⟩
    obtain ⟨b0, hb0⟩ : ∃ b : Nat, tt % ((N : Int) + 1) = (b : Int) := ⟨(tt % ((N : Int) + 1)).toNat, by have := Int.emod_nonneg tt (show (N : Int) + 1 ≠ 0 by omega); omega⟩
    have ha1 : a0 ≤ N := by have := Int.emod_lt_of_pos fr (show (0 : Int) < (N : Int) + 1 by omega); omega
    have hb1 : b0 ≤ N := by have := Int.emod_lt_of_pos tt (show (0 : Int) < (N : Int) + 1 by omega); omega
    have hz : ¬ (N : Int) + 1 = 0 := by omega
    go_upto_region 6 with fail
    go_cut [10, 11] from 37 to 59 (fun s10 s11 wx => ∃ a b : Nat, s10 = .int .i64 (a : Nat) ∧ s11 = .int .i64 (b : Nat) ∧ a ≤ b ∧ b ≤ N ∧ Hid (Tab wx tb) ∧ Hid (RowKit.Below w.heap.size w wx))
    case first =>
      rcases (show a0 < b0 ∨ a0 = b0 ∨ b0 < a0 by omega) with hab | hab | hab
      · have h2 : (a0 : Int) < (b0 : Int) := by omega
        have h3 : ¬ b0 < a0 := by omega
        have h4 : a0 ≤ b0 := by omega
        have h5 : ¬ b0 ≤ a0 := by omega
        have e1 : min (a0 : Int) (b0 : Int) = (a0 : Int) := by omega
        have e2 : max (a0 : Int) (b0 : Int) = (b0 : Int) := by omega
        go_quiet (fail)
        have TT2 : Hid (Tab (wc.drewN nq) tb) := TT1.out.later (below_drewN (RowKit.Below.refl _ _) nq)
        have G2 : Hid (RowKit.Below w.heap.size w (wc.drewN nq)) := below_drewN G1.out nq
        go_wp2
        go_meet
        exact ⟨a0, b0, rfl, rfl, by omega, by omega, TT2, G2⟩
      · subst hab
        go_quiet (fail)
        have TT2 : Hid (Tab (wc.drewN nq) tb) := TT1.out.later (below_drewN (RowKit.Below.refl _ _) nq)
        have G2 : Hid (RowKit.Below w.heap.size w (wc.drewN nq)) := below_drewN G1.out nq
        go_wp2
        go_meet
        exact ⟨a0, a0, rfl, rfl, by omega, by omega, TT2, G2⟩
      · have h2 : (b0 : Int) < (a0 : Int) := by omega
        have h3 : ¬ a0 < b0 := by omega
        have h4 : b0 ≤ a0 := by omega
        have h5 : ¬ a0 ≤ b0 := by omega
        have e1 : min (a0 : Int) (b0 : Int) = (b0 : Int) := by omega
        have e2 : max (a0 : Int) (b0 : Int) = (a0 : Int) := by omega
        go_quiet (fail)
        have TT2 : Hid (Tab (wc.drewN nq) tb) := TT1.out.later (below_drewN (RowKit.Below.refl _ _) nq)
        have G2 : Hid (RowKit.Below w.heap.size w (wc.drewN nq)) := below_drewN G1.out nq
        go_wp2
        go_meet
        exact ⟨b0, a0, rfl, rfl, by omega, by omega, TT2, G2⟩
    case rest =>
      obtain ⟨a, b, rfl, rfl, hab, hbn, TT2, G2⟩ := hcut
      clear ha0 hb0 ha1 hb1 hz TT1 G1
      generalize hw2 : wc = w2 at *
      clear hw2
      have FQ := flt_one hN hab hbn (T := []) (by simp) vld_nil
      obtain ⟨L2, hPQ⟩ := pq_of hN hab hbn
      obtain ⟨Q, hQ⟩ : ∃ Q, elG N [] 0 [((a : Int), (b : Int), [])] = Q := ⟨_, rfl⟩
      rw [hQ] at hPQ
      have PQ := Hid.mk7 hPQ
      have QEQ := Hid.mk7 hQ
      clear hPQ hQ
      cases hv : vld s.data.toList with
      | false =>
        have FP := flt_bad (a := a) hN (by omega) hv
        clear hv
        have A1 := Hid.mk7 (el_lit w2 [((a : Int), (a : Int), s.data.toList)] #[.int .i64 (a : Nat), .int .i64 (a : Nat), .string s] 56 (by rw [c3_one, cacc_bytes]) 1 rfl)
        have b5 : RowKit.Below w2.heap.size w2 (w2.alloc (.cells #[.int .i64 (a : Nat), .int .i64 (a : Nat), .string s] 56)) := below_newE (RowKit.Below.refl _ _) _
        have TT5 := Hid.mk7 (TT2.out.later b5)
        have G5 := Hid.mk7 (G2.out.trans (b5.mono G2.out.size))
        clear TT2 G2 b5
        go_wp2_with fail
        refine (build_bv (tb := tb) FP (by omega) (fun e he => by simp at he; subst he; simp only; omega) (by simp) A1.out TT5.out).mono ?_
        rintro e w1 ⟨rfl, bz⟩
        clear A1
        have T2 := Hid.mk7 (TT5.out.later bz)
        have G2 := Hid.mk7 (G5.out.trans (bz.mono G5.out.size))
        clear TT5 G5 bz
        have bz : RowKit.Below w1.heap.size w1 (w1.alloc (.cells #[.int .i64 0, .slice none 0 0] 24)) := below_newE (RowKit.Below.refl _ _) _
        have nw3 := Hid.mk7 (@Rd.new w1 (.int .i64 0) (.slice none 0 0))
        have T4 := Hid.mk7 (T2.out.later bz)
        have G4 := Hid.mk7 (G2.out.trans (bz.mono G2.out.size))
        clear T2 G2 bz
        have RPc0 := nw3.out.c0
        have RPc1 := nw3.out.c1
        have A2 := Hid.mk7 (el_lit2 (w1.alloc (.cells #[.int .i64 0, .slice none 0 0] 24)) (w1.heap.size + 1) (by simp) [((a : Int), (b : Int), [])] #[.int .i64 (a : Nat), .int .i64 (b : Nat), .string ⟨#[]⟩] 56 rfl 1 rfl)
        have bz : RowKit.Below (w1.alloc (.cells #[.int .i64 0, .slice none 0 0] 24)).heap.size (w1.alloc (.cells #[.int .i64 0, .slice none 0 0] 24)) ((w1.alloc (.cells #[.int .i64 0, .slice none 0 0] 24)).alloc (.cells #[.int .i64 (a : Nat), .int .i64 (b : Nat), .string ⟨#[]⟩] 56)) := below_newE (RowKit.Below.refl _ _) _
        clear RPc0 RPc1
        have T6 := Hid.mk7 (T4.out.later bz)
        have G6 := Hid.mk7 (G4.out.trans (bz.mono G4.out.size))
        have RP6 := Hid.mk7 (nw3.out.later bz)
        clear T4 G4 nw3 bz
        have RPc0 := RP6.out.c0
        have RPc1 := RP6.out.c1
        go_wp2_with fail
        refine (build_v (tb := tb) FQ QEQ.out PQ.out.len (fun e he => by simp at he; subst he; simp) (by simp) (by rw [inS_one]; simp) A2.out T6.out).mono ?_
        rintro e w7 ⟨v7, rfl, h7, bz⟩
        clear RPc0 RPc1
        clear A2
        obtain ⟨a7, c7, rfl, _, _, _⟩ := id h7
        have T8 := Hid.mk7 (T6.out.later bz)
        have G8 := Hid.mk7 (G6.out.trans (bz.mono G6.out.size))
        have RP8 := Hid.mk7 (RP6.out.later bz)
        clear T6 G6 RP6 bz
        have Q9 := Hid.mk7 (h7)
        clear h7
        have bz : RowKit.Below w7.heap.size w7 (w7.alloc (.cells #[.int .i64 (N : Nat), .slice a7 Q.length c7] 24)) := below_newE (RowKit.Below.refl _ _) _
        have nw10 := Hid.mk7 (@Rd.new w7 (.int .i64 (N : Nat)) (.slice a7 Q.length c7))
        have T11 := Hid.mk7 (T8.out.later bz)
        have G11 := Hid.mk7 (G8.out.trans (bz.mono G8.out.size))
        have RP11 := Hid.mk7 (RP8.out.later bz)
        have Q11 := Hid.mk7 (Q9.out.later bz)
        clear T8 G8 RP8 Q9 bz
        go_wp2
        go_ret
        exact ⟨rfl, G11.out⟩
      | true =>
        have FP := flt_one hN (Nat.le_refl a) (by omega) hTl hv
        obtain ⟨L1, hPA⟩ := pa_of (a := a) hN (by omega) hTl hv
        obtain ⟨P, hP⟩ : ∃ P, elG N [] 0 [((a : Int), (a : Int), s.data.toList)] = P := ⟨_, rfl⟩
        rw [hP] at hPA
        have PA := Hid.mk7 hPA
        have PEQ := Hid.mk7 hP
        clear hPA hP hv
        obtain ⟨KK, hKK⟩ : ∃ K, elG N [] 0 [] = K := ⟨_, rfl⟩
        rw [hKK] at PQ
        have KEEP := Hid.mk7 (fun W => keep_v (m := (N : Nat)) (N : Nat) (by omega) hKK W)
        have KEEPZ := Hid.mk7 (fun W => keep_v (m := 0) (es := []) 0 (by decide) (by decide) W)
        have NEW := Hid.mk7 (fun W => new_any ((N : Int) + 1) W (N + 1) (by simp) (by omega))
        have NOK : Hid (Ok8 (List.replicate (N + 1) 0)) := ⟨by simp; omega, fun c hc => by rw [List.eq_of_mem_replicate hc]; omega⟩
        have NRL : Hid ((rle (List.replicate (N + 1) 0)).length ≤ 600) := by
          show _ ≤ _
          have := rle_rep_len 0 [] (N + 1)
          rw [List.append_nil] at this
          simp [rle] at this
          omega
        have NLE : Hid (((List.replicate (N + 1) (0 : Int)).length : Int) ≠ (N : Int)) := by show _ ≠ _; simp; omega
        clear hKK
        have A1 := Hid.mk7 (el_lit w2 [((a : Int), (a : Int), s.data.toList)] #[.int .i64 (a : Nat), .int .i64 (a : Nat), .string s] 56 (by rw [c3_one, cacc_bytes]) 1 rfl)
        have b5 : RowKit.Below w2.heap.size w2 (w2.alloc (.cells #[.int .i64 (a : Nat), .int .i64 (a : Nat), .string s] 56)) := below_newE (RowKit.Below.refl _ _) _
        have TT5 := Hid.mk7 (TT2.out.later b5)
        have G5 := Hid.mk7 (G2.out.trans (b5.mono G2.out.size))
        clear TT2 G2 b5
        go_wp2_with fail
        refine (build_v (tb := tb) FP PEQ.out PA.out.len (fun e he => by simp at he; subst he; simp only; omega) (by simp) (by rw [inS_one]; omega) A1.out TT5.out).mono ?_
        rintro e w1 ⟨v6, rfl, h6, bz⟩
        clear A1
        obtain ⟨a6, c6, rfl, _, _, _⟩ := id h6
        have T2 := Hid.mk7 (TT5.out.later bz)
        have G2 := Hid.mk7 (G5.out.trans (bz.mono G5.out.size))
        clear TT5 G5 bz
        have P3 := Hid.mk7 (h6)
        clear h6
        have bz : RowKit.Below w1.heap.size w1 (w1.alloc (.cells #[.int .i64 (N : Nat), .slice a6 P.length c6] 24)) := below_newE (RowKit.Below.refl _ _) _
        have nw4 := Hid.mk7 (@Rd.new w1 (.int .i64 (N : Nat)) (.slice a6 P.length c6))
        have T5 := Hid.mk7 (T2.out.later bz)
        have G5 := Hid.mk7 (G2.out.trans (bz.mono G2.out.size))
        have P5 := Hid.mk7 (P3.out.later bz)
        clear T2 G2 P3 bz
        have RPc0 := nw4.out.c0
        have RPc1 := nw4.out.c1
        have A2 := Hid.mk7 (el_lit2 (w1.alloc (.cells #[.int .i64 (N : Nat), .slice a6 P.length c6] 24)) (w1.heap.size + 1) (by simp) [((a : Int), (b : Int), [])] #[.int .i64 (a : Nat), .int .i64 (b : Nat), .string ⟨#[]⟩] 56 rfl 1 rfl)
        have bz : RowKit.Below (w1.alloc (.cells #[.int .i64 (N : Nat), .slice a6 P.length c6] 24)).heap.size (w1.alloc (.cells #[.int .i64 (N : Nat), .slice a6 P.length c6] 24)) ((w1.alloc (.cells #[.int .i64 (N : Nat), .slice a6 P.length c6] 24)).alloc (.cells #[.int .i64 (a : Nat), .int .i64 (b : Nat), .string ⟨#[]⟩] 56)) := below_newE (RowKit.Below.refl _ _) _
        clear RPc0 RPc1
        have T7 := Hid.mk7 (T5.out.later bz)
        have G7 := Hid.mk7 (G5.out.trans (bz.mono G5.out.size))
        have P7 := Hid.mk7 (P5.out.later bz)
        have RP7 := Hid.mk7 (nw4.out.later bz)
        clear T5 G5 P5 nw4 bz
        have RPc0 := RP7.out.c0
        have RPc1 := RP7.out.c1
        go_wp2_with fail
        refine (build_v (tb := tb) FQ QEQ.out PQ.out.len (fun e he => by simp at he; subst he; simp) (by simp) (by rw [inS_one]; simp) A2.out T7.out).mono ?_
        rintro e w8 ⟨v7, rfl, h7, bz⟩
        clear RPc0 RPc1
        clear A2
        obtain ⟨a7, c7, rfl, _, _, _⟩ := id h7
        have T9 := Hid.mk7 (T7.out.later bz)
        have G9 := Hid.mk7 (G7.out.trans (bz.mono G7.out.size))
        have P9 := Hid.mk7 (P7.out.later bz)
        have RP9 := Hid.mk7 (RP7.out.later bz)
        clear T7 G7 P7 RP7 bz
        have Q10 := Hid.mk7 (h7)
        clear h7
        have bz : RowKit.Below w8.heap.size w8 (w8.alloc (.cells #[.int .i64 (N : Nat), .slice a7 Q.length c7] 24)) := below_newE (RowKit.Below.refl _ _) _
        have nw11 := Hid.mk7 (@Rd.new w8 (.int .i64 (N : Nat)) (.slice a7 Q.length c7))
        have T12 := Hid.mk7 (T9.out.later bz)
        have G12 := Hid.mk7 (G9.out.trans (bz.mono G9.out.size))
        have P12 := Hid.mk7 (P9.out.later bz)
        have RP12 := Hid.mk7 (RP9.out.later bz)
        have Q12 := Hid.mk7 (Q10.out.later bz)
        clear T9 G9 P9 RP9 Q10 bz
        have RPc0 := RP12.out.c0
        have RPc1 := RP12.out.c1
        have RQc0 := nw11.out.c0
        have RQc1 := nw11.out.c1
        go_wp2_with fail
        refine (split_v PA.out.is PA.out.fit PA.out.self PA.out.len PA.out.gon P12.out T12.out).mono ?_
        rintro e w13 ⟨v8, p8, rfl, h8, s8, bz⟩
        clear RPc0 RPc1 RQc0 RQc1
        obtain ⟨a8, c8, rfl, _, _, _⟩ := id h8
        have T14 := Hid.mk7 (T12.out.later bz)
        have G14 := Hid.mk7 (G12.out.trans (bz.mono G12.out.size))
        have P14 := Hid.mk7 (P12.out.later bz)
        have RP14 := Hid.mk7 (RP12.out.later bz)
        have Q14 := Hid.mk7 (Q12.out.later bz)
        have RQ14 := Hid.mk7 (nw11.out.later bz)
        clear T12 G12 P12 RP12 Q12 nw11 bz
        have I15 := Hid.mk7 (h8)
        have S16 := Hid.mk7 (s8)
        clear h8 s8
        have bz : RowKit.Below w13.heap.size w13 (w13.alloc (.cells #[.int .i64 (N : Nat), .slice a8 P.length c8] 24)) := below_newE (RowKit.Below.refl _ _) _
        have nw17 := Hid.mk7 (@Rd.new w13 (.int .i64 (N : Nat)) (.slice a8 P.length c8))
        have T18 := Hid.mk7 (T14.out.later bz)
        have G18 := Hid.mk7 (G14.out.trans (bz.mono G14.out.size))
        have P18 := Hid.mk7 (P14.out.later bz)
        have RP18 := Hid.mk7 (RP14.out.later bz)
        have Q18 := Hid.mk7 (Q14.out.later bz)
        have RQ18 := Hid.mk7 (RQ14.out.later bz)
        have I18 := Hid.mk7 (I15.out.later bz)
        have S18 := Hid.mk7 (S16.out.later bz)
        clear T14 G14 P14 RP14 Q14 RQ14 I15 S16 bz
        have RPc0 := RP18.out.c0
        have RPc1 := RP18.out.c1
        have RQc0 := RQ18.out.c0
        have RQc1 := RQ18.out.c1
        have RIc0 := nw17.out.c0
        have RIc1 := nw17.out.c1
        go_wp2_with fail
        refine (split_v PQ.out.is PQ.out.fit PQ.out.half PQ.out.kl PQ.out.gon Q18.out T18.out).mono ?_
        rintro e w19 ⟨v9, p9, rfl, h9, s9, bz⟩
        clear RPc0 RPc1 RQc0 RQc1 RIc0 RIc1
        obtain ⟨a9, c9, rfl, _, _, _⟩ := id h9
        have T20 := Hid.mk7 (T18.out.later bz)
        have G20 := Hid.mk7 (G18.out.trans (bz.mono G18.out.size))
        have P20 := Hid.mk7 (P18.out.later bz)
        have RP20 := Hid.mk7 (RP18.out.later bz)
        have Q20 := Hid.mk7 (Q18.out.later bz)
        have RQ20 := Hid.mk7 (RQ18.out.later bz)
        have I20 := Hid.mk7 (I18.out.later bz)
        have S20 := Hid.mk7 (S18.out.later bz)
        have RI20 := Hid.mk7 (nw17.out.later bz)
        clear T18 G18 P18 RP18 Q18 RQ18 I18 S18 nw17 bz
        have J21 := Hid.mk7 (h9)
        have U22 := Hid.mk7 (s9)
        clear h9 s9
        have bz : RowKit.Below w19.heap.size w19 (w19.alloc (.cells #[.int .i64 (N : Nat), .slice a9 KK.length c9] 24)) := below_newE (RowKit.Below.refl _ _) _
        have nw23 := Hid.mk7 (@Rd.new w19 (.int .i64 (N : Nat)) (.slice a9 KK.length c9))
        have T24 := Hid.mk7 (T20.out.later bz)
        have G24 := Hid.mk7 (G20.out.trans (bz.mono G20.out.size))
        have P24 := Hid.mk7 (P20.out.later bz)
        have RP24 := Hid.mk7 (RP20.out.later bz)
        have Q24 := Hid.mk7 (Q20.out.later bz)
        have RQ24 := Hid.mk7 (RQ20.out.later bz)
        have I24 := Hid.mk7 (I20.out.later bz)
        have S24 := Hid.mk7 (S20.out.later bz)
        have RI24 := Hid.mk7 (RI20.out.later bz)
        have J24 := Hid.mk7 (J21.out.later bz)
        have U24 := Hid.mk7 (U22.out.later bz)
        clear T20 G20 P20 RP20 Q20 RQ20 I20 S20 RI20 J21 U22 bz
        have RPc0 := RP24.out.c0
        have RPc1 := RP24.out.c1
        have RQc0 := RQ24.out.c0
        have RQc1 := RQ24.out.c1
        have RIc0 := RI24.out.c0
        have RIc1 := RI24.out.c1
        have RJc0 := nw23.out.c0
        have RJc1 := nw23.out.c1
        go_wp2_with fail
        refine (KEEP.out (w19.alloc (.cells #[.int .i64 (N : Nat), .slice a9 KK.length c9] 24))).mono ?_
        rintro e w25 ⟨v10, rfl, h10, bz⟩
        clear RPc0 RPc1 RQc0 RQc1 RIc0 RIc1 RJc0 RJc1
        have T26 := Hid.mk7 (T24.out.later bz)
        have G26 := Hid.mk7 (G24.out.trans (bz.mono G24.out.size))
        have P26 := Hid.mk7 (P24.out.later bz)
        have RP26 := Hid.mk7 (RP24.out.later bz)
        have Q26 := Hid.mk7 (Q24.out.later bz)
        have RQ26 := Hid.mk7 (RQ24.out.later bz)
        have I26 := Hid.mk7 (I24.out.later bz)
        have S26 := Hid.mk7 (S24.out.later bz)
        have RI26 := Hid.mk7 (RI24.out.later bz)
        have J26 := Hid.mk7 (J24.out.later bz)
        have U26 := Hid.mk7 (U24.out.later bz)
        have RJ26 := Hid.mk7 (nw23.out.later bz)
        clear T24 G24 P24 RP24 Q24 RQ24 I24 S24 RI24 J24 U24 nw23 bz
        have K27 := Hid.mk7 (h10)
        clear h10
        have RPc0 := RP26.out.c0
        have RPc1 := RP26.out.c1
        have RQc0 := RQ26.out.c0
        have RQc1 := RQ26.out.c1
        have RIc0 := RI26.out.c0
        have RIc1 := RI26.out.c1
        have RJc0 := RJ26.out.c0
        have RJc1 := RJ26.out.c1
        go_wp2_with fail
        refine (join_ok PQ.out.kis PQ.out.kcp U26.out PQ.out.ok PQ.out.rl PQ.out.ll PQ.out.back PQ.out.len K27.out T26.out).mono ?_
        rintro e w28 ⟨v11, rfl, h11, bz⟩
        clear RPc0 RPc1 RQc0 RQc1 RIc0 RIc1 RJc0 RJc1
        obtain ⟨a11, c11, rfl, _, _, _⟩ := id h11
        have T29 := Hid.mk7 (T26.out.later bz)
        have G29 := Hid.mk7 (G26.out.trans (bz.mono G26.out.size))
        have P29 := Hid.mk7 (P26.out.later bz)
        have RP29 := Hid.mk7 (RP26.out.later bz)
        have Q29 := Hid.mk7 (Q26.out.later bz)
        have RQ29 := Hid.mk7 (RQ26.out.later bz)
        have I29 := Hid.mk7 (I26.out.later bz)
        have S29 := Hid.mk7 (S26.out.later bz)
        have RI29 := Hid.mk7 (RI26.out.later bz)
        have J29 := Hid.mk7 (J26.out.later bz)
        have U29 := Hid.mk7 (U26.out.later bz)
        have RJ29 := Hid.mk7 (RJ26.out.later bz)
        have K29 := Hid.mk7 (K27.out.later bz)
        clear T26 G26 P26 RP26 Q26 RQ26 I26 S26 RI26 J26 U26 RJ26 K27 bz
        have R30 := Hid.mk7 (h11)
        clear h11
        have bz : RowKit.Below w28.heap.size w28 (w28.alloc (.cells #[.int .i64 (N : Nat), .slice a11 Q.length c11] 24)) := below_newE (RowKit.Below.refl _ _) _
        have nw31 := Hid.mk7 (@Rd.new w28 (.int .i64 (N : Nat)) (.slice a11 Q.length c11))
        have T32 := Hid.mk7 (T29.out.later bz)
        have G32 := Hid.mk7 (G29.out.trans (bz.mono G29.out.size))
        have P32 := Hid.mk7 (P29.out.later bz)
        have RP32 := Hid.mk7 (RP29.out.later bz)
        have Q32 := Hid.mk7 (Q29.out.later bz)
        have RQ32 := Hid.mk7 (RQ29.out.later bz)
        have I32 := Hid.mk7 (I29.out.later bz)
        have S32 := Hid.mk7 (S29.out.later bz)
        have RI32 := Hid.mk7 (RI29.out.later bz)
        have J32 := Hid.mk7 (J29.out.later bz)
        have U32 := Hid.mk7 (U29.out.later bz)
        have RJ32 := Hid.mk7 (RJ29.out.later bz)
        have K32 := Hid.mk7 (K29.out.later bz)
        have R32 := Hid.mk7 (R30.out.later bz)
        clear T29 G29 P29 RP29 Q29 RQ29 I29 S29 RI29 J29 U29 RJ29 K29 R30 bz
        have RPc0 := RP32.out.c0
        have RPc1 := RP32.out.c1
        have RQc0 := RQ32.out.c0
        have RQc1 := RQ32.out.c1
        have RIc0 := RI32.out.c0
        have RIc1 := RI32.out.c1
        have RJc0 := RJ32.out.c0
        have RJc1 := RJ32.out.c1
        have RRc0 := nw31.out.c0
        have RRc1 := nw31.out.c1
        go_wp2_with fail
        refine (KEEP.out (w28.alloc (.cells #[.int .i64 (N : Nat), .slice a11 Q.length c11] 24))).mono ?_
        rintro e w33 ⟨v12, rfl, h12, bz⟩
        clear RPc0 RPc1 RQc0 RQc1 RIc0 RIc1 RJc0 RJc1 RRc0 RRc1
        have T34 := Hid.mk7 (T32.out.later bz)
        have G34 := Hid.mk7 (G32.out.trans (bz.mono G32.out.size))
        have P34 := Hid.mk7 (P32.out.later bz)
        have RP34 := Hid.mk7 (RP32.out.later bz)
        have Q34 := Hid.mk7 (Q32.out.later bz)
        have RQ34 := Hid.mk7 (RQ32.out.later bz)
        have I34 := Hid.mk7 (I32.out.later bz)
        have S34 := Hid.mk7 (S32.out.later bz)
        have RI34 := Hid.mk7 (RI32.out.later bz)
        have J34 := Hid.mk7 (J32.out.later bz)
        have U34 := Hid.mk7 (U32.out.later bz)
        have RJ34 := Hid.mk7 (RJ32.out.later bz)
        have K34 := Hid.mk7 (K32.out.later bz)
        have R34 := Hid.mk7 (R32.out.later bz)
        have RR34 := Hid.mk7 (nw31.out.later bz)
        clear T32 G32 P32 RP32 Q32 RQ32 I32 S32 RI32 J32 U32 RJ32 K32 R32 nw31 bz
        have KB35 := Hid.mk7 (h12)
        clear h12
        have RPc0 := RP34.out.c0
        have RPc1 := RP34.out.c1
        have RQc0 := RQ34.out.c0
        have RQc1 := RQ34.out.c1
        have RIc0 := RI34.out.c0
        have RIc1 := RI34.out.c1
        have RJc0 := RJ34.out.c0
        have RJc1 := RJ34.out.c1
        have RRc0 := RR34.out.c0
        have RRc1 := RR34.out.c1
        go_wp2_with fail
        refine (NEW.out w33).mono ?_
        rintro e w36 ⟨p13, rfl, s13, bz⟩
        clear RPc0 RPc1 RQc0 RQc1 RIc0 RIc1 RJc0 RJc1 RRc0 RRc1
        have T37 := Hid.mk7 (T34.out.later bz)
        have G37 := Hid.mk7 (G34.out.trans (bz.mono G34.out.size))
        have P37 := Hid.mk7 (P34.out.later bz)
        have RP37 := Hid.mk7 (RP34.out.later bz)
        have Q37 := Hid.mk7 (Q34.out.later bz)
        have RQ37 := Hid.mk7 (RQ34.out.later bz)
        have I37 := Hid.mk7 (I34.out.later bz)
        have S37 := Hid.mk7 (S34.out.later bz)
        have RI37 := Hid.mk7 (RI34.out.later bz)
        have J37 := Hid.mk7 (J34.out.later bz)
        have U37 := Hid.mk7 (U34.out.later bz)
        have RJ37 := Hid.mk7 (RJ34.out.later bz)
        have K37 := Hid.mk7 (K34.out.later bz)
        have R37 := Hid.mk7 (R34.out.later bz)
        have RR37 := Hid.mk7 (RR34.out.later bz)
        have KB37 := Hid.mk7 (KB35.out.later bz)
        clear T34 G34 P34 RP34 Q34 RQ34 I34 S34 RI34 J34 U34 RJ34 K34 R34 RR34 KB35 bz
        have X38 := Hid.mk7 (s13)
        clear s13
        have RPc0 := RP37.out.c0
        have RPc1 := RP37.out.c1
        have RQc0 := RQ37.out.c0
        have RQc1 := RQ37.out.c1
        have RIc0 := RI37.out.c0
        have RIc1 := RI37.out.c1
        have RJc0 := RJ37.out.c0
        have RJc1 := RJ37.out.c1
        have RRc0 := RR37.out.c0
        have RRc1 := RR37.out.c1
        go_wp2_with fail
        refine (join_len _ tb PQ.out.kis PQ.out.kcp X38.out NOK.out NRL.out KB37.out T37.out NLE.out).mono ?_
        rintro e w39 ⟨rfl, bz⟩
        clear RPc0 RPc1 RQc0 RQc1 RIc0 RIc1 RJc0 RJc1 RRc0 RRc1
        have T40 := Hid.mk7 (T37.out.later bz)
        have G40 := Hid.mk7 (G37.out.trans (bz.mono G37.out.size))
        have P40 := Hid.mk7 (P37.out.later bz)
        have RP40 := Hid.mk7 (RP37.out.later bz)
        have Q40 := Hid.mk7 (Q37.out.later bz)
        have RQ40 := Hid.mk7 (RQ37.out.later bz)
        have I40 := Hid.mk7 (I37.out.later bz)
        have S40 := Hid.mk7 (S37.out.later bz)
        have RI40 := Hid.mk7 (RI37.out.later bz)
        have J40 := Hid.mk7 (J37.out.later bz)
        have U40 := Hid.mk7 (U37.out.later bz)
        have RJ40 := Hid.mk7 (RJ37.out.later bz)
        have K40 := Hid.mk7 (K37.out.later bz)
        have R40 := Hid.mk7 (R37.out.later bz)
        have RR40 := Hid.mk7 (RR37.out.later bz)
        have KB40 := Hid.mk7 (KB37.out.later bz)
        have X40 := Hid.mk7 (X38.out.later bz)
        clear T37 G37 P37 RP37 Q37 RQ37 I37 S37 RI37 J37 U37 RJ37 K37 R37 RR37 KB37 X38 bz
        have bz : RowKit.Below w39.heap.size w39 (w39.alloc (.cells #[.int .i64 0, .slice none 0 0] 24)) := below_newE (RowKit.Below.refl _ _) _
        have nw41 := Hid.mk7 (@Rd.new w39 (.int .i64 0) (.slice none 0 0))
        have T42 := Hid.mk7 (T40.out.later bz)
        have G42 := Hid.mk7 (G40.out.trans (bz.mono G40.out.size))
        have P42 := Hid.mk7 (P40.out.later bz)
        have RP42 := Hid.mk7 (RP40.out.later bz)
        have Q42 := Hid.mk7 (Q40.out.later bz)
        have RQ42 := Hid.mk7 (RQ40.out.later bz)
        have I42 := Hid.mk7 (I40.out.later bz)
        have S42 := Hid.mk7 (S40.out.later bz)
        have RI42 := Hid.mk7 (RI40.out.later bz)
        have J42 := Hid.mk7 (J40.out.later bz)
        have U42 := Hid.mk7 (U40.out.later bz)
        have RJ42 := Hid.mk7 (RJ40.out.later bz)
        have K42 := Hid.mk7 (K40.out.later bz)
        have R42 := Hid.mk7 (R40.out.later bz)
        have RR42 := Hid.mk7 (RR40.out.later bz)
        have KB42 := Hid.mk7 (KB40.out.later bz)
        have X42 := Hid.mk7 (X40.out.later bz)
        clear T40 G40 P40 RP40 Q40 RQ40 I40 S40 RI40 J40 U40 RJ40 K40 R40 RR40 KB40 X40 bz
        have RPc0 := RP42.out.c0
        have RPc1 := RP42.out.c1
        have RQc0 := RQ42.out.c0
        have RQc1 := RQ42.out.c1
        have RIc0 := RI42.out.c0
        have RIc1 := RI42.out.c1
        have RJc0 := RJ42.out.c0
        have RJc1 := RJ42.out.c1
        have RRc0 := RR42.out.c0
        have RRc1 := RR42.out.c1
        have ROc0 := nw41.out.c0
        have ROc1 := nw41.out.c1
        go_wp2_with fail
        refine (KEEPZ.out (w39.alloc (.cells #[.int .i64 0, .slice none 0 0] 24))).mono ?_
        rintro e w43 ⟨v15, rfl, h15, bz⟩
        clear RPc0 RPc1 RQc0 RQc1 RIc0 RIc1 RJc0 RJc1 RRc0 RRc1 ROc0 ROc1
        have T44 := Hid.mk7 (T42.out.later bz)
        have G44 := Hid.mk7 (G42.out.trans (bz.mono G42.out.size))
        have P44 := Hid.mk7 (P42.out.later bz)
        have RP44 := Hid.mk7 (RP42.out.later bz)
        have Q44 := Hid.mk7 (Q42.out.later bz)
        have RQ44 := Hid.mk7 (RQ42.out.later bz)
        have I44 := Hid.mk7 (I42.out.later bz)
        have S44 := Hid.mk7 (S42.out.later bz)
        have RI44 := Hid.mk7 (RI42.out.later bz)
        have J44 := Hid.mk7 (J42.out.later bz)
        have U44 := Hid.mk7 (U42.out.later bz)
        have RJ44 := Hid.mk7 (RJ42.out.later bz)
        have K44 := Hid.mk7 (K42.out.later bz)
        have R44 := Hid.mk7 (R42.out.later bz)
        have RR44 := Hid.mk7 (RR42.out.later bz)
        have KB44 := Hid.mk7 (KB42.out.later bz)
        have X44 := Hid.mk7 (X42.out.later bz)
        have RO44 := Hid.mk7 (nw41.out.later bz)
        clear T42 G42 P42 RP42 Q42 RQ42 I42 S42 RI42 J42 U42 RJ42 K42 R42 RR42 KB42 X42 nw41 bz
        have KZ45 := Hid.mk7 (h15)
        clear h15
        have RPc0 := RP44.out.c0
        have RPc1 := RP44.out.c1
        have RQc0 := RQ44.out.c0
        have RQc1 := RQ44.out.c1
        have RIc0 := RI44.out.c0
        have RIc1 := RI44.out.c1
        have RJc0 := RJ44.out.c0
        have RJc1 := RJ44.out.c1
        have RRc0 := RR44.out.c0
        have RRc1 := RR44.out.c1
        have ROc0 := RO44.out.c0
        have ROc1 := RO44.out.c1
        go_wp2_with fail
        refine (join_nil (ys := []) z_is rfl rfl (by decide) KZ45.out T44.out).mono ?_
        rintro e w46 ⟨v16, rfl, h16, bz⟩
        clear RPc0 RPc1 RQc0 RQc1 RIc0 RIc1 RJc0 RJc1 RRc0 RRc1 ROc0 ROc1
        obtain ⟨a16, c16, rfl, _, _, _⟩ := id h16
        have T47 := Hid.mk7 (T44.out.later bz)
        have G47 := Hid.mk7 (G44.out.trans (bz.mono G44.out.size))
        have P47 := Hid.mk7 (P44.out.later bz)
        have RP47 := Hid.mk7 (RP44.out.later bz)
        have Q47 := Hid.mk7 (Q44.out.later bz)
        have RQ47 := Hid.mk7 (RQ44.out.later bz)
        have I47 := Hid.mk7 (I44.out.later bz)
        have S47 := Hid.mk7 (S44.out.later bz)
        have RI47 := Hid.mk7 (RI44.out.later bz)
        have J47 := Hid.mk7 (J44.out.later bz)
        have U47 := Hid.mk7 (U44.out.later bz)
        have RJ47 := Hid.mk7 (RJ44.out.later bz)
        have K47 := Hid.mk7 (K44.out.later bz)
        have R47 := Hid.mk7 (R44.out.later bz)
        have RR47 := Hid.mk7 (RR44.out.later bz)
        have KB47 := Hid.mk7 (KB44.out.later bz)
        have X47 := Hid.mk7 (X44.out.later bz)
        have RO47 := Hid.mk7 (RO44.out.later bz)
        have KZ47 := Hid.mk7 (KZ45.out.later bz)
        clear T44 G44 P44 RP44 Q44 RQ44 I44 S44 RI44 J44 U44 RJ44 K44 R44 RR44 KB44 X44 RO44 KZ45 bz
        have Z48 := Hid.mk7 (h16)
        clear h16
        have bz : RowKit.Below w46.heap.size w46 (w46.alloc (.cells #[.int .i64 0, .slice a16 0 c16] 24)) := below_newE (RowKit.Below.refl _ _) _
        have nw49 := Hid.mk7 (@Rd.new w46 (.int .i64 0) (.slice a16 0 c16))
        have T50 := Hid.mk7 (T47.out.later bz)
        have G50 := Hid.mk7 (G47.out.trans (bz.mono G47.out.size))
        have P50 := Hid.mk7 (P47.out.later bz)
        have RP50 := Hid.mk7 (RP47.out.later bz)
        have Q50 := Hid.mk7 (Q47.out.later bz)
        have RQ50 := Hid.mk7 (RQ47.out.later bz)
        have I50 := Hid.mk7 (I47.out.later bz)
        have S50 := Hid.mk7 (S47.out.later bz)
        have RI50 := Hid.mk7 (RI47.out.later bz)
        have J50 := Hid.mk7 (J47.out.later bz)
        have U50 := Hid.mk7 (U47.out.later bz)
        have RJ50 := Hid.mk7 (RJ47.out.later bz)
        have K50 := Hid.mk7 (K47.out.later bz)
        have R50 := Hid.mk7 (R47.out.later bz)
        have RR50 := Hid.mk7 (RR47.out.later bz)
        have KB50 := Hid.mk7 (KB47.out.later bz)
        have X50 := Hid.mk7 (X47.out.later bz)
        have RO50 := Hid.mk7 (RO47.out.later bz)
        have KZ50 := Hid.mk7 (KZ47.out.later bz)
        have Z50 := Hid.mk7 (Z48.out.later bz)
        clear T47 G47 P47 RP47 Q47 RQ47 I47 S47 RI47 J47 U47 RJ47 K47 R47 RR47 KB47 X47 RO47 KZ47 Z48 bz
        clear RO50
        have RPz0 := cell_regrown RP50.out.c0
        have RPz1 := cell_regrown RP50.out.c1
        have RQz0 := cell_regrown RQ50.out.c0
        have RQz1 := cell_regrown RQ50.out.c1
        have RIz0 := cell_regrown RI50.out.c0
        have RIz1 := cell_regrown RI50.out.c1
        have RJz0 := cell_regrown RJ50.out.c0
        have RJz1 := cell_regrown RJ50.out.c1
        have RRz0 := cell_regrown RR50.out.c0
        have RRz1 := cell_regrown RR50.out.c1
        have RZz0 := cell_regrown nw49.out.c0
        have RZz1 := cell_regrown nw49.out.c1
        go_wp2_with fail
        refine wp_region_mixP [([0, 1, 2, 3, 4, 5, 6, 7, 8], [9]), ([10, 11, 12], [13]), ([14, 15, 16, 18], [17]), ([19, 20, 21, 22, 23], [24]), ([], [25]), ([26, 27, 28, 30, 31, 32], [29]), ([33, 34, 35, 36, 37, 38, 39, 40, 41], [42]), ([43, 44, 45, 46, 47, 48, 49, 50, 51, 52, 53], [54]), ([], [55]), ([56, 57], [])] (by kernel_rfl) (by kernel_rfl) ?_
        rintro x0 ⟨d0, rfl⟩
        have m0 := below_redrawnE (w46.alloc (.cells #[.int .i64 0, .slice a16 0 c16] 24)) d0
        refine wpPlan_cons ?_
        simp only [pickAll, pickAt, List.nil_append, List.cons_append, List.append_nil]
        repeat (go_big_quiet_step (fail))
        refine wpQuiet_nil ?_
        go_wp2_with fail
        refine (same_v (t := true) (by simp) (Nat.le_trans PA.out.len (by omega)) (I50.out.later m0) (P50.out.later m0)).mono ?_
        rintro e x1 ⟨rfl, b1⟩
        have m1 := m0.trans (b1.mono m0.size)
        go_wp2
        refine mixNext_belowE m1 ?_
        refine wpPlan_cons ?_
        simp only [pickAll, pickAt, List.nil_append, List.cons_append, List.append_nil]
        repeat (go_big_quiet_step (fail))
        refine wpQuiet_nil ?_
        go_wp2_with fail
        refine (empty_vF PA.out.none PA.out.l2 (S50.out.later m1)).mono ?_
        rintro e x2 ⟨rfl, b2⟩
        have m2 := m1.trans (b2.mono m1.size)
        go_wp2
        refine mixNext_belowE m2 ?_
        refine wpPlan_cons ?_
        simp only [pickAll, pickAt, List.nil_append, List.cons_append, List.append_nil]
        repeat (go_big_quiet_step (fail))
        refine wpQuiet_nil ?_
        go_wp2_with fail
        refine (len_vF PA.out.ll PA.out.l2 (S50.out.later m2)).mono ?_
        rintro e x3 ⟨rfl, b3⟩
        have m3 := m2.trans (b3.mono m2.size)
        go_wp2
        refine mixNext_belowE m3 ?_
        refine wpPlan_cons ?_
        simp only [pickAll, pickAt, List.nil_append, List.cons_append, List.append_nil]
        repeat (go_big_quiet_step (fail))
        refine wpQuiet_nil ?_
        go_wp2_with fail
        refine (KEEP.out _).mono ?_
        rintro e x4 ⟨vk, rfl, hk, b4⟩
        have m4 := m3.trans (b4.mono m3.size)
        go_wp2
        refine mixNext_belowE m4 ?_
        refine wpPlan_cons ?_
        simp only [pickAll, pickAt, List.nil_append, List.cons_append, List.append_nil]
        repeat (go_big_quiet_step (fail))
        refine wpQuiet_nil ?_
        go_wp2_with fail
        refine (same_v (t := true) (by simp) (Nat.le_trans PQ.out.kl (by omega)) (J50.out.later m4) hk).mono ?_
        rintro e x5 ⟨rfl, b5⟩
        have m5 := m4.trans (b5.mono m4.size)
        go_wp2
        refine mixNext_belowE m5 ?_
        refine wpPlan_cons ?_
        simp only [pickAll, pickAt, List.nil_append, List.cons_append, List.append_nil]
        repeat (go_big_quiet_step (fail))
        refine wpQuiet_nil ?_
        go_wp2_with fail
        refine (size_vF PQ.out.size PQ.out.l2 (U50.out.later m5)).mono ?_
        rintro e x6 ⟨rfl, b6⟩
        have m6 := m5.trans (b6.mono m5.size)
        go_wp2
        refine mixNext_belowE m6 ?_
        refine wpPlan_cons ?_
        simp only [pickAll, pickAt, List.nil_append, List.cons_append, List.append_nil]
        repeat (go_big_quiet_step (fail))
        refine wpQuiet_nil ?_
        go_wp2_with fail
        refine (same_v (t := true) (by simp) (Nat.le_trans PQ.out.len (by omega)) (R50.out.later m6) (Q50.out.later m6)).mono ?_
        rintro e x7 ⟨rfl, b7⟩
        have m7 := m6.trans (b7.mono m6.size)
        go_wp2
        refine mixNext_belowE m7 ?_
        refine wpPlan_cons ?_
        simp only [pickAll, pickAt, List.nil_append, List.cons_append, List.append_nil]
        repeat (go_big_quiet_step (fail))
        refine wpQuiet_nil ?_
        go_wp2_with fail
        refine (KEEPZ.out _).mono ?_
        rintro e x8 ⟨vz, rfl, hz, b8⟩
        have m8 := m7.trans (b8.mono m7.size)
        go_wp2
        refine mixNext_belowE m8 ?_
        refine wpPlan_cons ?_
        simp only [pickAll, pickAt, List.nil_append, List.cons_append, List.append_nil]
        repeat (go_big_quiet_step (fail))
        refine wpQuiet_nil ?_
        go_wp2_with fail
        refine (same_v (t := true) (by simp) (by simp) (Z50.out.later m8) hz).mono ?_
        rintro e x9 ⟨rfl, b9⟩
        have m9 := m8.trans (b9.mono m8.size)
        go_wp2
        refine mixNext_belowE m9 ?_
        refine wpPlan_cons ?_
        simp only [pickAll, pickAt, List.nil_append, List.cons_append, List.append_nil]
        repeat (go_big_quiet_step (fail))
        refine wpQuiet_nil ?_
        refine mixNext_belowE m9 (wpPlan_nil ?_)
        go_wp2
        go_ret
        exact ⟨rfl, G50.out.trans (m9.mono G50.out.size)⟩
end Go.Proofs.YtalolaajcmndeaaDoor
