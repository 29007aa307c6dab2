/- BreaksGo walked. -/
import Derived.Test.YtafhogfbjklboaaDoorBrkMany
import Derived.Test.YtafhogfbjklboaaDoorBrkLaid
import Derived.Test.YtafhogfbjklboaaDoorBrkEdit
namespace Go.Proofs.YtafhogfbjklboaaDoor
open Go.RowKit Go.Sort
set_option linter.unusedSimpArgs false
set_option linter.unusedVariables false

theorem edK_all {n m : Int} {f : Int → Int} (hf : ∀ x y, 0 < x → x < y → y < m → f x < f y) (hn : ∀ x, 0 < x → x < m → f x < n) : ∀ {l : List Int} {a b : Int}, Ris m a l → 0 ≤ a → (∀ x, x ∈ l → b < f x) → edK n f b l = l.map f
  | [], _, _, _, _, _ => rfl
  | x :: l, a, b, ⟨⟨h1, h2⟩, h3⟩, ha, hb => by
    unfold edK
    rw [if_pos ⟨hb x (by simp), hn x (by omega) h2⟩, List.map_cons, edK_all hf hn h3 (by omega) (fun y hy => ?_)]
    have := ris_mem h3 hy
    exact hf x y (by omega) this.1 this.2
theorem edK_none {n c : Int} {f : Int → Int} : ∀ {l : List Int}, (∀ x, x ∈ l → f x = c) → edK n f c l = []
  | [], _ => rfl
  | x :: l, h => by
    unfold edK
    rw [if_neg (by rw [h x (by simp)]; omega)]
    exact edK_none fun y hy => h y (by simp [hy])
/-- What the law asks of the one. -/
structure Gp (p : Nat) (T : List UInt8) (P : List El) (M N : List Int) : Prop where
  len : P.length ≤ 60
  is : isB 100 P = true
  e : ebE 100 P M = 0
  l : ebL 100 P M = N
  nl : N.length = M.length
  at' : ∀ (i : Nat) (x : Int), M[i]? = some x → N[i]? = some (if (p : Int) < x then x + (T.length : Nat) else x)
theorem gp_of {p : Nat} {T : List UInt8} {M : List Int} (hp : p ≤ 99) (hT : T.length ≤ 20) (hv : vld T = true) (hM : Ris 99 0 M) (hl : M.length ≤ 60) : flt 100 [((p : Int), (p : Int), T)] = 0 ∧ ∃ N, Gp p T (elG 100 [] 0 [((p : Int), (p : Int), T)]) M N := by
  have hf : flt 100 [((p : Int), (p : Int), T)] = 0 := flt_one14 (N := 100) (by omega) (Nat.le_refl p) (by omega) (by omega) hv
  obtain ⟨h1, h2⟩ := built14 hf elG_one14
  have hk : isK 100 M = true := isK_spec.2 ⟨hl, hM.mono (by omega)⟩
  obtain ⟨e1, e2⟩ := eb_ok (base := 100) ⟨h1, hk⟩
  have hn : (cel (elG 100 [] 0 [((p : Int), (p : Int), T)])).length = 100 + T.length := by
    rw [h2, bce_one_change]
    simp only [List.length_append, rng_len, own_len]
    omega
  have hfx : ∀ x, 0 ≤ x → x ≤ 100 → mvV 100 (elG 100 [] 0 [((p : Int), (p : Int), T)]) x false = if (p : Int) < x then x + (T.length : Nat) else x := fun x hx0 hx1 => by
    rw [(mvV_in h1 hx0 hx1).1, h2, mvN_ins (by omega) (by omega) hx0 hx1]
  refine ⟨hf, M.map (fun x => mvV 100 (elG 100 [] 0 [((p : Int), (p : Int), T)]) x false), elG_one14, h1, e1, ?_, by simp, fun i x hx => ?_⟩
  · rw [e2, hn]
    refine edK_all (m := 99) (fun x y hx hxy hy => ?_) (fun x hx0 hx1 => ?_) hM (Int.le_refl _) (fun x hx => ?_)
    · rw [hfx x (by omega) (by omega), hfx y (by omega) (by omega)]
      split <;> split <;> omega
    · rw [hfx x (by omega) (by omega)]
      split <;> omega
    · have := ris_mem hM hx
      rw [hfx x (by omega) (by omega)]
      split <;> omega
  · have := ris_mem hM (List.mem_of_getElem? hx)
    rw [List.getElem?_map, hx, Option.map_some, hfx x (by omega) (by omega)]
/-- .. of the other. -/
structure Gq (Q : List El) (M O : List Int) : Prop where
  len : Q.length ≤ 60
  is : isB 100 Q = true
  e : ebE 100 Q M = 0
  l : ebL 100 Q M = O
  no : M = [] → O = []
  one : M ≠ [] → O = [1]
theorem gq_of {M : List Int} (hM : Ris 99 0 M) (hl : M.length ≤ 60) : flt 100 [(1, 99, [])] = 0 ∧ ∃ O, Gq (elG 100 [] 0 [(1, 99, [])]) M O := by
  have hf : flt 100 [(1, 99, [])] = 0 := flt_one14 (N := 100) (a := 1) (b := 99) (T := []) (by omega) (by omega) (by omega) (by simp) vld_nil
  obtain ⟨h1, h2⟩ := built14 hf elG_one14
  have hk : isK 100 M = true := isK_spec.2 ⟨hl, hM.mono (by omega)⟩
  obtain ⟨e1, e2⟩ := eb_ok (base := 100) ⟨h1, hk⟩
  have hn : (cel (elG 100 [] 0 [(1, 99, [])])).length = 2 := by
    rw [h2, bce_cut]
    simp only [List.length_append, rng_len]
    rfl
  have hfx : ∀ x, x ∈ M → mvV 100 (elG 100 [] 0 [(1, 99, [])]) x false = 1 := fun x hx => by
    have := ris_mem hM hx
    rw [(mvV_in h1 (by omega) (by omega)).1, h2, mvN_cut (by omega) (by omega) (by omega) (by omega) (by omega)]
    split <;> omega
  refine ⟨hf, _, elG_one14, h1, e1, rfl, fun e => ?_, fun e => ?_⟩
  · rw [e2, e]; rfl
  · rw [e2, hn]
    cases M with
    | nil => exact absurd rfl e
    | cons x l =>
      unfold edK
      rw [hfx x (by simp), if_pos (by omega), edK_none fun y hy => hfx y (by simp [hy])]
/-- One more among few. -/
theorem put_few2 {M : List Int} {y : Int} (h : Ris 99 0 M) (hl : M.length < 60) (h1 : 1 ≤ y) (h2 : y ≤ 98) : pbE y M = 0 ∧ Ris 99 0 (pbL y M) ∧ (pbL y M).length ≤ M.length + 1 := by
  have hk : isK 20000 M = true ∧ 1 ≤ y ∧ y < 20000 := ⟨isK_spec.2 ⟨by omega, h.mono (by omega)⟩, h1, by omega⟩
  by_cases hm : y ∈ M
  · obtain ⟨e1, e2⟩ := pb_there hk hm
    rw [e2]
    exact ⟨e1, h, by omega⟩
  · obtain ⟨e1, e2⟩ := pb_new hk hm (by omega)
    rw [e2]
    exact ⟨e1, insK_ris h (by omega) (by omega) hm, by rw [insK_len]; omega⟩
theorem edit_w16 {w : World} {v ev : Value} {L M : List Int} {es : List El} {e : Int} (h : NAt w v L) (hl : L.length ≤ 1000) (he : ElAt w ev es) (hi : isB 100 es = true) (tb : Nat × Nat) (hT : Tab w tb) (h1 : ebE 100 es L = e) (h2 : ebL 100 es L = M) :
    Calls Tryd.prog 15 #[v, .agg #[.int .i64 100, ev]] w fun r w' => ∃ v', r = .returned (.tuple #[v', .int .i64 e]) ∧ NAt w' v' M ∧ Below w.heap.size w w' := by
  subst h1 h2
  exact edit_any16 100 h (by omega) he ((dl_of hi).sm.mono (by omega)) tb hT
set_option maxHeartbeats 8000000 in
set_option maxRecDepth 100000 in
theorem go_any16 {w : World} {v : Value} {L : List Int} (at' : Int) (s : ByteArray) (hl : L.length ≤ maxLen) (hL : ∀ z ∈ L, 0 ≤ z ∧ z ≤ 255) (hat : 0 ≤ at' ∧ at' ≤ 255) (hs : s.size ≤ maxLen) (tb : Nat × Nat) (hT : Tab w tb) (hU : UT w) (h : UAt w v L) :
    Calls Tryd.prog 7 #[v, .int .u8 at', .string s] w fun e w' => e = .returned (.bool true) ∧ Below w.heap.size w w' := by
  have HK := Hid.mk7 (known16_any w hU)
  have HV := Hid.mk7 h
  have HT := Hid.mk7 hT
  have HBD := Hid.mk7 hL
  obtain ⟨a, cap, rfl⟩ := h.shape
  unfold maxLen at hl hs
  clear h hU hL hT
  by_cases hlong : 20 < L.length ∨ s.size < 1 ∨ 20 < s.size
  · go_enter Tryd.func7, Tryd.ntmps7
    go_wp2_with fail
    refine HK.out.mono ?_
    rintro e w0 ⟨rfl, b0⟩
    by_cases h1 : 20 < L.length
    · have d1 : decide ((20 : Int) < (L.length : Nat)) = true := decide_eq_true (by omega)
      have d2 : decide (20 < L.length) = true := decide_eq_true (by omega)
      go_wp2
      go_ret
      exact ⟨rfl, b0⟩
    have d1 : decide ((20 : Int) < (L.length : Nat)) = false := decide_eq_false (by omega)
    have d2 : decide (20 < L.length) = false := decide_eq_false (by omega)
    by_cases h2 : s.size < 1
    · have d3 : decide ((s.size : Int) < 1) = true := decide_eq_true (by omega)
      go_wp2
      go_ret
      exact ⟨rfl, b0⟩
    have d3 : decide ((s.size : Int) < 1) = false := decide_eq_false (by omega)
    have d4 : decide ((20 : Int) < (s.size : Int)) = true := decide_eq_true (by omega)
    go_wp2
    go_ret
    exact ⟨rfl, b0⟩
  have d1 : decide ((20 : Int) < (L.length : Nat)) = false := decide_eq_false (by omega)
  have d2 : decide (20 < L.length) = false := decide_eq_false (by omega)
  have d3 : decide ((s.size : Int) < 1) = false := decide_eq_false (by omega)
  have d4 : decide ((20 : Int) < (s.size : Int)) = false := decide_eq_false (by omega)
  have hL20 : L.length ≤ 20 := by omega
  have hs20 : s.size ≤ 20 := by omega
  clear hlong
  go_enter Tryd.func7, Tryd.ntmps7
  go_wp2_with fail
  refine HK.out.mono ?_
  rintro e w1 ⟨rfl, b1⟩
  have H1 := Hid.mk7 (HV.out.later b1)
  have T1 := Hid.mk7 (HT.out.later b1)
  have G1 := Hid.mk7 b1
  clear b1 HV HK HT
  go_wp2
  clear d1 d2 d3 d4
  go_loopw [7, 8] (fun mv iv wr => ∃ (i : Nat) (M : List Int), i ≤ L.length ∧ M.length ≤ i ∧ iv = .int .i64 (i : Nat) ∧ Hid (NAt wr mv M) ∧ Hid (Ris 99 0 M) ∧ Hid (Below w1.heap.size w1 wr)) (fun _ iv _ => L.length - (intOf iv).toNat)
  case atStart => exact ⟨0, [], Nat.zero_le _, Nat.le_refl _, rfl, nat_nil _, trivial, Below.refl _ _⟩
  case round =>
    obtain ⟨i, M, hi, hml, rfl, HM, HR, HB⟩ := hrel
    by_cases hlt : i < L.length
    · obtain ⟨x, hr⟩ : ∃ r, L[i]? = some r := ⟨L[i], List.getElem?_eq_getElem hlt⟩
      have hx := HBD.out x (List.mem_of_getElem? hr)
      obtain ⟨g1, o1, rfl, q0⟩ := H1.out.cell hr
      have c0 := cell_later7 HB.out (Nat.le_refl _) q0
      obtain ⟨e1, e2, e3⟩ := put_few2 (y := x % 98 + 1) HR.out (by omega) (by omega) (by omega)
      have HP := Hid.mk7 (put_w16 HM.out (by omega) e1 rfl)
      have HR2 := Hid.mk7 e2
      clear q0 hr e1 e2
      generalize pbL (x % 98 + 1) M = M2 at *
      go_wp2_with fail
      refine HP.out.mono ?_
      rintro e w3 ⟨v3, rfl, n3, b3⟩
      have HM3 := Hid.mk7 n3
      have HB3 := Hid.mk7 (below_old HB.out b3)
      clear n3 b3 HP HM HB HR c0
      go_wp2
      go_roundw
      case rel => exact ⟨i + 1, M2, by omega, by omega, by go_num, HM3, HR2, HB3⟩
      case measure => simp [intOf]; omega
    · obtain rfl : i = L.length := by omega
      have hm20 : M.length ≤ 20 := by omega
      obtain ⟨p, hp⟩ : ∃ p : Nat, at' % 100 = (p : Int) := ⟨(at' % 100).toNat, by omega⟩
      have hp99 : p ≤ 99 := by omega
      obtain ⟨ma, mc, hsh⟩ := nat_shape HM.out
      subst hsh
      have T2 := Hid.mk7 (T1.out.later HB.out)
      have G2 := Hid.mk7 (below_old G1.out HB.out)
      have hTl : s.data.toList.length ≤ 20 := by rw [bytes_length]; exact hs20
      have HTS : Hid (s.data.toList.length = s.size) := bytes_length s
      clear T1 G1 HB H1
      generalize wr = w2 at *
      have bz : Below w2.heap.size w2 (w2.alloc (.cells #[.int .i64 (p : Nat), .int .i64 (p : Nat), .string s] 51)) := below16 (Below.refl _ _) _
      have A3 := Hid.mk7 (el_lit14 w2 (w2.heap.size) (rfl) [((p : Int), (p : Int), s.data.toList)] #[.int .i64 (p : Nat), .int .i64 (p : Nat), .string s] 51 (by rw [c3_one, cacc_bytes]) 1 rfl)
      have T3 := Hid.mk7 (T2.out.later bz)
      have G3 := Hid.mk7 (below_old G2.out bz)
      have M3 := Hid.mk7 (HM.out.later bz)
      clear bz T2 G2 HM
      cases hv : vld s.data.toList with
      | false =>
        have FP : flt 100 [((p : Int), (p : Int), s.data.toList)] = 12 := flt_bad14 (N := 100) (by omega) (by omega) hv
        clear hv
        go_wp2_with fail
        refine (build_bv (tb := tb) FP (by omega) (fun e he => by simp at he; subst he; simp only; omega) (by simp) A3.out T3.out).mono ?_
        rintro e w4 ⟨rfl, b4⟩
        have G4 := Hid.mk7 (below_old G3.out b4)
        have G5 := Hid.mk7 (below16 G4.out (.cells #[.int .i64 0, .slice none 0 0] 25))
        clear b4 G3 G4 A3 T3 M3
        go_wp2
        go_ret
        exact ⟨rfl, G5.out⟩
      | true =>
        obtain ⟨FP, N, hgp⟩ := gp_of (p := p) (T := s.data.toList) (M := M) hp99 hTl hv HR.out (by omega)
        obtain ⟨P, hP⟩ : ∃ P, elG 100 [] 0 [((p : Int), (p : Int), s.data.toList)] = P := ⟨_, rfl⟩
        rw [hP] at hgp
        have GP := Hid.mk7 hgp
        have PEQ := Hid.mk7 hP
        have FPH := Hid.mk7 FP
        clear hv hP hgp FP
        go_wp2_with fail
        refine (build_v (tb := tb) FPH.out PEQ.out GP.out.len (fun e he => by simp at he; subst he; simp only; omega) (by simp) (by rw [inS_one14]; omega) A3.out T3.out).mono ?_
        rintro e w4 ⟨v4, rfl, h4, b4⟩
        obtain ⟨a4, c4, rfl, _, _, _⟩ := id h4
        have bz : Below w4.heap.size w4 (w4.alloc (.cells #[.int .i64 100, .slice a4 P.length c4] 25)) := below16 (Below.refl _ _) _
        have D5 := Hid.mk7 (@Rd.new w4 (.int .i64 100) (.slice a4 P.length c4))
        have T5 := Hid.mk7 ((T3.out.later b4).later bz)
        have G5 := Hid.mk7 (below_old (below_old G3.out b4) bz)
        have M5 := Hid.mk7 ((M3.out.later b4).later bz)
        have E5 := Hid.mk7 (h4.later bz)
        have HED := Hid.mk7 (edit_w16 M5.out (by omega) E5.out GP.out.is tb T5.out GP.out.e GP.out.l)
        have r0 := D5.out.c0
        have r1 := D5.out.c1
        clear b4 bz h4 G3 M3 T3 A3 FPH PEQ
        go_wp2_with fail
        refine HED.out.mono ?_
        rintro e w6 ⟨v6, rfl, n6, b6⟩
        have T6 := Hid.mk7 (T5.out.later b6)
        have G6 := Hid.mk7 (below_old G5.out b6)
        have M6 := Hid.mk7 (M5.out.later b6)
        have N6 := Hid.mk7 n6
        obtain ⟨na, nc, hsh⟩ := nat_shape n6
        subst hsh
        have hnl := GP.out.nl
        have dnl : ((N.length : Int) != (M.length : Int)) = false := by simpa using (by omega : (N.length : Int) = (M.length : Int))
        have HN := Hid.mk7 GP.out.at'
        rw [HTS.out] at HN
        clear n6 b6 HED T5 G5 M5 D5 E5 r0 r1 GP
        obtain ⟨nl, hnll⟩ : ∃ nl, N.length = nl := ⟨_, rfl⟩
        obtain ⟨FQ, O, hgq⟩ := gq_of (M := M) HR.out (by omega)
        obtain ⟨Q, hQ⟩ : ∃ Q, elG 100 [] 0 [(1, 99, [])] = Q := ⟨_, rfl⟩
        rw [hQ] at hgq
        have GQ := Hid.mk7 hgq
        have QEQ := Hid.mk7 hQ
        have FQH := Hid.mk7 FQ
        clear hQ hgq FQ hnll
        go_wp2
        go_loopw [16] (fun iv wr => ∃ k : Nat, k ≤ M.length ∧ iv = .int .i64 (k : Nat) ∧ wr = w6) (fun iv _ => M.length - (intOf iv).toNat)
        case atStart => exact ⟨0, Nat.zero_le _, rfl, rfl⟩
        case round =>
          obtain ⟨k, hk, rfl, rfl⟩ := hrel
          by_cases hlk : k < M.length
          · obtain ⟨x, hr⟩ : ∃ r, M[k]? = some r := ⟨M[k], List.getElem?_eq_getElem hlk⟩
            have hxb := ris_mem HR.out (List.mem_of_getElem? hr)
            have hr2 := HN.out k x hr
            obtain ⟨g1, o1, hga, c0⟩ := nat_cell M6.out hr
            obtain ⟨g2, o2, hgb, c1⟩ := nat_cell N6.out hr2
            subst hga hgb
            have hkn : k < N.length := by omega
            clear hr hr2
            by_cases hpx : (p : Int) < x
            · have dp : decide ((p : Int) < x) = true := decide_eq_true hpx
              rw [if_pos hpx] at c1
              have de : (x + (s.size : Int) != x + (s.size : Int)) = false := by simp
              go_wp2
              go_roundw
              case rel => exact ⟨k + 1, by omega, by go_num, trivial⟩
              case measure => simp [intOf]; omega
            · have dp : decide ((p : Int) < x) = false := decide_eq_false hpx
              rw [if_neg hpx] at c1
              have de : (x != x) = false := by simp
              go_wp2
              go_roundw
              case rel => exact ⟨k + 1, by omega, by go_num, trivial⟩
              case measure => simp [intOf]; omega
          · obtain rfl : k = M.length := by omega
            clear HN N6
            generalize wr = w7 at *
            have bz : Below w7.heap.size w7 (w7.alloc (.cells #[.int .i64 1, .int .i64 99, .string ⟨#[]⟩] 51)) := below16 (Below.refl _ _) _
            have A8 := Hid.mk7 (el_lit14 w7 (w7.heap.size) (rfl) [(1, 99, [])] #[.int .i64 1, .int .i64 99, .string ⟨#[]⟩] 51 rfl 1 rfl)
            have T8 := Hid.mk7 (T6.out.later bz)
            have G8 := Hid.mk7 (below_old G6.out bz)
            have M8 := Hid.mk7 (M6.out.later bz)
            clear bz T6 G6 M6
            go_wp2_with fail
            refine (build_v (tb := tb) FQH.out QEQ.out GQ.out.len (fun e he => by simp at he; subst he; simp) (by simp) (by rw [inS_one14]; simp) A8.out T8.out).mono ?_
            rintro e w9 ⟨v9, rfl, h9, b9⟩
            obtain ⟨a9, c9, rfl, _, _, _⟩ := id h9
            have bz : Below w9.heap.size w9 (w9.alloc (.cells #[.int .i64 100, .slice a9 Q.length c9] 25)) := below16 (Below.refl _ _) _
            have D10 := Hid.mk7 (@Rd.new w9 (.int .i64 100) (.slice a9 Q.length c9))
            have T10 := Hid.mk7 ((T8.out.later b9).later bz)
            have G10 := Hid.mk7 (below_old (below_old G8.out b9) bz)
            have M10 := Hid.mk7 ((M8.out.later b9).later bz)
            have E10 := Hid.mk7 (h9.later bz)
            have HED := Hid.mk7 (edit_w16 M10.out (by omega) E10.out GQ.out.is tb T10.out GQ.out.e GQ.out.l)
            have r0 := D10.out.c0
            have r1 := D10.out.c1
            clear b9 bz h9 G8 M8 T8 A8 FQH QEQ
            go_wp2_with fail
            refine HED.out.mono ?_
            rintro e w11 ⟨v11, rfl, n11, b11⟩
            have G11 := Hid.mk7 (below_old G10.out b11)
            obtain ⟨oa, oc, hsh⟩ := nat_shape n11
            subst hsh
            have N11 := Hid.mk7 n11
            clear n11 b11 HED T10 G10 M10 D10 E10 r0 r1
            by_cases hne : M = []
            · have hO := GQ.out.no hne
              subst hO
              have dm : ((M.length : Int) == 0) = true := by rw [hne]; rfl
              clear hne
              go_wp2
              go_ret
              exact ⟨rfl, G11.out⟩
            · have hO := GQ.out.one hne
              have hpos : 0 < M.length := List.length_pos_iff.2 hne
              subst hO
              have dm : ((M.length : Int) == 0) = false := by simpa using (by omega : ¬ (M.length : Int) = 0)
              have dm2 : decide ((0 : Int) < (M.length : Int)) = true := decide_eq_true (by omega)
              have dm3 : decide (0 < M.length) = true := decide_eq_true (by omega)
              obtain ⟨g3, o3, hgc, c3'⟩ := nat_cell N11.out (i := 0) (x := 1) rfl
              subst hgc
              rw [Nat.add_zero] at c3'
              have l1 : ([1] : List Int).length = 1 := rfl
              rw [l1]
              clear hne l1
              go_wp2
              go_ret
              exact ⟨rfl, G11.out⟩
end Go.Proofs.YtafhogfbjklboaaDoor
