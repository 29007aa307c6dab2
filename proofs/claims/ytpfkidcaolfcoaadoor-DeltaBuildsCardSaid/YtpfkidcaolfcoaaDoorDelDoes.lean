/- fewChanges, few; what is made of a text; DeltaDoes walked. -/
import Derived.Test.YtpfkidcaolfcoaaDoorDelKeeps
import Derived.Test.YtpfkidcaolfcoaaDoorDelLong
namespace Go.Proofs.YtpfkidcaolfcoaaDoor
open Go.RowKit Go.Sort Go.Lib
set_option linter.unusedSimpArgs false
set_option linter.unusedVariables false

def fewC (l : List El) : Bool := (l.all fun e => decide (e.2.2.length ≤ 100)) && decide (l.length ≤ 50)
set_option maxHeartbeats 1000000 in
set_option maxRecDepth 100000 in
theorem fewC_any {w : World} {v : Value} {l : List El} (h : ElAt w v l) (hl : l.length ≤ maxLen) :
    Calls Tryd.prog 21 #[v] w fun e w' => e = .returned (.bool (fewC l)) ∧ RowKit.Below w.heap.size w w' := by
  obtain ⟨a, cap, rfl, hcap, _, hcells⟩ := h
  have HC := Hid.mk7 hcells
  unfold maxLen at hl
  clear hcells
  go_enter Tryd.func21, Tryd.ntmps21
  go_wp2
  go_loopw [3] (fun iv wr => ∃ k : Nat, k ≤ l.length ∧ iv = .int .i64 (k : Nat) ∧ Hid ((l.take k).all (fun e => decide (e.2.2.length ≤ 100)) = true) ∧ RowKit.Below w.heap.size w wr) (fun iv _ => l.length - (intOf iv).toNat)
  case atStart => exact ⟨0, Nat.zero_le _, rfl, rfl, RowKit.Below.refl _ _⟩
  case round =>
    obtain ⟨k, hk, rfl, HA, hb⟩ := hrel
    by_cases hlt : k < l.length
    · obtain ⟨⟨f, t, T⟩, hr⟩ : ∃ r, l[k]? = some r := ⟨l[k], List.getElem?_eq_getElem hlt⟩
      obtain ⟨g, off, rfl, q0, q1, q2⟩ := HC.out k _ hr
      have c2 := cell_later7 hb (Nat.le_refl _) q2
      simp only at c2
      have HT2 := Hid.mk7 (all_take (p := fun e : El => decide (e.2.2.length ≤ 100)) hr)
      have HBAD := Hid.mk7 (all_bad (p := fun e : El => decide (e.2.2.length ≤ 100)) hr)
      have hs : (cacc T).size = T.length := cacc_size T
      clear q0 q1 q2 hr
      generalize cacc T = s at *
      by_cases h1 : 100 < s.size
      · have d1 : decide ((100 : Int) < (s.size : Int)) = true := decide_eq_true (by omega)
        have HF : Hid (fewC l = false) := by show _ = _; unfold fewC; rw [HBAD.out (decide_eq_false (by simp only; omega)), Bool.false_and]
        go_wp2
        go_ret
        exact ⟨ret_boolE HF.out.symm, hb⟩
      · have d1 : decide ((100 : Int) < (s.size : Int)) = false := decide_eq_false (by omega)
        have HA2 : Hid ((l.take (k + 1)).all (fun e => decide (e.2.2.length ≤ 100)) = true) := by show _ = _; rw [HT2.out, HA.out, Bool.true_and]; exact decide_eq_true (by simp only; omega)
        go_wp2
        go_roundw
        case rel => exact ⟨k + 1, by omega, by go_num, HA2, hb⟩
        case measure => simp [intOf]; omega
    · obtain rfl : k = l.length := by omega
      have HF : Hid (fewC l = decide ((l.length : Int) ≤ 50)) := by
        show _ = _
        have := HA.out
        rw [List.take_length] at this
        unfold fewC
        rw [this, Bool.true_and]
        exact decide_eq_decide.2 (by omega)
      go_wp2
      go_ret
      exact ⟨ret_boolE HF.out.symm, hb⟩
theorem fewC_sm {l : List El} (h : fewC l = true) : Sm l 100 ∧ l.length ≤ 50 ∧ inS l ≤ 5000 := by
  unfold fewC at h
  rw [Bool.and_eq_true, decide_eq_true_eq] at h
  have h1 : Sm l 100 := fun e he => of_decide_eq_true (List.all_eq_true.1 h.1 e he)
  have h2 := inS_bd l 100 h1
  have h3 : 100 * l.length ≤ 100 * 50 := Nat.mul_le_mul_left _ h.2
  exact ⟨h1, h.2, by omega⟩
/-- What changes make of a text, from a on. -/
def dz (s : List UInt8) : Nat → List El → List UInt8
  | a, [] => s.drop a
  | a, (f, t, T) :: l => (s.drop a).take (f.toNat - a) ++ T ++ dz s t.toNat l
theorem dz_apl {n : Nat} {s : List UInt8} (hs : s.length = n) : ∀ (l : List El) (a : Nat), Chs n a l → apl (bce n a l) s = dz s a l
  | [], a, h => by
    simp only [Chs] at h
    simp only [bce, dz]
    rw [apl_rng (by omega) (by omega) (by omega), Int.toNat_natCast]
    rw [List.take_of_length_le]
    rw [List.length_drop]; omega
  | (f, t, T) :: l, a, h => by
    obtain ⟨h1, h2, h3, h4⟩ := h
    obtain ⟨t', rfl⟩ : ∃ t' : Nat, t = (t' : Int) := ⟨t.toNat, by omega⟩
    simp only [bce, dz]
    rw [apl_append, apl_append, apl_own, apl_rng (by omega) h1 (by omega), dz_apl hs l t' h4, Int.toNat_natCast, Int.toNat_natCast]
    rw [show (f - (a : Int)).toNat = f.toNat - a by omega]
theorem dz_step {s : List UInt8} {l : List El} {k a : Nat} {f t : Int} {T : List UInt8} (hr : l[k]? = some (f, t, T)) : dz s a (l.drop k) = ((s.drop a).take (f.toNat - a) ++ T) ++ dz s t.toNat (l.drop (k + 1)) := by
  rw [drop_consE hr]; rfl
theorem dz_len {n : Nat} {s : List UInt8} (hs : s.length = n) {l : List El} (h : Chs n 0 l) : ((dz s 0 l).length : Int) = sz8 n l := by
  rw [← dz_apl hs l 0 h]
  have := bce_size l 0 h
  simp only [apl, List.length_map]
  show ((bce (n : Int) (0 : Int) l).length : Int) = _
  rw [this, Int.sub_zero]
theorem chs_step {n : Int} {l : List El} {k : Nat} {a f t : Int} {T : List UInt8} (hr : l[k]? = some (f, t, T)) (h : Chs n a (l.drop k)) : a ≤ f ∧ f ≤ t ∧ t ≤ n ∧ Chs n t (l.drop (k + 1)) := by
  rw [drop_consE hr] at h; exact h
set_option maxHeartbeats 8000000 in
set_option maxRecDepth 100000 in
theorem does11_any (s : ByteArray) {v : Value} {l : List El} (hs : s.size ≤ maxLen) (hl : l.length ≤ maxLen) (hsm : Sm l maxLen) (w : World) (tb : Nat × Nat) (hT : Tab w tb) (h : ElAt w v l) :
    Calls Tryd.prog 5 #[.string s, v] w fun e w' => e = .returned (.bool true) ∧ RowKit.Below w.heap.size w w' := by
  have HK := Hid.mk7 (known11_any w tb hT)
  have HT := Hid.mk7 hT
  have HV := Hid.mk7 h
  have HF := Hid.mk7 (fun W (hW : RowKit.Below w.heap.size w W) => fewC_any (h.later hW) hl)
  clear hT
  by_cases hlong : 200 < s.size
  · have t1 : decide ((200 : Int) < (s.size : Int)) = true := decide_eq_true (by omega)
    go_enter Tryd.func5, Tryd.ntmps5
    go_wp2_with fail
    refine HK.out.mono ?_
    rintro e w1 ⟨rfl, b1⟩
    go_wp2
    go_ret
    exact ⟨rfl, b1⟩
  have t1 : decide ((200 : Int) < (s.size : Int)) = false := decide_eq_false (by omega)
  have hn : s.size ≤ 200 := by omega
  by_cases hfew : fewC l = true
  case neg =>
    have hf' : fewC l = false := by simpa using hfew
    rw [hf'] at HF
    go_enter Tryd.func5, Tryd.ntmps5
    go_wp2_with fail
    refine HK.out.mono ?_
    rintro e w1 ⟨rfl, b1⟩
    go_wp2_with fail
    refine (HF.out _ b1).mono ?_
    rintro e w2 ⟨rfl, b2⟩
    go_wp2
    go_ret
    exact ⟨rfl, b1.trans (b2.mono b1.size)⟩
  rw [hfew] at HF
  obtain ⟨hsm1, hl50, hin⟩ := fewC_sm hfew
  clear hsm hfew hlong h
  by_cases hflt : flt (s.size : Nat) l = 0
  case neg =>
    obtain ⟨r, hr⟩ : ∃ r, flt (s.size : Nat) l = r := ⟨_, rfl⟩
    rw [hr] at hflt
    have HB := Hid.mk7 (fun W (hW : RowKit.Below w.heap.size w W) => build_bv (tb := tb) hr hflt (hsm1.mono (by omega)) (by omega) (HV.out.later hW) (HT.out.later hW))
    have d0 : (r != 0) = true := by simpa using hflt
    clear hr
    go_enter Tryd.func5, Tryd.ntmps5
    go_wp2_with fail
    refine HK.out.mono ?_
    rintro e w1 ⟨rfl, b1⟩
    go_wp2_with fail
    refine (HF.out _ b1).mono ?_
    rintro e w2 ⟨rfl, b2⟩
    have g2 := b1.trans (b2.mono b1.size)
    go_wp2_with fail
    refine (HB.out _ g2).mono ?_
    rintro e w3 ⟨rfl, b3⟩
    have g3 := below_newE (g2.trans (b3.mono g2.size)) (.cells #[.int .i64 0, .slice none 0 0] 24)
    go_wp2
    go_ret
    exact ⟨rfl, g3⟩
  by_cases hm : (elG (s.size : Nat) [] 0 l).length ≤ 60
  case neg =>
    have HB := Hid.mk7 (fun W (hW : RowKit.Below w.heap.size w W) => build_mv (tb := tb) hflt (by omega) (hsm1.mono (by omega)) (by omega) (by omega) (HV.out.later hW) (HT.out.later hW))
    go_enter Tryd.func5, Tryd.ntmps5
    go_wp2_with fail
    refine HK.out.mono ?_
    rintro e w1 ⟨rfl, b1⟩
    go_wp2_with fail
    refine (HF.out _ b1).mono ?_
    rintro e w2 ⟨rfl, b2⟩
    have g2 := b1.trans (b2.mono b1.size)
    go_wp2_with fail
    refine (HB.out _ g2).mono ?_
    rintro e w3 ⟨rfl, b3⟩
    have g3 := below_newE (g2.trans (b3.mono g2.size)) (.cells #[.int .i64 0, .slice none 0 0] 24)
    go_wp2
    go_ret
    exact ⟨rfl, g3⟩
  have gd := gd_of hflt
  have IS := Hid.mk7 (isB_elG hflt hm)
  have HN : s.data.toList.length = s.size := bytes_length s
  have AP : Hid (cacc (apl (cel (elG (s.size : Nat) [] 0 l)) s.data.toList) = cacc (dz s.data.toList 0 l)) := by
    show _ = _
    rw [cel_elG l [] 0 gd.ch, show ownT [] = [] from rfl, List.nil_append]
    have := dz_apl HN l 0 gd.ch
    rw [← this]; rfl
  have IN : Hid ((inS (elG (s.size : Nat) [] 0 l) : Int) = (inS l : Int)) := by show _ = _; rw [inS_elG]; simp
  have hcps := cpS_elG gd.ch
  have hsz := elG_size gd.ch
  have hdl := dz_len HN gd.ch
  have hbl : Bd l := fun e he => by have := of_decide_eq_true (List.all_eq_true.1 gd.wt e he); omega
  have hcs8 : sz8 (s.size : Nat) l = (s.size : Int) + (inS l : Int) - cpS l := by
    have : ∀ l : List El, (l.map fun e => (e.2.2.length : Int) - (e.2.1 - e.1)).sum = (inS l : Int) - cpS l := by
      intro l
      induction l with
      | nil => rfl
      | cons e l ih => simp only [List.map_cons, List.sum_cons, inS, cpS] at *; omega
    unfold sz8
    rw [this]
    omega
  have DR : Hid ((s.size : Int) - cpS (elG (s.size : Nat) [] 0 l) = cpS l) := by show _ = _; omega
  have SZ : Hid (szE (elG (s.size : Nat) [] 0 l) = ((dz s.data.toList 0 l).length : Int)) := by show _ = _; omega
  have SZ5 : Hid (((dz s.data.toList 0 l).length : Int) ≤ 5200) := by show _ ≤ _; have hcb := cpS_bd l hbl; omega
  have CH := Hid.mk7 gd.ch
  have HBD := Hid.mk7 hbl
  have hcb := cpS_bd l hbl
  have HB := Hid.mk7 (fun W (hW : RowKit.Below w.heap.size w W) => build_v (tb := tb) hflt rfl hm (hsm1.mono (by omega)) (by omega) (by omega) (HV.out.later hW) (HT.out.later hW))
  have HSM := Hid.mk7 hsm1
  clear gd hcps hsz hdl hbl hcs8 hflt hsm1
  obtain ⟨E, hE⟩ : ∃ E, elG (s.size : Nat) [] 0 l = E := ⟨_, rfl⟩
  rw [hE] at IS AP IN DR SZ HB hm
  clear hE
  have hdl5 : (dz s.data.toList 0 l).length ≤ 5200 := by
    have := SZ5.out
    omega
  have HDL := Hid.mk7 hdl5
  go_enter Tryd.func5, Tryd.ntmps5
  go_wp2_with fail
  refine HK.out.mono ?_
  rintro e w1 ⟨rfl, b1⟩
  go_wp2_with fail
  refine (HF.out _ b1).mono ?_
  rintro e w2 ⟨rfl, b2⟩
  have g2 := b1.trans (b2.mono b1.size)
  go_wp2_with fail
  refine (HB.out _ g2).mono ?_
  rintro e w3 ⟨v3, rfl, h3, b3⟩
  obtain ⟨a3, cap3, rfl, _⟩ := id h3
  have g3' := g2.trans (b3.mono g2.size)
  have g3 := below_newE g3' (.cells #[.int .i64 (s.size : Nat), .slice a3 E.length cap3] 24)
  have EV3 := Hid.mk7 (h3.alloc (.cells #[.int .i64 (s.size : Nat), .slice a3 E.length cap3] 24))
  have RD3 := Hid.mk7 (Rd.new w3 (.int .i64 (s.size : Nat)) (.slice a3 E.length cap3))
  have TT3 := Hid.mk7 (HT.out.later g3)
  have HV3 := Hid.mk7 (HV.out.later g3)
  have G3 := Hid.mk7 g3
  clear HK HF HB HV HT b1 b2 g2 b3 g3 g3' h3
  obtain ⟨a, cap, rfl, hcap, _, hcells⟩ := id HV3.out
  have HC := Hid.mk7 hcells
  clear hcells
  have hml : l.length ≤ 50 := hl50
  go_wp2_with fail
  generalize hW : w3.alloc (.cells #[.int .i64 (s.size : Nat), .slice a3 E.length cap3] 24) = W at *
  clear hW
  go_wp2
  go_loopw [7, 8, 9, 10, 11] (fun tv av dv pv iv wr => ∃ (k at0 A : Nat) (D : Int) (t : List UInt8), k ≤ l.length ∧ iv = .int .i64 (k : Nat) ∧ tv = .string (cacc t) ∧ av = .int .i64 (at0 : Nat) ∧ dv = .int .i64 (A : Nat) ∧ pv = .int .i64 D ∧ at0 ≤ s.size ∧ A ≤ 5000 ∧ 0 ≤ D ∧ D ≤ 20000 * (k : Int) ∧ Hid (A = inS (l.take k)) ∧ Hid (D = cpS (l.take k)) ∧ Hid (dz s.data.toList 0 l = t ++ dz s.data.toList at0 (l.drop k)) ∧ Hid (Chs (s.size : Nat) at0 (l.drop k)) ∧ Hid (RowKit.Below W.heap.size W wr)) (fun _ _ _ _ iv _ => l.length - (intOf iv).toNat)
  case atStart => exact ⟨0, 0, 0, 0, [], Nat.zero_le _, rfl, rfl, rfl, rfl, rfl, Nat.zero_le _, by omega, by omega, by omega, by show _ = _; simp [inS], by show _ = _; simp [cpS], rfl, CH.out, RowKit.Below.refl _ _⟩
  case round =>
    obtain ⟨k, at0, A, D, t, hk, rfl, rfl, rfl, rfl, rfl, hat, hA, hD0, hD1, HA, HD, HZ, HCH, HBW⟩ := hrel
    have htl : t.length ≤ 5200 := by
      have h1 := congrArg List.length HZ.out
      rw [List.length_append] at h1
      have := HDL.out
      omega
    have hus : (cacc t).size = t.length := cacc_size t
    by_cases hlt : k < l.length
    · obtain ⟨⟨f0, t0, T⟩, hr⟩ : ∃ r, l[k]? = some r := ⟨l[k], List.getElem?_eq_getElem hlt⟩
      obtain ⟨h1, h2, h3, h4⟩ := chs_step hr HCH.out
      obtain ⟨f, rfl⟩ : ∃ n : Nat, f0 = (n : Int) := ⟨f0.toNat, by omega⟩
      obtain ⟨to0, rfl⟩ : ∃ n : Nat, t0 = (n : Int) := ⟨t0.toNat, by omega⟩
      obtain ⟨g, off, rfl, q0, q1, q2⟩ := HC.out k _ hr
      have c0 := cell_later7 HBW.out (Nat.le_refl _) q0
      have c1 := cell_later7 HBW.out (Nat.le_refl _) q1
      have c2 := cell_later7 HBW.out (Nat.le_refl _) q2
      simp only at c0 c1 c2
      have hT1 := HSM.out _ (List.mem_of_getElem? hr)
      simp only at hT1
      have HA2 : Hid (A + T.length = inS (l.take (k + 1))) := by show _ = _; rw [HA.out, inS_take hr]
      have hA2 : A + T.length ≤ 5000 := by have := HA2.out; have := inS_take_le l (k + 1); omega
      have HD2 : Hid (D + (to0 : Int) - (f : Int) = cpS (l.take (k + 1))) := by show _ = _; rw [HD.out, take_snoc7 hr, cpS_append]; simp [cpS]; omega
      have HBT := HBD.out _ (List.mem_of_getElem? hr)
      simp only at HBT
      have HZ2 : Hid (dz s.data.toList 0 l = (t ++ ((s.data.toList.drop at0).take (f - at0) ++ T)) ++ dz s.data.toList to0 (l.drop (k + 1))) := by
        show _ = _
        rw [HZ.out, dz_step hr, Int.toNat_natCast, Int.toNat_natCast]; simp
      have HCH2 := Hid.mk7 h4
      obtain ⟨x, hx⟩ : ∃ x : ByteArray, s.extract at0 f = x := ⟨_, rfl⟩
      have HS2 : Hid ((cacc t ++ x) ++ cacc T = cacc (t ++ ((s.data.toList.drop at0).take (f - at0) ++ T))) := by
        show _ = _
        rw [← hx, show s.extract at0 f = cacc ((s.data.toList.drop at0).take (f - at0)) from by rw [← bytes_ext, cacc_bytes], cacc_append, cacc_append, List.append_assoc]
      have hxs : x.size ≤ 200 := by rw [← hx, ByteArray.size_extract]; omega
      have hzs : (cacc T).size = T.length := cacc_size T
      have f4 : ((f : Int) ≤ (s.size : Int)) = True := by simp; omega
      have f5 : ((at0 : Int) ≤ (f : Int)) = True := by simp; omega
      have f6 : f ≤ s.size := by omega
      have f7 : at0 ≤ f := by omega
      have f8 : to0 ≤ s.size := by omega
      have f9 : f ≤ to0 := by omega
      clear q0 q1 q2 hr h1 h2 h3 h4 HZ HCH HBT
      generalize cacc t = u at *
      generalize cacc T = z at *
      generalize T.length = Tl at *
      subst hzs
      go_wp2_with fail
      go_quiet (fail)
      go_wp2_with fail
      go_quiet (fail)
      go_wp2
      go_roundw
      case rel => exact ⟨k + 1, to0, A + z.size, D + (to0 : Int) - (f : Int), _, by omega, by go_num, congrArg Value.string HS2.out, rfl, by go_num, by go_num, f8, hA2, by omega, by omega, HA2, HD2, HZ2, HCH2, below_drewN HBW.out _⟩
      case measure => simp [intOf]; omega
    · obtain rfl : k = l.length := by omega
      have hz := HZ.out
      rw [List.drop_length, show dz s.data.toList at0 [] = s.data.toList.drop at0 from rfl] at hz
      obtain ⟨Dz, hDz⟩ : ∃ x, cacc (dz s.data.toList 0 l) = x := ⟨_, rfl⟩
      have hdz : cacc t ++ s.extract at0 s.size = Dz := by
        rw [← hDz, hz, ← cacc_append]
        congr 1
        rw [← cacc_bytes (s.extract at0 s.size), bytes_ext, List.take_of_length_le (by rw [List.length_drop, bytes_length]; omega)]
      have hds : (Dz.size : Int) = ((dz s.data.toList 0 l).length : Int) := by rw [← hDz, cacc_size]
      have AP2 : Hid (cacc (apl (cel E) s.data.toList) = Dz) := by show _ = _; rw [AP.out, hDz]
      have IN2 : Hid ((inS E : Int) = (A : Int)) := by
        show _ = _
        have := HA.out
        rw [List.take_length] at this
        rw [IN.out, this]
      have DR2 : Hid ((s.size : Int) - cpS E = D) := by
        show _ = _
        have := HD.out
        rw [List.take_length] at this
        rw [DR.out, this]
      have SZ2 : Hid (szE E = (Dz.size : Int)) := by show _ = _; rw [SZ.out, hds]
      have EV4 := Hid.mk7 (EV3.out.later HBW.out)
      have RD4 := Hid.mk7 (RD3.out.later HBW.out)
      have TT4 := Hid.mk7 (TT3.out.later HBW.out)
      have G4 := Hid.mk7 (G3.out.trans (HBW.out.mono G3.out.size))
      have d0 := RD4.out.c0
      have d1 := RD4.out.c1
      clear EV3 RD3 TT3 G3 AP IN DR SZ hz hDz hds HZ HCH HA HD CH
      have f7 : at0 ≤ s.size := hat
      have f4 : ((at0 : Int) ≤ (s.size : Int)) = True := by simp; omega
      generalize cacc t = u at *
      go_wp2_with fail
      refine (apply_v IS.out rfl AP2.out EV4.out TT4.out).mono ?_
      rintro e w4 ⟨rfl, b4⟩
      have EV5 := Hid.mk7 (EV4.out.later b4)
      have RD5 := Hid.mk7 (RD4.out.later b4)
      have TT5 := Hid.mk7 (TT4.out.later b4)
      have G5 := Hid.mk7 (G4.out.trans (b4.mono G4.out.size))
      clear EV4 RD4 TT4 G4 b4 d0 d1
      have d0 := RD5.out.c0
      have d1 := RD5.out.c1
      go_wp2_with fail
      refine (adds_v IS.out IN2.out EV5.out TT5.out).mono ?_
      rintro e w5 ⟨rfl, b5⟩
      have EV6 := Hid.mk7 (EV5.out.later b5)
      have RD6 := Hid.mk7 (RD5.out.later b5)
      have TT6 := Hid.mk7 (TT5.out.later b5)
      have G6 := Hid.mk7 (G5.out.trans (b5.mono G5.out.size))
      clear EV5 RD5 TT5 G5 b5 d0 d1
      have d0 := RD6.out.c0
      have d1 := RD6.out.c1
      go_wp2_with fail
      refine (drops_v IS.out DR2.out EV6.out TT6.out).mono ?_
      rintro e w6 ⟨rfl, b6⟩
      have EV7 := Hid.mk7 (EV6.out.later b6)
      have RD7 := Hid.mk7 (RD6.out.later b6)
      have TT7 := Hid.mk7 (TT6.out.later b6)
      have G7 := Hid.mk7 (G6.out.trans (b6.mono G6.out.size))
      clear EV6 RD6 TT6 G6 b6 d0 d1
      have d0 := RD7.out.c0
      have d1 := RD7.out.c1
      go_wp2_with fail
      refine (size_v IS.out SZ2.out EV7.out TT7.out).mono ?_
      rintro e w7 ⟨rfl, b7⟩
      have G8 := Hid.mk7 (G7.out.trans (b7.mono G7.out.size))
      clear EV7 RD7 TT7 G7 b7 d0 d1
      go_wp2
      go_ret
      exact ⟨rfl, G8.out⟩
end Go.Proofs.YtpfkidcaolfcoaaDoor
