/- palinodelaw12's few, is; the reference's Is, Same. -/
import Derived.Test.YtalolaajcmndeaaDoorDelRefSame
import Derived.Test.YtalolaajcmndeaaDoorDelRefIs
import Derived.Test.YtalolaajcmndeaaDoorDelHelp
import Derived.Test.YtalolaajcmndeaaDoorSubRefS
namespace Go.Proofs.YtalolaajcmndeaaDoor
open Go.RowKit Go.Sort Go.Lib
set_option linter.unusedSimpArgs false
set_option linter.unusedVariables false

set_option maxHeartbeats 2000000 in
set_option maxRecDepth 100000 in
theorem fewD12_any {w : World} {v : Value} {l : List El} (base : Int) (h : ElAt w v l) (hl : l.length ≤ maxLen) :
    Calls Tryd.prog 9 #[.agg #[.int .i64 base, v]] w fun e w' => e = .returned (.bool (fewD base l)) ∧ Below w.heap.size w w' := by
  obtain ⟨a, cap, rfl, _⟩ := id h
  have BB := Hid.mk7 (below_newE (Below.refl w.heap.size w) (.cells #[.int .i64 base, .slice a l.length cap] 24))
  have RD := Hid.mk7 (Rd.new w (.int .i64 base) (.slice a l.length cap))
  have HV := Hid.mk7 (h.alloc (.cells #[.int .i64 base, .slice a l.length cap] 24))
  clear h
  obtain ⟨_, _, hve, _, _, hcells⟩ := id HV.out
  cases hve
  have HC := Hid.mk7 hcells
  unfold maxLen at hl
  clear hcells HV
  have r0 := RD.out.c0
  have r1 := RD.out.c1
  go_enter Tryd.func9, Tryd.ntmps9
  go_wp2_with fail
  generalize w.alloc (.cells #[.int .i64 base, .slice a l.length cap] 24) = W0 at *
  go_wp2
  go_loopw [3] (fun iv wr => ∃ k : Nat, k ≤ l.length ∧ iv = .int .i64 (k : Nat) ∧ Hid ((l.take k).all (fun e => decide (e.2.2.length ≤ 200)) = true) ∧ Below W0.heap.size W0 wr) (fun iv _ => l.length - (intOf iv).toNat)
  case atStart => exact ⟨0, Nat.zero_le _, rfl, rfl, Below.refl _ _⟩
  case round =>
    obtain ⟨k, hk, rfl, HA, hb⟩ := hrel
    have s0 := (RD.out.later hb).c0
    have s1 := (RD.out.later hb).c1
    have hb2 := BB.out.trans (hb.mono BB.out.size)
    clear r0 r1
    by_cases hlt : k < l.length
    · obtain ⟨⟨f, t, T⟩, hr⟩ : ∃ r, l[k]? = some r := ⟨l[k], List.getElem?_eq_getElem hlt⟩
      obtain ⟨g, off, rfl, q0, q1, q2⟩ := HC.out k _ hr
      have c2 := cell_later7 hb (Nat.le_refl _) q2
      simp only at c2
      have HT2 := Hid.mk7 (all_take (p := fun e : El => decide (e.2.2.length ≤ 200)) hr)
      have HBAD := Hid.mk7 (all_bad (p := fun e : El => decide (e.2.2.length ≤ 200)) hr)
      have hs : (cacc T).size = T.length := cacc_size T
      clear q0 q1 q2 hr
      generalize cacc T = s at *
      by_cases h1 : 200 < s.size
      · have d1 : decide ((200 : Int) < (s.size : Int)) = true := decide_eq_true (by omega)
        have HF : Hid (fewD base l = false) := by show _ = _; unfold fewD; rw [HBAD.out (decide_eq_false (by simp only; omega)), Bool.false_and]
        go_wp2
        go_ret
        exact ⟨ret_boolE HF.out.symm, hb2⟩
      · have d1 : decide ((200 : Int) < (s.size : Int)) = false := decide_eq_false (by omega)
        have HA2 : Hid ((l.take (k + 1)).all (fun e => decide (e.2.2.length ≤ 200)) = true) := by show _ = _; rw [HT2.out, HA.out, Bool.true_and]; exact decide_eq_true (by simp only; omega)
        go_wp2
        go_roundw
        case rel => exact ⟨k + 1, by omega, by go_num, HA2, hb⟩
        case measure => simp [intOf]; omega
    · obtain rfl : k = l.length := by omega
      have HF : Hid (fewD base l = (decide (base ≤ 400) && decide ((l.length : Int) ≤ 70))) := by
        show _ = _
        have := HA.out
        rw [List.take_length] at this
        unfold fewD
        rw [this, Bool.true_and]
        congr 1
        exact decide_eq_decide.2 (by omega)
      by_cases hb4 : base ≤ 400
      · have e4 : decide (base ≤ 400) = true := decide_eq_true hb4
        rw [e4, Bool.true_and] at HF
        go_wp2
        go_ret
        exact ⟨ret_boolE HF.out.symm, hb2⟩
      · have e4 : decide (base ≤ 400) = false := decide_eq_false hb4
        rw [e4, Bool.false_and] at HF
        go_wp2
        go_ret
        exact ⟨ret_boolE HF.out.symm, hb2⟩
set_option maxHeartbeats 1600000 in
set_option maxRecDepth 100000 in
theorem is12_true {w : World} {s v : Value} {L : List Int} (hs : Sub w s L) (hv : NumAt .i64 w v L) (hl : L.length ≤ 20000) :
    Calls Tryd.prog 17 #[s, v] w fun e w' => e = .returned (.bool true) ∧ Below w.heap.size w w' := by
  have HS := Hid.mk7 hs
  obtain ⟨a, cap, rfl, hcap, hcells⟩ := hv
  have HC := Hid.mk7 hcells
  have HLEN := Hid.mk7 (len_any7 hs (by omega))
  obtain ⟨b, v0, rfl, _⟩ := id hs
  clear hcells hs
  go_enter Tryd.func17, Tryd.ntmps17
  go_wp2_with fail
  refine HLEN.out.mono ?_
  rintro e w1 ⟨rfl, b1⟩
  clear HLEN
  go_wp2
  go_loopw [5] (fun iv wr => ∃ k : Nat, k ≤ L.length ∧ iv = .int .i64 (k : Nat) ∧ Below w.heap.size w wr) (fun iv _ => L.length - (intOf iv).toNat)
  case atStart => exact ⟨0, Nat.zero_le _, rfl, b1⟩
  case round =>
    obtain ⟨k, hk, rfl, hb⟩ := hrel
    by_cases hlt : k < L.length
    · obtain ⟨z, hz⟩ : ∃ r, L[k]? = some r := ⟨L[k], List.getElem?_eq_getElem hlt⟩
      obtain ⟨g, off, rfl, q0⟩ := HC.out k _ hz
      have c0 := cell_later7 hb (Nat.le_refl _) q0
      have z0 := cell_regrown c0
      have CC : Hid (∀ d os, Calls Tryd.prog 38 #[.pointer (some ⟨b, 0, none⟩), .int .i64 (k : Nat)] (grow (redrawn wr d) os) fun e w'' => e = .returned (.int .i64 z) ∧ ∃ p : Regrown, w'' = grow (redrawn wr p.d) p.os) := fun d os => by
        have := count_any (k : Int) ((HS.out.later hb).later (below_regrown wr d os)) (by omega) (by omega)
        rw [show cnt L (k : Int) = z from by unfold cnt; rw [if_neg (by omega), Int.toNat_natCast, hz]; rfl] at this
        exact Calls.regrown_of this
      clear q0 hz
      go_wp2
      clear c0
      refine wp_region_quiet_below (by kernel_rfl) (by kernel_rfl) ?_
      repeat (go_big_quiet_step (exact CC.out _ _))
      refine wpQuiet_nil ?_
      intro _ hw'
      obtain ⟨⟨dq, osq⟩, hw''⟩ := hw'
      subst hw''
      have hb2 := hb.trans ((below_regrown wr dq osq).mono hb.size)
      clear z0 CC hb
      generalize grow (redrawn wr dq) osq = W at *
      go_wp2
      go_roundw
      case rel => exact ⟨k + 1, by omega, by go_num, hb2⟩
      case measure => simp [intOf]; omega
    · go_wp2
      go_ret
      exact ⟨rfl, hb⟩
theorem rsame_selfF {w : World} {u v : Value} {es : List El} (base : Int) (h1 : ElAt w u es) (h2 : ElAt w v es) (hl : es.length ≤ 60) :
    Calls Tryd.prog 18 #[.agg #[.int .i64 base, u], .agg #[.int .i64 base, v]] w fun e w' => e = .returned (.bool true) ∧ RowKit.Below w.heap.size w w' := by
  have := rsame_any base base h1 h2 (by omega)
  rw [decide_eq_true ⟨rfl, rfl⟩] at this
  exact this
theorem ris_yesF {w : World} {v : Value} {es : List El} {base : Int} (hi : isB base es = true) (h : ElAt w v es) :
    Calls Tryd.prog 13 #[.agg #[.int .i64 base, v]] w fun e w' => e = .returned (.bool true) ∧ RowKit.Below w.heap.size w w' := by
  have := ris_any base h ((dl_of hi).sm.mono (by unfold maxLen; omega))
  rw [hi] at this
  exact this
theorem ris_noF {w : World} {v : Value} {es : List El} {base : Int} (hi : isB base es = false) (hsm : Sm es maxLen) (h : ElAt w v es) :
    Calls Tryd.prog 13 #[.agg #[.int .i64 base, v]] w fun e w' => e = .returned (.bool false) ∧ RowKit.Below w.heap.size w w' := by
  have := ris_any base h hsm
  rw [hi] at this
  exact this
theorem cell_oneF (w : World) (x : Value) (e : TypeId) : ∀ (j : Nat) (u : Value), ([x] : List Value)[j]? = some u → (w.alloc (.cells #[x] e)).cell? ((⟨w.heap.size, 0, none⟩ : Addr).add j) = some u := by
  intro j u h
  rw [addr_add7, World.cell?_alloc_new]
  match j, h with
  | 0, h => simpa using h
theorem ownI_pushF {w' : World} {B : Nat} {v' : Value} {X : List Int} {c : Int} {n : Nat} (hn : X.length = n) (h : w'.ownsRow B 3 1 v' (n + 1) (X.map (Value.int .i64) ++ [.int .i64 c])) : OwnI w' B v' (X ++ [c]) := by
  show World.ownsRow _ _ _ _ _ _ _
  rw [List.length_append, hn, List.map_append]
  exact h
end Go.Proofs.YtalolaajcmndeaaDoor
