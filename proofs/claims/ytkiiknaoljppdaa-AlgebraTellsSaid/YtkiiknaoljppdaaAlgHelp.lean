/- Layer 8's made, is, of. -/
import Derived.Test.YtkiiknaoljppdaaAlgDel
import Derived.Test.YtkiiknaoljppdaaSubRefS
namespace Go.Proofs.Ytkiiknaoljppdaa
open Go.RowKit Go.Sort
set_option linter.unusedSimpArgs false
set_option linter.unusedVariables false

theorem cell_one8 (w : World) (x : Value) (e : TypeId) : ∀ (j : Nat) (u : Value), ([x] : List Value)[j]? = some u → (w.alloc (.cells #[x] e)).cell? ((⟨w.heap.size, 0, none⟩ : Addr).add j) = some u := by
  intro j u h
  rw [addr_add7, World.cell?_alloc_new]
  match j, h with
  | 0, h => simpa using h
/-- A row of Bools in memory. -/
def BoolAt (w : World) (v : Value) (bs : List Bool) : Prop :=
  ∃ a cap, v = .slice a bs.length cap ∧ bs.length ≤ cap ∧ ∀ i b, bs[i]? = some b → ∃ g off, a = some ⟨g, off, none⟩ ∧ w.cell? ⟨g, off + i, none⟩ = some (.bool b)
theorem BoolAt.later {w w' : World} {v : Value} {bs : List Bool} (h : BoolAt w v bs) (hb : Below w.heap.size w w') : BoolAt w' v bs := by
  obtain ⟨a, cap, e, hc, h⟩ := h
  refine ⟨a, cap, e, hc, fun i r hr => ?_⟩
  obtain ⟨g, off, ea, h1⟩ := h i r hr
  exact ⟨g, off, ea, cell_later7 hb (Nat.le_refl _) h1⟩
theorem BoolAt.take {w : World} {a : Option Addr} {n cap : Nat} {bs : List Bool} (h : BoolAt w (.slice a n cap) bs) (m : Nat) (hm : m ≤ n) : BoolAt w (.slice a m cap) (bs.take m) := by
  obtain ⟨a', cap', e, hc, h⟩ := h
  cases e
  have hl : (bs.take m).length = m := by simp; omega
  refine ⟨a, cap, by rw [hl], by omega, fun i b hb => ?_⟩
  rw [List.getElem?_take] at hb
  split at hb
  · exact h i b hb
  · cases hb
def b2i (b : Bool) : Int := if b then 1 else 0
set_option maxHeartbeats 800000 in
theorem made_any {w : World} {v : Value} {L : List Int} (h : NumAt .i64 w v L) (hL : Ok8 L) :
    Calls Try.prog 11 #[v] w fun e w' => (200 < (rle L).length ∧ e = .returned (.pointer none) ∨ (rle L).length ≤ 200 ∧ ∃ p, e = .returned p ∧ Sub w' p L) ∧ Below w.heap.size w w' := by
  have hl := hL.1
  have HS := Hid.mk7 (refsegs_any h (by omega))
  have HOL := Hid.mk7 hL
  clear h hL
  go_enter Try.func11, Try.ntmps11
  go_wp2_with fail
  refine HS.out.mono ?_
  rintro e w1 ⟨v1, rfl, o1, b1⟩
  have HOF := Hid.mk7 (of_any8 o1.row HOL.out)
  clear o1 HS
  go_wp2_with fail
  refine HOF.out.mono ?_
  rintro e w2 ⟨ho, b2⟩
  have g2 := b1.trans (b2.mono b1.size)
  rcases ho with ⟨hm, rfl⟩ | ⟨hm, pr, rfl, hs⟩
  · go_wp2
    go_ret
    exact ⟨Or.inl ⟨hm, rfl⟩, g2⟩
  · have HS := Hid.mk7 hs
    clear hs
    go_wp2
    go_ret
    exact ⟨Or.inr ⟨hm, pr, rfl, HS.out⟩, g2⟩
theorem made_ok {w : World} {v : Value} {L : List Int} (h : NumAt .i64 w v L) (hL : Ok8 L) (hr : (rle L).length ≤ 200) :
    Calls Try.prog 11 #[v] w fun e w' => ∃ p, e = .returned p ∧ Sub w' p L ∧ Below w.heap.size w w' := by
  refine (made_any h hL).mono ?_
  rintro e w' ⟨⟨hn, _⟩ | ⟨_, p, he, hs⟩, b⟩
  · omega
  · exact ⟨p, he, hs, b⟩
set_option maxHeartbeats 1600000 in
set_option maxRecDepth 100000 in
theorem is_true {w : World} {s v : Value} {L : List Int} (hs : Sub w s L) (hv : NumAt .i64 w v L) (hl : L.length ≤ 20000) :
    Calls Try.prog 24 #[s, v] w fun e w' => e = .returned (.bool true) ∧ Below w.heap.size w w' := by
  have HS := Hid.mk7 hs
  obtain ⟨a, cap, rfl, hcap, hcells⟩ := hv
  have HC := Hid.mk7 hcells
  have HLEN := Hid.mk7 (len_any7 hs (by omega))
  obtain ⟨b, v0, rfl, _⟩ := id hs
  clear hcells hs
  go_enter Try.func24, Try.ntmps24
  go_wp2_with fail
  refine HLEN.out.mono ?_
  rintro e w1 ⟨rfl, b1⟩
  clear HLEN
  go_wp2
  go_loopw [5] (fun iv wr => ∃ k : Nat, k ≤ L.length ∧ iv = .int .i64 (k : Nat) ∧ Below w.heap.size w wr) (fun iv _ => L.length - (intOf iv).toNat)
  case atStart => exact ⟨0, Nat.zero_le _, rfl, b1⟩
  case round =>
    obtain ⟨k, hk, rfl, hb⟩ := hrel
    by_cases hlt : k < L.length
    · obtain ⟨z, hz⟩ : ∃ r, L[k]? = some r := ⟨L[k], List.getElem?_eq_getElem hlt⟩
      obtain ⟨g, off, rfl, q0⟩ := HC.out k _ hz
      have c0 := cell_later7 hb (Nat.le_refl _) q0
      have z0 := cell_regrown c0
      have CC : Hid (∀ d os, Calls Try.prog 45 #[.pointer (some ⟨b, 0, none⟩), .int .i64 (k : Nat)] (grow (redrawn wr d) os) fun e w'' => e = .returned (.int .i64 z) ∧ ∃ p : Regrown, w'' = grow (redrawn wr p.d) p.os) := fun d os => by
        have := count_any (k : Int) ((HS.out.later hb).later (below_regrown wr d os)) (by omega) (by omega)
        rw [show cnt L (k : Int) = z from by unfold cnt; rw [if_neg (by omega), Int.toNat_natCast, hz]; rfl] at this
        exact Calls.regrown_of this
      clear q0 hz
      go_wp2
      clear c0
      refine wp_region_quiet_below (by kernel_rfl) (by kernel_rfl) ?_
      repeat (go_big_quiet_step (exact CC.out _ _))
      refine wpQuiet_nil ?_
      intro _ hw'
      obtain ⟨⟨dq, osq⟩, hw''⟩ := hw'
      subst hw''
      have hb2 := hb.trans ((below_regrown wr dq osq).mono hb.size)
      clear z0 CC hb
      generalize grow (redrawn wr dq) osq = W at *
      go_wp2
      go_roundw
      case rel => exact ⟨k + 1, by omega, by go_num, hb2⟩
      case measure => simp [intOf]; omega
    · go_wp2
      go_ret
      exact ⟨rfl, hb⟩
/-- One number more, at the end of a row of one's own. -/
theorem ownI_push {w' : World} {B : Nat} {v' : Value} {X : List Int} {c : Int} {n : Nat} (hn : X.length = n) (h : w'.ownsRow B 3 1 v' (n + 1) (X.map (Value.int .i64) ++ [.int .i64 c])) : OwnI w' B v' (X ++ [c]) := by
  show World.ownsRow _ _ _ _ _ _ _
  rw [List.length_append, hn, List.map_append]
  exact h
theorem take_map_succ {α β : Type} {l : List α} {k : Nat} {x : α} (f : α → β) (h : l[k]? = some x) : (l.take (k + 1)).map f = (l.take k).map f ++ [f x] := by
  rw [take_snoc7 h]; simp
theorem ok8_bools (bs : List Bool) (h : bs.length ≤ 20000) : Ok8 (bs.map b2i) := ⟨by simpa using h, fun c hc => by
  obtain ⟨b, _, rfl⟩ := List.mem_map.1 hc
  cases b <;> decide⟩
set_option maxHeartbeats 1600000 in
set_option maxRecDepth 100000 in
theorem of_bools {w : World} {v : Value} {bs : List Bool} (h : BoolAt w v bs) (hl : bs.length ≤ 200) :
    Calls Try.prog 30 #[v] w fun e w' => ∃ p, e = .returned p ∧ Sub w' p (bs.map b2i) ∧ Below w.heap.size w w' := by
  obtain ⟨i0, hi, hz0, hz1, hz2⟩ := info_parts Try.info_int7
  obtain ⟨a, cap, rfl, hcap, hcells⟩ := h
  have HC := Hid.mk7 hcells
  clear hcells
  go_enter Try.func30, Try.ntmps30
  go_wp2
  go_loopw [3, 4] (fun ov iv wr => ∃ k : Nat, k ≤ bs.length ∧ iv = .int .i64 (k : Nat) ∧ Hid (OwnI wr w.heap.size ov ((bs.take k).map b2i)) ∧ Below w.heap.size w wr) (fun _ iv _ => bs.length - (intOf iv).toNat)
  case atStart => exact ⟨0, Nat.zero_le _, rfl, OwnI.nil _ _, Below.refl _ _⟩
  case round =>
    obtain ⟨k, hk, rfl, HO, hb⟩ := hrel
    by_cases hlt : k < bs.length
    · obtain ⟨z, hz⟩ : ∃ r, bs[k]? = some r := ⟨bs[k], List.getElem?_eq_getElem hlt⟩
      obtain ⟨g, off, rfl, q0⟩ := HC.out k _ hz
      have c0 := cell_later7 hb (Nat.le_refl _) q0
      have HX := Hid.mk7 (take_map_succ b2i hz)
      have hLN : ((bs.take k).map b2i).length = k := by simp; omega
      have HLN := Hid.mk7 hLN
      have hsz := hb.size
      have HO1 : Hid (wr.ownsRow w.heap.size 3 1 u3 k (((bs.take k).map b2i).map (Value.int .i64))) := by
        have := HO.out
        unfold OwnI at this
        rw [hLN] at this
        exact this
      clear hLN hz q0 HO
      generalize (bs.take k).map b2i = X at *
      cases z
      · go_wp2_with (at_builtin; refine wpList_append_own _ rfl _ _ 24 rfl w.heap.size 3 i0 (.int .i64 0) 1 8 Try.underlying24 hi hz0 hz1 hz2 rfl (by decide) _ _ _ rfl (World.ownsRow.alloc HO1.out _) ⟨_, 0, none⟩ 1 1 [.int .i64 0] rfl rfl (cell_one8 _ _ _) (fun u hu => by simp at hu; subst hu; rfl) (by unfold maxLen; omega) (by omega) (by simp; omega) ?_)
        intro v' w3 hown' hgrow _
        have hb3 : Below w.heap.size w w3 := (hb.alloc hb.size _).grown hgrow (by simp; omega) (fun t ht => (HO1.out.lt _ ht).1)
        have HO3 : Hid (OwnI w3 w.heap.size v' ((bs.take (k + 1)).map b2i)) := by rw [HX.out]; exact ownI_push HLN.out hown'
        clear hown' hgrow HO1 HX c0
        go_wp2
        go_roundw
        case rel => exact ⟨k + 1, by omega, by go_num, HO3, hb3⟩
        case measure => simp [intOf]; omega
      · go_wp2_with (at_builtin; refine wpList_append_own _ rfl _ _ 24 rfl w.heap.size 3 i0 (.int .i64 0) 1 8 Try.underlying24 hi hz0 hz1 hz2 rfl (by decide) _ _ _ rfl (World.ownsRow.alloc HO1.out _) ⟨_, 0, none⟩ 1 1 [.int .i64 1] rfl rfl (cell_one8 _ _ _) (fun u hu => by simp at hu; subst hu; rfl) (by unfold maxLen; omega) (by omega) (by simp; omega) ?_)
        intro v' w3 hown' hgrow _
        have hb3 : Below w.heap.size w w3 := (hb.alloc hb.size _).grown hgrow (by simp; omega) (fun t ht => (HO1.out.lt _ ht).1)
        have HO3 : Hid (OwnI w3 w.heap.size v' ((bs.take (k + 1)).map b2i)) := by rw [HX.out]; exact ownI_push HLN.out hown'
        clear hown' hgrow HO1 HX c0
        go_wp2
        go_roundw
        case rel => exact ⟨k + 1, by omega, by go_num, HO3, hb3⟩
        case measure => simp [intOf]; omega
    · obtain rfl : k = bs.length := by omega
      have HM : Hid (Calls Try.prog 11 #[u3] wr fun e w' => ∃ p, e = .returned p ∧ Sub w' p (bs.map b2i) ∧ Below wr.heap.size wr w') := by
        have h1 := HO.out.num
        rw [List.take_length] at h1
        exact made_ok h1 (ok8_bools bs (by omega)) (Nat.le_trans (rle_len _) (by simpa using hl))
      clear HO
      go_wp2_with fail
      refine HM.out.mono ?_
      rintro e w4 ⟨p, rfl, hs, b4⟩
      have HS := Hid.mk7 hs
      have g4 := hb.trans (b4.mono hb.size)
      clear hs
      go_wp2
      go_ret
      exact ⟨p, rfl, HS.out, g4⟩
end Go.Proofs.Ytkiiknaoljppdaa
