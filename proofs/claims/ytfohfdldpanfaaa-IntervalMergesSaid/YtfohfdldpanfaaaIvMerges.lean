/- IntervalMerges walked. -/
import Derived.Test.YtfohfdldpanfaaaIvKnown
import Derived.Test.YtfohfdldpanfaaaIvMergeO
import Derived.Deep.CutRange
namespace Go.Proofs.Ytfohfdldpanfaaa
open Go.Shelf Go.RowKit Go.Lib Go.Sort
set_option linter.unusedSimpArgs false
set_option linter.unusedVariables false

/-- A row of a hundred signs in a cell of its own: place k bears P k. -/
def Bits (w : World) (g : Nat) (P : Nat → Bool) : Prop := ∀ k, k < 100 → w.cell? ⟨g, k, none⟩ = some (.bool (P k)) ∧ w.frozen? ⟨g, k, none⟩ = false
theorem Bits.later {w w' : World} {g : Nat} {P : Nat → Bool} (h : Bits w g P) (hb : RowKit.Below w.heap.size w w') (hg : g < w.heap.size) : Bits w' g P := fun k hk =>
  ⟨(hb.cell (p := ⟨g, k, none⟩) hg).trans (h k hk).1, by
    have e := hb.block g hg
    simp only [World.frozen?] at *
    rw [e]; exact (h k hk).2⟩
theorem Bits.set {w : World} {g : Nat} {P : Nat → Bool} (h : Bits w g P) (j : Nat) (hj : j < 100) (b : Bool) : Bits (w.setCell ⟨g, j, none⟩ (.bool b)) g (fun k => if k = j then b else P k) := fun k hk => by
  refine ⟨?_, by rw [World.frozen?_setCell]; exact (h k hk).2⟩
  by_cases e : k = j
  · subst e; dsimp only; rw [if_pos rfl]; exact World.cell?_setCell_same _ _ _ (h k hk).1
  · dsimp only; rw [if_neg e]; exact other_cell _ (by omega) (h k hk).1
set_option maxHeartbeats 4000000 in
set_option maxRecDepth 100000 in
theorem covers_any {w : World} {v1 v2 : Value} {L M : List Sg} (h1 : SgAt w v1 L) (h2 : SgAt w v2 M) (hl : L.length ≤ 40) (hm : M.length ≤ L.length) (hc : ∀ s ∈ L, s.1 ≤ s.2 → ∃ m ∈ M, m.1 ≤ s.1 ∧ s.2 ≤ m.2) :
    Calls Try.prog 15 #[v1, v2] w fun e w' => e = .returned (.bool true) ∧ RowKit.Below w.heap.size w w' := by
  obtain ⟨a1, cap1, rfl, hcap1, _, hc1⟩ := h1
  obtain ⟨a2, cap2, rfl, hcap2, _, hc2⟩ := h2
  have H1 := Hid.mk7 hc1
  have H2 := Hid.mk7 hc2
  have HC := Hid.mk7 hc
  clear hc1 hc2 hc
  go_enter Try.func15, Try.ntmps15
  go_wp2
  go_loopg [5] (L.length) (fun gk iv wr => ∃ i : Nat, i ≤ L.length ∧ L.length - i ≤ gk ∧ iv = .int .i64 (i : Nat) ∧ RowKit.Below w.heap.size w wr)
  case atStart => exact ⟨0, Nat.zero_le _, by omega, rfl, RowKit.Below.refl _ _⟩
  case round =>
    obtain ⟨i, hi, hgk, rfl, hb⟩ := hrel
    by_cases hlt : i < L.length
    · obtain ⟨⟨x, y⟩, hr⟩ : ∃ r, L[i]? = some r := ⟨L[i], List.getElem?_eq_getElem hlt⟩
      obtain ⟨g1, o1, rfl, p0, p1⟩ := H1.out i _ hr
      have c0 := cell_later7 hb (Nat.le_refl _) p0
      have c1 := cell_later7 hb (Nat.le_refl _) p1
      simp only at c0 c1
      have HX : Hid (x ≤ y → ∃ (k : Nat) (m : Sg), M[k]? = some m ∧ m.1 ≤ x ∧ y ≤ m.2) := fun h => by
        obtain ⟨m, hm, q⟩ := HC.out (x, y) (List.mem_of_getElem? hr) h
        obtain ⟨k, hk⟩ := List.getElem?_of_mem hm
        exact ⟨k, m, hk, q⟩
      clear p0 p1 hr
      have hz1 : (i : Int) < (L.length : Int) := by omega
      go_wp2_with fail
      go_quiet (fail)
      have hb2 := below_drewN hb nq
      have e0 : (wr.drewN nq).cell? ⟨g1, o1 + i * 2, none⟩ = some (.int .i64 x) := c0
      have e1 : (wr.drewN nq).cell? ⟨g1, o1 + i * 2 + 1, none⟩ = some (.int .i64 y) := c1
      clear c0 c1
      generalize wr.drewN nq = w2 at *
      go_wp2
      go_loopg [6, 7] (M.length) (fun gj ov kv wr2 => ∃ (k : Nat) (ok : Bool), k ≤ M.length ∧ M.length - k ≤ gj ∧ ov = .bool ok ∧ kv = .int .i64 (k : Nat) ∧ Hid (ok = true ↔ (y < x ∨ ∃ (j : Nat) (m : Sg), j < k ∧ M[j]? = some m ∧ m.1 ≤ x ∧ y ≤ m.2)) ∧ RowKit.Below w.heap.size w wr2 ∧ wr2.cell? ⟨g1, o1 + i * 2, none⟩ = some (.int .i64 x) ∧ wr2.cell? ⟨g1, o1 + i * 2 + 1, none⟩ = some (.int .i64 y))
      case atStart => exact ⟨0, decide (x > y), Nat.zero_le _, by omega, rfl, rfl, (by show _ ↔ _; simp), hb2, e0, e1⟩
      case round =>
        clear hb hb2 e0 e1
        obtain ⟨k, ok, hk, hgj, rfl, rfl, HK, hb, c0, c1⟩ := hrel
        by_cases hlk : k < M.length
        · obtain ⟨⟨p, q⟩, hq⟩ : ∃ r, M[k]? = some r := ⟨M[k], List.getElem?_eq_getElem hlk⟩
          obtain ⟨g2, o2, rfl, d0, d1⟩ := H2.out k _ hq
          have b0 := cell_later7 hb (Nat.le_refl _) d0
          have b1 := cell_later7 hb (Nat.le_refl _) d1
          simp only at b0 b1
          have HQ := Hid.mk7 hq
          have hz2 : (k : Int) < (M.length : Int) := by omega
          clear d0 d1 hq
          have HS : ∀ ok' : Bool, (ok' = true ↔ (ok = true ∨ (p ≤ x ∧ y ≤ q))) → Hid (ok' = true ↔ (y < x ∨ ∃ (j : Nat) (m : Sg), j < k + 1 ∧ M[j]? = some m ∧ m.1 ≤ x ∧ y ≤ m.2)) := fun ok' h => by
            show _ ↔ _
            rw [h, HK.out]
            constructor
            · rintro ((h | ⟨j, m, hj, hm, hh⟩) | h)
              · exact Or.inl h
              · exact Or.inr ⟨j, m, by omega, hm, hh⟩
              · exact Or.inr ⟨k, (p, q), by omega, HQ.out, h⟩
            · rintro (h | ⟨j, m, hj, hm, hh⟩)
              · exact Or.inl (Or.inl h)
              · by_cases e : j = k
                · subst e
                  rw [HQ.out] at hm
                  cases hm
                  exact Or.inr hh
                · exact Or.inl (Or.inr ⟨j, m, by omega, hm, hh⟩)
          cases ok with
          | true =>
            go_wp2_with fail
            go_quiet (fail)
            go_wp2
            go_roundg (M.length - (k + 1))
            case measure => omega
            case rel => exact ⟨k + 1, true, by omega, Nat.le_refl _, rfl, by go_num, HS true (by simp), below_drewN hb nq, c0, c1⟩
          | false =>
            by_cases hp : p ≤ x
            · have f1 : decide (p ≤ x) = true := decide_eq_true hp
              by_cases hq2 : y ≤ q
              · have f2 : decide (y ≤ q) = true := decide_eq_true hq2
                go_wp2_with fail
                go_quiet (fail)
                go_wp2
                go_roundg (M.length - (k + 1))
                case measure => omega
                case rel => exact ⟨k + 1, true, by omega, Nat.le_refl _, rfl, by go_num, HS true (by simp [hp, hq2]), below_drewN hb nq, c0, c1⟩
              · have f2 : decide (y ≤ q) = false := decide_eq_false hq2
                go_wp2_with fail
                go_quiet (fail)
                go_wp2
                go_roundg (M.length - (k + 1))
                case measure => omega
                case rel => exact ⟨k + 1, false, by omega, Nat.le_refl _, rfl, by go_num, HS false (by simp; omega), below_drewN hb nq, c0, c1⟩
            · have f1 : decide (p ≤ x) = false := decide_eq_false hp
              go_wp2_with fail
              go_quiet (fail)
              go_wp2
              go_roundg (M.length - (k + 1))
              case measure => omega
              case rel => exact ⟨k + 1, false, by omega, Nat.le_refl _, rfl, by go_num, HS false (by simp; omega), below_drewN hb nq, c0, c1⟩
        · obtain rfl : k = M.length := by omega
          have hok : ok = true := HK.out.2 (by
            by_cases h : y < x
            · exact Or.inl h
            · obtain ⟨j, m, hj, hh⟩ := HX.out (by omega)
              exact Or.inr ⟨j, m, (List.getElem?_eq_some_iff.1 hj).1, hj, hh⟩)
          have hz2 : ¬ (M.length : Int) < (M.length : Int) := by omega
          subst hok
          clear HK
          go_wp2
          go_roundg (L.length - (i + 1))
          case measure => omega
          case rel => exact ⟨i + 1, by omega, Nat.le_refl _, by go_num, hb⟩
    · obtain rfl : i = L.length := by omega
      have hz1 : ¬ (L.length : Int) < (L.length : Int) := by omega
      have hd : decide ((M.length : Int) ≤ (L.length : Int)) = true := decide_eq_true (by omega)
      go_wp2
      go_ret
      exact ⟨by simp <;> omega, hb⟩
theorem grown_set (w : World) (g k : Nat) (v : Value) : w.grownBy (w.setCell ⟨g, k, none⟩ v) (some g) := by
  refine ⟨rfl, rfl, rfl, by simp, fun j hj hne => ?_⟩
  exact heap_setCell_other _ _ _ _ (fun e => hne (by rw [e]))
/-- Place k lies in one of S. -/
def InL (S : List Sg) (k : Nat) : Prop := ∃ s ∈ S, s.1 ≤ (k : Int) ∧ (k : Int) < s.2
theorem inL_snoc (S : List Sg) (s : Sg) (k : Nat) : InL (S ++ [s]) k ↔ InL S k ∨ (s.1 ≤ (k : Int) ∧ (k : Int) < s.2) := by
  constructor
  · rintro ⟨x, hx, h⟩
    rcases List.mem_append.1 hx with h2 | h2
    · exact Or.inl ⟨x, h2, h⟩
    · simp at h2; subst h2; exact Or.inr h
  · rintro (⟨x, hx, h⟩ | h)
    · exact ⟨x, by simp [hx], h⟩
    · exact ⟨s, by simp, h⟩
theorem zv100 : ∃ zs : Array Value, (∀ w, Sem.run Try.prog (zeroValue 31) w = .ok (.agg zs) w) ∧ ¬ zs = #[] ∧ zs.size = 100 ∧ ∀ k, k < 100 → zs[k]? = some (.bool false) :=
  ⟨Array.replicate 100 (.bool false), fun w => by kernel_rfl, by decide, by simp, fun k hk => by simp [hk]⟩
theorem Bits.new {w : World} {zs : Array Value} (e : TypeId) (h : ∀ k, k < 100 → zs[k]? = some (.bool false)) : Bits (w.alloc (.cells zs e)) w.heap.size (fun _ => false) := fun k hk =>
  ⟨by rw [World.cell?_alloc_new]; exact h k hk, frozen_of_row _ _ _ _ _ (heap_alloc_new w _)⟩
set_option maxHeartbeats 4000000 in
set_option maxRecDepth 100000 in
theorem merges10_any {w : World} {v : Value} {L : List Sg} (h : SgAt w v L) (hl : L.length ≤ 17592186044416) :
    Calls Try.prog 4 #[v] w fun e w' => e = .returned (.bool true) ∧ RowKit.Below w.heap.size w w' := by
  obtain ⟨a, cap, rfl, hcap, _, hcells⟩ := id h
  have H0 := Hid.mk7 h
  have HK := Hid.mk7 known10_any
  clear h hcells
  by_cases h40 : 40 < L.length
  · have hd : decide ((L.length : Int) > 40) = true := decide_eq_true (by omega)
    go_enter Try.func4, Try.ntmps4
    go_wp2_with fail
    refine (HK.out w).mono ?_
    rintro e w1 ⟨rfl, b1⟩
    go_wp2
    go_ret
    exact ⟨rfl, b1⟩
  · have hd : decide ((L.length : Int) > 40) = false := decide_eq_false (by omega)
    have hl40 : L.length ≤ 40 := by omega
    go_enter Try.func4, Try.ntmps4
    go_wp2_with fail
    refine (HK.out w).mono ?_
    rintro e w1 ⟨rfl, b1⟩
    have H1 := Hid.mk7 (H0.out.later b1)
    have G1 := Hid.mk7 b1
    clear b1 H0 HK
    obtain ⟨zs, hz31, hzne, hzsz, hzk⟩ := zv100
    have B1 : Hid (Bits (w1.alloc (.cells zs 31)) w1.heap.size (fun _ => false)) := Bits.new _ hzk
    have H2 : Hid (SgAt (w1.alloc (.cells zs 31)) (.slice a L.length cap) L) := H1.out.later ((RowKit.Below.refl _ _).alloc (Nat.le_refl _) _)
    have G2 : Hid (RowKit.Below w1.heap.size w1 (w1.alloc (.cells zs 31))) := (RowKit.Below.refl _ _).alloc (Nat.le_refl _) _
    have hg2 : w1.heap.size < (w1.alloc (.cells zs 31)).heap.size := by simp
    clear hzk
    go_wp2
    generalize hgg : w1.heap.size = g at *
    generalize w1.alloc (.cells zs 31) = w2 at *
    clear hz31 hzne hzsz
    go_loopg [4] (L.length) (fun gk iv wr => ∃ (i : Nat) (P : Nat → Bool), i ≤ L.length ∧ L.length - i ≤ gk ∧ iv = .int .i64 (i : Nat) ∧ Hid (Bits wr g P) ∧ Hid (∀ k, k < 100 → (P k = true ↔ InL (L.take i) k)) ∧ Hid (∀ s ∈ L.take i, 0 ≤ s.1 ∧ s.2 ≤ 99) ∧ RowKit.Below g w1 wr ∧ g < wr.heap.size)
    case atStart => exact ⟨0, fun _ => false, Nat.zero_le _, by omega, rfl, B1, (fun k hk => by simp [InL]), (fun s hs => by simp at hs), G2.out, hg2⟩
    case round =>
      clear B1 H2 G2 hg2
      obtain ⟨i, P, hi, hgk, rfl, HB, HP, HL, hb, hgw⟩ := hrel
      by_cases hlt : i < L.length
      · obtain ⟨⟨x, y⟩, hr⟩ : ∃ r, L[i]? = some r := ⟨L[i], List.getElem?_eq_getElem hlt⟩
        have H1' := H1.out
        obtain ⟨_, _, e1, _, _, hc⟩ := H1'
        cases e1
        obtain ⟨g1, o1, rfl, p0, p1⟩ := hc i _ hr
        have c0 := cell_later7 hb (by omega) p0
        have c1 := cell_later7 hb (by omega) p1
        have hg1 : g1 < g := by have := World.block_lt_of_cell? w1 _ p0; simp only at this; omega
        simp only at c0 c1
        have HR := Hid.mk7 hr
        have hz1 : (i : Int) < (L.length : Int) := by omega
        clear p0 p1 hr hc
        have G9 : Hid (RowKit.Below w.heap.size w wr) := G1.out.trans (hb.mono (by have := G1.out.size; omega))
        by_cases hx : x < 0
        · have d0 : decide (x < 0) = true := decide_eq_true hx
          go_wp2
          go_ret
          exact ⟨rfl, G9.out⟩
        have d0 : decide (x < 0) = false := decide_eq_false hx
        by_cases hy : 99 < y
        · have d1 : decide (y > 99) = true := decide_eq_true hy
          go_wp2
          go_ret
          exact ⟨rfl, G9.out⟩
        have d1 : decide (y > 99) = false := decide_eq_false hy
        have HL2 : Hid (∀ s ∈ L.take (i + 1), 0 ≤ s.1 ∧ s.2 ≤ 99) := fun s hs => by
          rw [take_snoc HR.out] at hs
          rcases List.mem_append.1 hs with h | h
          · exact HL.out s h
          · simp at h; subst h; simp only; omega
        clear G9
        go_wp2
        go_loopg [5] ((y - x).toNat) (fun gj kv wr2 => ∃ (q : Nat) (P2 : Nat → Bool), kv = .int .i64 (x + (q : Nat)) ∧ (y - x).toNat - q ≤ gj ∧ (q = 0 ∨ x + (q : Nat) ≤ y) ∧ Hid (Bits wr2 g P2) ∧ Hid (∀ k, k < 100 → (P2 k = true ↔ (InL (L.take i) k ∨ (x ≤ (k : Int) ∧ (k : Int) < x + (q : Nat))))) ∧ RowKit.Below g w1 wr2 ∧ g < wr2.heap.size ∧ wr2.cell? ⟨g1, o1 + i * 2, none⟩ = some (.int .i64 x) ∧ wr2.cell? ⟨g1, o1 + i * 2 + 1, none⟩ = some (.int .i64 y))
        case atStart => exact ⟨0, P, by simp, by omega, Or.inl rfl, HB, (fun k hk => by rw [HP.out k hk]; constructor; exact Or.inl; rintro (h | h); exact h; omega), hb, hgw, c0, c1⟩
        case round =>
          clear HB HP hb hgw c0 c1
          obtain ⟨q, P2, rfl, hgj, hq, HB, HP, hb, hgw, c0, c1⟩ := hrel
          by_cases hlk : x + (q : Int) < y
          · obtain ⟨k, hk⟩ : ∃ k : Nat, x + (q : Int) = (k : Int) := ⟨(x + (q : Int)).toNat, by omega⟩
            have hk100 : k < 100 := by omega
            have hk2 : (k : Int) < y := by omega
            have b0 := (HB.out k hk100).1
            have f0 := (HB.out k hk100).2
            have HB2 : Hid (Bits (wr.setCell ⟨g, k, none⟩ (.bool true)) g (fun j => if j = k then true else P2 j)) := HB.out.set k hk100 true
            have HP2 : Hid (∀ j, j < 100 → ((if j = k then true else P2 j) = true ↔ (InL (L.take i) j ∨ (x ≤ (j : Int) ∧ (j : Int) < x + ((q + 1 : Nat) : Int))))) := fun j hj => by
              by_cases e : j = k
              · rw [if_pos e]; constructor
                · intro _; exact Or.inr (by omega)
                · intro _; rfl
              · rw [if_neg e, HP.out j hj]; constructor
                · rintro (h | h)
                  · exact Or.inl h
                  · exact Or.inr (by omega)
                · rintro (h | h)
                  · exact Or.inl h
                  · exact Or.inr (by omega)
            have HBW : Hid (RowKit.Below g w1 (wr.setCell ⟨g, k, none⟩ (.bool true))) := hb.setCell (p := ⟨g, k, none⟩) (Nat.le_refl _) _
            have HC0 : Hid ((wr.setCell ⟨g, k, none⟩ (.bool true)).cell? ⟨g1, o1 + i * 2, none⟩ = some (.int .i64 x)) := (World.cell?_setCell_other _ _ _ _ (by intro e'; simp only [Addr.mk.injEq] at e'; omega)).trans c0
            have HC1 : Hid ((wr.setCell ⟨g, k, none⟩ (.bool true)).cell? ⟨g1, o1 + i * 2 + 1, none⟩ = some (.int .i64 y)) := (World.cell?_setCell_other _ _ _ _ (by intro e'; simp only [Addr.mk.injEq] at e'; omega)).trans c1
            have hgw2 : g < (wr.setCell ⟨g, k, none⟩ (.bool true)).heap.size := by simpa using hgw
            clear HB HP hb
            go_wp2_with fail
            go_roundg ((y - x).toNat - (q + 1))
            case measure => omega
            case rel => exact ⟨q + 1, _, by (congr 1; omega), Nat.le_refl _, Or.inr (by omega), HB2, HP2, HBW.out, hgw2, HC0.out, HC1.out⟩
          · have HP3 : Hid (∀ k, k < 100 → (P2 k = true ↔ InL (L.take (i + 1)) k)) := fun k hk => by
              rw [HP.out k hk, take_snoc HR.out, inL_snoc]
              constructor
              · rintro (h | h)
                · exact Or.inl h
                · rcases hq with e | e
                  · subst e; exact Or.inr (by simp only; omega)
                  · exact Or.inr (by simp only; omega)
              · rintro (h | h)
                · exact Or.inl h
                · exact Or.inr (by simp only at h; omega)
            clear HP
            go_wp2
            go_roundg (L.length - (i + 1))
            case measure => omega
            case rel => exact ⟨i + 1, P2, by omega, Nat.le_refl _, by go_num, HB, HP3, HL2, hb, hgw⟩
      · obtain rfl : i = L.length := by omega
        have HPL : Hid (∀ k, k < 100 → (P k = true ↔ InL L k)) := by have := HP.out; rwa [List.take_length] at this
        have HLL : Hid (∀ s ∈ L, 0 ≤ s.1 ∧ s.2 ≤ 99) := by have := HL.out; rwa [List.take_length] at this
        have H3 : Hid (SgAt wr (.slice a L.length cap) L) := H1.out.later (by rw [hgg]; exact hb)
        have G3 : Hid (RowKit.Below w.heap.size w wr) := G1.out.trans (hb.mono (by have := G1.out.size; omega))
        have hz1 : ¬ (L.length : Int) < (L.length : Int) := by omega
        have HLB : Hid (∀ (i : Nat) (r : Sg), L[i]? = some r → ∃ gl ol, a = some ⟨gl, ol, none⟩ ∧ gl < g) := fun i r hr => by
          obtain ⟨_, _, e1, _, _, hc⟩ := H1.out
          cases e1
          obtain ⟨gl, ol, e2, p0, _⟩ := hc i r hr
          exact ⟨gl, ol, e2, by have := World.block_lt_of_cell? w1 _ p0; simp only at this; omega⟩
        have hwg : w.heap.size ≤ g := by have := G1.out.size; omega
        clear HP HL hb G1 H1
        go_wp2_with fail
        refine (merge_own H3.out hl40).mono ?_
        rintro e w3 ⟨mv, rfl, hm3, b3, ob3⟩
        have M3 := Hid.mk7 hm3
        have B3 := Hid.mk7 (HB.out.later b3 hgw)
        have L3 := Hid.mk7 (H3.out.later b3)
        have G4 : Hid (RowKit.Below w.heap.size w w3) := G3.out.trans (b3.mono G3.out.size)
        have hgw3 : g < w3.heap.size := Nat.lt_of_lt_of_le hgw b3.size
        have HMO := Hid.mk7 (mrg_ok L)
        have hmlen := mrg_len L
        obtain ⟨am, capm, rfl, hcm, _, hmc⟩ := id hm3
        have HMC : Hid (∀ (i : Nat) (r : Sg), (mrg L)[i]? = some r → ∃ g2 o2, am = some ⟨g2, o2, none⟩ ∧ g2 ≠ g ∧ w3.cell? ⟨g2, o2 + i * 2, none⟩ = some (.int .i64 r.1) ∧ w3.cell? ⟨g2, o2 + i * 2 + 1, none⟩ = some (.int .i64 r.2)) := fun i r hr => by
          obtain ⟨g2, o2, e2, p0, p1⟩ := hmc i r hr
          exact ⟨g2, o2, e2, by have := ob3 g2 (by rw [e2]; rfl); omega, p0, p1⟩
        clear hm3 hmc b3 ob3 HB H3 G3 hgw M3
        generalize hMM : mrg L = M at *
        clear hMM
        have HNL : Hid (∀ s ∈ fwd L, 0 ≤ s.1 ∧ s.2 ≤ 99) := fun s hs => HLL.out s (fwd_sub hs)
        go_wp2
        go_loopg [7] (M.length) (fun gk iv wr => ∃ (i : Nat) (P : Nat → Bool), i ≤ M.length ∧ M.length - i ≤ gk ∧ iv = .int .i64 (i : Nat) ∧ Hid (Bits wr g P) ∧ Hid (∀ k, k < 100 → (P k = true ↔ (InL L k ∧ ¬ InL (M.take i) k))) ∧ Hid (w3.grownBy wr (some g)))
        case atStart => exact ⟨0, P, Nat.zero_le _, by omega, rfl, B3, (fun k hk => by rw [HPL.out k hk]; simp [InL]), World.grownBy.refl _ _⟩
        case round =>
          clear B3 HPL hlt hgk hi
          obtain ⟨i, P1, hi, hgk, rfl, HB, HP, HG⟩ := hrel
          by_cases hlt : i < M.length
          · obtain ⟨⟨x, y⟩, hr⟩ : ∃ r, M[i]? = some r := ⟨M[i], List.getElem?_eq_getElem hlt⟩
            obtain ⟨g2, o2, rfl, hg2, p0, p1⟩ := HMC.out i _ hr
            have c0 := HG.out.cell p0 (by simp only; intro e; cases e; exact hg2 rfl)
            have c1 := HG.out.cell p1 (by simp only; intro e; cases e; exact hg2 rfl)
            simp only at c0 c1
            have HR := Hid.mk7 hr
            have hz2 : (i : Int) < (M.length : Int) := by omega
            have hxy : x ≤ y := HMO.out.ok (x, y) (List.mem_of_getElem? hr)
            have HAP : Hid (∀ m ∈ M.take i, m.2 < x) := fun m hm => by
              have hp := HMO.out.apart
              rw [← List.take_append_drop i M, List.pairwise_append] at hp
              exact hp.2.2 m hm (x, y) (by rw [List.mem_iff_getElem?]; exact ⟨0, by rw [List.getElem?_drop]; simpa using hr⟩)
            have d0 : decide (y < x) = false := decide_eq_false (by omega)
            clear p0 p1 hr
            go_upto_region 19 with fail
            go_cut [87] from 59 to 87 (fun s87 wx => s87 = .bool false ∧ ∃ n, wx = wr.drewN n)
            case first =>
              by_cases hi0 : i = 0
              · have d1 : decide ((i : Int) > 0) = false := decide_eq_false (by omega)
                have d2 : decide (0 < i) = false := decide_eq_false (by omega)
                clear hi0
                go_quiet (fail)
                go_wp2
                go_meet
                case rel => exact ⟨rfl, nq, rfl⟩
              · obtain ⟨j, rfl⟩ : ∃ j, i = j + 1 := ⟨i - 1, by omega⟩
                obtain ⟨⟨p, q⟩, hq⟩ : ∃ r, M[j]? = some r := ⟨M[j], List.getElem?_eq_getElem (by omega)⟩
                obtain ⟨g3, o3, e3, hg3, q0, q1⟩ := HMC.out j _ hq
                cases e3
                have b1 := HG.out.cell q1 (by simp only; intro e; cases e; exact hg2 rfl)
                have hqx : q < x := HAP.out (p, q) (by rw [List.mem_iff_getElem?]; exact ⟨j, by rw [List.getElem?_take, if_pos (by omega)]; exact hq⟩)
                have d1 : decide (((j : Int) + 1) > 0) = true := decide_eq_true (by omega)
                have d3 : decide (x ≤ q) = false := decide_eq_false (by omega)
                simp only at b1
                clear q0 q1 hq hi0
                go_quiet (fail)
                go_wp2
                go_meet
                case rel => exact ⟨rfl, nq, rfl⟩
            case rest =>
              obtain ⟨rfl, nd, rfl⟩ := hcut
              have HB1 : Hid (Bits (wr.drewN nd) g P1) := HB.out
              have HG1 : Hid (w3.grownBy (wr.drewN nd) (some g)) := grown_trans HG.out (grown_drew nd _)
              have e0 : (wr.drewN nd).cell? ⟨g2, o2 + i * 2, none⟩ = some (.int .i64 x) := c0
              have e1 : (wr.drewN nd).cell? ⟨g2, o2 + i * 2 + 1, none⟩ = some (.int .i64 y) := c1
              clear c0 c1 HB HG
              generalize wr.drewN nd = w4 at *
              go_wp2
              go_loopg [8] ((y - x).toNat) (fun gj kv wr2 => ∃ (q : Nat) (P2 : Nat → Bool), kv = .int .i64 (x + (q : Nat)) ∧ (y - x).toNat - q ≤ gj ∧ x + (q : Nat) ≤ y ∧ Hid (Bits wr2 g P2) ∧ Hid (∀ k, k < 100 → (P2 k = true ↔ (InL L k ∧ ¬ InL (M.take i) k ∧ ¬ (x ≤ (k : Int) ∧ (k : Int) < x + (q : Nat))))) ∧ Hid (w3.grownBy wr2 (some g)) ∧ wr2.cell? ⟨g2, o2 + i * 2, none⟩ = some (.int .i64 x) ∧ wr2.cell? ⟨g2, o2 + i * 2 + 1, none⟩ = some (.int .i64 y))
              case atStart => exact ⟨0, P1, by simp, by omega, by omega, HB1, (fun k hk => by rw [HP.out k hk]; constructor; rintro ⟨h1, h2⟩; exact ⟨h1, h2, by omega⟩; rintro ⟨h1, h2, _⟩; exact ⟨h1, h2⟩), HG1, e0, e1⟩
              case round =>
                clear HB1 HP HG1 e0 e1
                obtain ⟨q, P2, rfl, hgj, hqy, HB, HP, HG, c0, c1⟩ := hrel
                by_cases hlk : x + (q : Int) < y
                · obtain ⟨k, hk⟩ : ∃ k : Nat, x + (q : Int) = (k : Int) ∧ k < 100 := by
                    obtain ⟨s, hs, h1, h2⟩ := HMO.out.from' (x + (q : Int)) (x, y) (List.mem_of_getElem? HR.out) (by simp only; omega) (by simp only; omega)
                    have h3 := HNL.out s hs
                    exact ⟨(x + (q : Int)).toNat, by omega, by omega⟩
                  obtain ⟨hk, hk100⟩ := hk
                  have hk2 : (k : Int) < y := by omega
                  have hPk : P2 k = true := (HP.out k hk100).2 ⟨by
                      obtain ⟨s, hs, h1, h2⟩ := HMO.out.from' (x + (q : Int)) (x, y) (List.mem_of_getElem? HR.out) (by simp only; omega) (by simp only; omega)
                      exact ⟨s, fwd_sub hs, by omega, by omega⟩, by
                      rintro ⟨m, hm, h1, h2⟩
                      have := HAP.out m hm
                      omega, by omega⟩
                  have b0 := (HB.out k hk100).1
                  have f0 := (HB.out k hk100).2
                  rw [hPk] at b0
                  have HB2 : Hid (Bits (wr.setCell ⟨g, k, none⟩ (.bool false)) g (fun j => if j = k then false else P2 j)) := HB.out.set k hk100 false
                  have HP2 : Hid (∀ j, j < 100 → ((if j = k then false else P2 j) = true ↔ (InL L j ∧ ¬ InL (M.take i) j ∧ ¬ (x ≤ (j : Int) ∧ (j : Int) < x + ((q + 1 : Nat) : Int))))) := fun j hj => by
                    by_cases e : j = k
                    · rw [if_pos e]; constructor
                      · intro h; cases h
                      · rintro ⟨_, _, h⟩; omega
                    · rw [if_neg e, HP.out j hj]; constructor
                      · rintro ⟨h1, h2, h3⟩; exact ⟨h1, h2, by omega⟩
                      · rintro ⟨h1, h2, h3⟩; exact ⟨h1, h2, by omega⟩
                  have HG2 : Hid (w3.grownBy (wr.setCell ⟨g, k, none⟩ (.bool false)) (some g)) := grown_trans HG.out (grown_set _ _ _ _)
                  have HC0 : Hid ((wr.setCell ⟨g, k, none⟩ (.bool false)).cell? ⟨g2, o2 + i * 2, none⟩ = some (.int .i64 x)) := (World.cell?_setCell_other _ _ _ _ (by intro e'; simp only [Addr.mk.injEq] at e'; exact hg2 e'.1.symm)).trans c0
                  have HC1 : Hid ((wr.setCell ⟨g, k, none⟩ (.bool false)).cell? ⟨g2, o2 + i * 2 + 1, none⟩ = some (.int .i64 y)) := (World.cell?_setCell_other _ _ _ _ (by intro e'; simp only [Addr.mk.injEq] at e'; exact hg2 e'.1.symm)).trans c1
                  clear HB HP HG hPk
                  go_wp2_with fail
                  go_roundg ((y - x).toNat - (q + 1))
                  case measure => omega
                  case rel => exact ⟨q + 1, _, by (congr 1; omega), Nat.le_refl _, by omega, HB2, HP2, HG2, HC0.out, HC1.out⟩
                · have HP3 : Hid (∀ k, k < 100 → (P2 k = true ↔ (InL L k ∧ ¬ InL (M.take (i + 1)) k))) := fun k hk => by
                    rw [HP.out k hk, take_snoc HR.out, inL_snoc]
                    constructor
                    · rintro ⟨h1, h2, h3⟩
                      refine ⟨h1, ?_⟩
                      rintro (h | h)
                      · exact h2 h
                      · simp only at h; omega
                    · rintro ⟨h1, h2⟩
                      exact ⟨h1, fun h => h2 (Or.inl h), fun h => h2 (Or.inr (by simp only; omega))⟩
                  clear HP
                  go_wp2
                  go_roundg (M.length - (i + 1))
                  case measure => omega
                  case rel => exact ⟨i + 1, P2, by omega, Nat.le_refl _, by go_num, HB, HP3, HG⟩
          · obtain rfl : i = M.length := by omega
            have HPN : ∀ k, k < 100 → P1 k = false := fun k hk => by
              have := HP.out k hk
              rw [List.take_length] at this
              cases hp : P1 k with
              | false => rfl
              | true =>
                obtain ⟨⟨s, hs, h1, h2⟩, h3⟩ := this.1 hp
                obtain ⟨m, hm, h4, h5⟩ := HMO.out.cover s (fwd_in hs (by omega))
                exact absurd ⟨m, hm, by omega, by omega⟩ h3
            have HBF : Hid (∀ k, k < 100 → wr.cell? ⟨g, k, none⟩ = some (.bool false)) := fun k hk => by rw [(HB.out k hk).1, HPN k hk]
            have GF : Hid (RowKit.Below w.heap.size w wr) := G4.out.grown HG.out G4.out.size (fun j hj => by cases hj; exact hwg)
            have LF : Hid (SgAt wr (.slice a L.length cap) L) := by
              obtain ⟨_, _, e1, h1, h2, hc⟩ := L3.out
              cases e1
              refine ⟨a, cap, rfl, h1, h2, fun i r hr => ?_⟩
              obtain ⟨gl, ol, e2, hlt2⟩ := HLB.out i r hr
              obtain ⟨gl2, ol2, e3, q0, q1⟩ := hc i r hr
              rw [e2] at e3
              cases e3
              exact ⟨gl, ol, e2, HG.out.cell q0 (by simp only; intro e; cases e; omega), HG.out.cell q1 (by simp only; intro e; cases e; omega)⟩
            have MF : Hid (SgAt wr (.slice am M.length capm) M) := by
              refine ⟨am, capm, rfl, hcm, (by assumption), fun i r hr => ?_⟩
              obtain ⟨g2, o2, e2, hg2, q0, q1⟩ := HMC.out i r hr
              exact ⟨g2, o2, e2, HG.out.cell q0 (by simp only; intro e; cases e; exact hg2 rfl), HG.out.cell q1 (by simp only; intro e; cases e; exact hg2 rfl)⟩
            have HCV : Hid (∀ s ∈ L, s.1 ≤ s.2 → ∃ m ∈ M, m.1 ≤ s.1 ∧ s.2 ≤ m.2) := fun s hs h => HMO.out.cover s (fwd_in hs h)
            have hz3 : ¬ (M.length : Int) < (M.length : Int) := by omega
            clear HP HB HPN HG L3 HLB HMC HMO
            go_wp2
            generalize hwr : wr = w6 at *
            clear hwr
            go_loopg [9] 100 (fun gk kv wr => ∃ k : Nat, k ≤ 100 ∧ 100 - k ≤ gk ∧ kv = .int .i64 (k : Nat) ∧ wr = w6)
            case atStart => exact ⟨0, by omega, by omega, rfl, rfl⟩
            case round =>
              obtain ⟨k, hk, hgk, rfl, rfl⟩ := hrel
              by_cases hlk : k < 100
              · have b0 := HBF.out k hlk
                have hz4 : (k : Int) < 100 := by omega
                go_wp2
                go_roundg (100 - (k + 1))
                case measure => omega
                case rel => exact ⟨k + 1, by omega, Nat.le_refl _, by go_num, rfl⟩
              · obtain rfl : k = 100 := by omega
                go_wp2_with fail
                refine (covers_any LF.out MF.out hl40 hmlen HCV.out).mono ?_
                rintro e w7 ⟨rfl, b7⟩
                go_wp2
                go_ret
                exact ⟨rfl, GF.out.trans (b7.mono GF.out.size)⟩
end Go.Proofs.Ytfohfdldpanfaaa
