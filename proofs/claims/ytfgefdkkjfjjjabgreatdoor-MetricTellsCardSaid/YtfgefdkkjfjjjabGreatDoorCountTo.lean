/- count.countable, count.To, count.From, walked. -/
import Derived.Test.YtfgefdkkjfjjjabGreatDoorCountReach
namespace Go.Proofs.YtfgefdkkjfjjjabGreatDoor
open Go.RowKit Go.Sort

/-- Is there such a kind, and is s a text with places? -/
def ctb (s : ByteArray) (k : Int) : Bool := decide (0 ≤ k ∧ k ≤ 3) && vld s.data.toList
/-- To's place and error. -/
def toB (s : ByteArray) (k n : Int) : Int :=
  if ctb s k = false then 0 else if n < 0 ∨ kG k (pts s.data.toList) < n then 0 else if kG k (rch k n [] (pts s.data.toList)) = n then kB (rch k n [] (pts s.data.toList)) else 0
def toE (s : ByteArray) (k n : Int) : Int :=
  if ctb s k = false then 12 else if n < 0 ∨ kG k (pts s.data.toList) < n then 10 else if kG k (rch k n [] (pts s.data.toList)) = n then 0 else if k = 2 then 50 else 11
/-- From's count and error. -/
def frB (s : ByteArray) (k a : Int) : Int :=
  if ctb s k = false then 0 else if a < 0 ∨ (s.size : Int) < a then 0 else if edg s a = false then 0 else kG k (pts (s.extract 0 a.toNat).data.toList)
def frE (s : ByteArray) (k a : Int) : Int :=
  if ctb s k = false then 12 else if a < 0 ∨ (s.size : Int) < a then 10 else if edg s a = false then 11 else 0

set_option maxHeartbeats 1000000 in
set_option maxRecDepth 100000 in
theorem countable_any (s : ByteArray) (k : Int) (w : World) (tb : Nat × Nat) (hs : s.size ≤ maxLen) (hT : Tab w tb) :
    Calls Tryz.prog 50 #[.string s, .int .i64 k] w fun e w' => e = .returned (.bool (ctb s k)) ∧ Below w.heap.size w w' := by
  by_cases h0 : 0 ≤ k
  · by_cases h1 : k ≤ 3
    · have e : ctb s k = vld s.data.toList := by unfold ctb; simp [h0, h1]
      rw [e]
      clear e
      go_enter Tryz.func50, Tryz.ntmps50
      go_wp2_with fail
      refine (valid_any s _ tb hs hT).mono ?_
      rintro e w1 ⟨rfl, b1⟩
      go_wp2
      go_ret
      exact ⟨rfl, b1⟩
    · have e : ctb s k = false := by unfold ctb; simp; intro _ h; omega
      rw [e]
      have q : decide (k ≤ 3) = false := by simpa using h1
      clear e
      go_enter Tryz.func50, Tryz.ntmps50
      go_wp2
      go_ret
      exact ⟨rfl, Below.refl _ _⟩
  · have e : ctb s k = false := by unfold ctb; simp; intro h; omega
    rw [e]
    have q : decide (0 ≤ k) = false := by simpa using h0
    clear e
    go_enter Tryz.func50, Tryz.ntmps50
    go_wp2
    go_ret
    exact ⟨rfl, Below.refl _ _⟩

set_option maxHeartbeats 1000000 in
set_option maxRecDepth 100000 in
/-- count.To. -/
theorem to_any (s : ByteArray) (k n : Int) (w : World) (tb : Nat × Nat) (hs : s.size ≤ 1099511627776) (hT : Tabs w tb) :
    Calls Tryz.prog 29 #[.string s, .int .i64 k, .int .i64 n] w fun e w' => e = .returned (.tuple #[.int .i64 (toB s k n), .int .i64 (toE s k n)]) ∧ Below w.heap.size w w' := by
  have hmax : s.size ≤ maxLen := by unfold maxLen; omega
  have HCt : Hid (Calls Tryz.prog 50 #[.string s, .int .i64 k] w fun e w' => e = .returned (.bool (ctb s k)) ∧ Below w.heap.size w w') := countable_any s k w tb hmax hT.own
  cases hc : ctb s k with
  | false =>
    have eB : toB s k n = 0 := by unfold toB; rw [if_pos hc]
    have eE : toE s k n = 12 := by unfold toE; rw [if_pos hc]
    rw [eB, eE]
    rw [hc] at HCt
    clear hc eB eE
    go_enter Tryz.func29, Tryz.ntmps29
    go_wp2_with fail
    refine HCt.out.mono ?_
    rintro e w1 ⟨rfl, b1⟩
    go_wp2
    go_ret2
    exact ⟨rfl, b1⟩
  | true =>
    rw [hc] at HCt
    have hv : vld s.data.toList = true ∧ 0 ≤ k ∧ k ≤ 3 := by
      unfold ctb at hc
      simp at hc
      exact ⟨hc.2, hc.1⟩
    obtain ⟨cs, hcs⟩ : ∃ cs, cs = pts s.data.toList := ⟨_, rfl⟩
    have hg : Good cs := by rw [hcs]; exact good_pts' _
    have hd : s.data.toList = flat cs := by rw [hcs]; exact (flat_pts' hv.1).symm
    have hl : cs.length ≤ 1099511627776 := by have := pts_length s.data.toList; rw [bytes_length, ← hcs] at this; omega
    have HOf : Hid (∀ W, Tabs W tb → Calls Tryz.prog 51 #[.string s] W fun e w' => e = .returned (.agg #[.int .i64 ((flat cs).length : Nat), .int .i64 (kP cs), .int .i64 (kU cs), .int .i64 (kL cs)]) ∧ Below W.heap.size W w') := fun W h => by
      have := of_any s W tb hs h
      rw [← hcs] at this
      exact this
    have HGet : Hid (∀ W, Calls Tryz.prog 49 #[.agg #[.int .i64 ((flat cs).length : Nat), .int .i64 (kP cs), .int .i64 (kU cs), .int .i64 (kL cs)], .int .i64 k] W fun e w' => e = .returned (.int .i64 (kG k cs)) ∧ Below W.heap.size W w') := fun W => get_any k _ _ _ _ W
    have HRe : Hid (∀ W, Tabs W tb → Calls Tryz.prog 52 #[.string s, .agg #[.int .i64 ((flat cs).length : Nat), .int .i64 (kP cs), .int .i64 (kU cs), .int .i64 (kL cs)], .int .i64 k, .int .i64 n] W fun e w' => e = .returned (.agg #[.int .i64 ((flat (rch k n [] cs)).length : Nat), .int .i64 (kP (rch k n [] cs)), .int .i64 (kU (rch k n [] cs)), .int .i64 (kL (rch k n [] cs))]) ∧ Below W.heap.size W w') := fun W h => reach_any s cs k n hg hd hl W tb h
    have HB : Hid (toB s k n = if n < 0 ∨ kG k cs < n then 0 else if kG k (rch k n [] cs) = n then ((flat (rch k n [] cs)).length : Int) else 0) := by
      show _ = _
      unfold toB
      rw [if_neg (by rw [hc]; simp), ← hcs]
      rfl
    have HE : Hid (toE s k n = if n < 0 ∨ kG k cs < n then 10 else if kG k (rch k n [] cs) = n then 0 else if k = 2 then 50 else 11) := by
      show _ = _
      unfold toE
      rw [if_neg (by rw [hc]; simp), ← hcs]
    generalize toB s k n = tB at *
    generalize toE s k n = tE at *
    clear hc hv hcs hg hd hl
    generalize kG k cs = gk at *
    generalize (flat cs).length = vB at *
    generalize kP cs = vP at *
    generalize kU cs = vU at *
    generalize kL cs = vL at *
    have HGet2 : Hid (∀ W, Calls Tryz.prog 49 #[.agg #[.int .i64 ((flat (rch k n [] cs)).length : Nat), .int .i64 (kP (rch k n [] cs)), .int .i64 (kU (rch k n [] cs)), .int .i64 (kL (rch k n [] cs))], .int .i64 k] W fun e w' => e = .returned (.int .i64 (kG k (rch k n [] cs))) ∧ Below W.heap.size W w') := fun W => get_any k _ _ _ _ W
    generalize rch k n [] cs = rc at *
    generalize kG k rc = gr at *
    generalize (flat rc).length = rB at *
    generalize kP rc = rP at *
    generalize kU rc = rU at *
    generalize kL rc = rL at *
    by_cases hn0 : n < 0
    · have eB := HB.out
      have eE := HE.out
      rw [if_pos (Or.inl hn0)] at eB eE
      subst eB eE
      clear HB HE
      go_enter Tryz.func29, Tryz.ntmps29
      go_wp2_with fail
      refine HCt.out.mono ?_
      rintro e w1 ⟨rfl, b1⟩
      have t1 := hT.later b1
      go_wp2_with fail
      refine (HOf.out _ t1).mono ?_
      rintro e w2 ⟨rfl, b2⟩
      have g2 := b1.trans (b2.mono b1.size)
      go_wp2
      go_ret2
      exact ⟨rfl, g2.alloc g2.size _⟩
    · have q0 : decide (n < 0) = false := by simpa using hn0
      by_cases hn1 : gk < n
      · have eB := HB.out
        have eE := HE.out
        rw [if_pos (Or.inr hn1)] at eB eE
        subst eB eE
        clear HB HE
        go_enter Tryz.func29, Tryz.ntmps29
        go_wp2_with fail
        refine HCt.out.mono ?_
        rintro e w1 ⟨rfl, b1⟩
        have t1 := hT.later b1
        go_wp2_with fail
        refine (HOf.out _ t1).mono ?_
        rintro e w2 ⟨rfl, b2⟩
        have g2 := b1.trans (b2.mono b1.size)
        go_wp2_with fail
        refine (HGet.out _).mono ?_
        rintro e w3 ⟨rfl, b3⟩
        have g3 := (g2.alloc g2.size (Obj.cells #[.int .i64 vB, .int .i64 vP, .int .i64 vU, .int .i64 vL] 38))
        have g4 := g3.trans (b3.mono g3.size)
        go_wp2
        go_ret2
        exact ⟨rfl, g4⟩
      · have q1 : decide (gk < n) = false := by simpa using hn1
        have eB := HB.out
        have eE := HE.out
        rw [if_neg (by omega)] at eB eE
        clear HB HE hn1
        have key : ((gr == n) = true ∧ Hid (tB = rB ∧ tE = 0)) ∨ ((gr == n) = false ∧ (k == 2) = true ∧ Hid (tB = 0 ∧ tE = 50)) ∨ ((gr == n) = false ∧ (k == 2) = false ∧ Hid (tB = 0 ∧ tE = 11)) := by
          by_cases hq : gr = n
          · rw [if_pos hq] at eB eE
            exact Or.inl ⟨by simpa using hq, eB, eE⟩
          · rw [if_neg hq] at eB eE
            by_cases hk : k = 2
            · rw [if_pos hk] at eE
              exact Or.inr (Or.inl ⟨by simpa using hq, by simpa using hk, eB, eE⟩)
            · rw [if_neg hk] at eE
              exact Or.inr (Or.inr ⟨by simpa using hq, by simpa using hk, eB, eE⟩)
        clear eB eE
        rcases key with ⟨hq, HH⟩ | ⟨hq, hk, HH⟩ | ⟨hq, hk, HH⟩
        all_goals
          obtain ⟨rfl, rfl⟩ := HH.out
          clear HH
          go_enter Tryz.func29, Tryz.ntmps29
          go_wp2_with fail
          refine HCt.out.mono ?_
          rintro e w1 ⟨rfl, b1⟩
          have t1 := hT.later b1
          go_wp2_with fail
          refine (HOf.out _ t1).mono ?_
          rintro e w2 ⟨rfl, b2⟩
          have g2 := b1.trans (b2.mono b1.size)
          have g3 := (g2.alloc g2.size (Obj.cells #[.int .i64 vB, .int .i64 vP, .int .i64 vU, .int .i64 vL] 38))
          go_wp2_with fail
          refine (HGet.out _).mono ?_
          rintro e w3 ⟨rfl, b3⟩
          have r3 := (Row4.new w2 (.int .i64 vB) (.int .i64 vP) (.int .i64 vU) (.int .i64 vL)).later b3 (by simp)
          have c0 := r3.c0; have c1 := r3.c1; have c2 := r3.c2; have c3 := r3.c3
          have g4 := g3.trans (b3.mono g3.size)
          have t4 := hT.later g4
          clear r3 b1 b2 b3 g2 g3 t1
          go_wp2_with fail
          refine (HRe.out _ t4).mono ?_
          rintro e w4 ⟨rfl, b4⟩
          have g5 := g4.trans (b4.mono g4.size)
          have g6 := (g5.alloc g5.size (Obj.cells #[.int .i64 rB, .int .i64 rP, .int .i64 rU, .int .i64 rL] 38))
          clear c0 c1 c2 c3 b4 g4
          go_wp2_with fail
          refine (HGet2.out _).mono ?_
          rintro e w5 ⟨rfl, b5⟩
          have r5 := (Row4.new w4 (.int .i64 rB) (.int .i64 rP) (.int .i64 rU) (.int .i64 rL)).later b5 (by simp)
          have c0 := r5.c0
          have g7 := g6.trans (b5.mono g6.size)
          clear r5 b5 g5 g6
          go_wp2
          go_ret2
          exact ⟨rfl, g7⟩

set_option maxHeartbeats 1000000 in
set_option maxRecDepth 100000 in
/-- count.From. -/
theorem from_any (s : ByteArray) (k a : Int) (w : World) (tb : Nat × Nat) (hs : s.size ≤ 1099511627776) (hT : Tabs w tb) :
    Calls Tryz.prog 55 #[.string s, .int .i64 k, .int .i64 a] w fun e w' => e = .returned (.tuple #[.int .i64 (frB s k a), .int .i64 (frE s k a)]) ∧ Below w.heap.size w w' := by
  have hmax : s.size ≤ maxLen := by unfold maxLen; omega
  have HCt : Hid (Calls Tryz.prog 50 #[.string s, .int .i64 k] w fun e w' => e = .returned (.bool (ctb s k)) ∧ Below w.heap.size w w') := countable_any s k w tb hmax hT.own
  cases hc : ctb s k with
  | false =>
    have eB : frB s k a = 0 := by unfold frB; rw [if_pos hc]
    have eE : frE s k a = 12 := by unfold frE; rw [if_pos hc]
    rw [eB, eE]
    rw [hc] at HCt
    clear hc eB eE
    go_enter Tryz.func55, Tryz.ntmps55
    go_wp2_with fail
    refine HCt.out.mono ?_
    rintro e w1 ⟨rfl, b1⟩
    go_wp2
    go_ret2
    exact ⟨rfl, b1⟩
  | true =>
    rw [hc] at HCt
    have HB : Hid (frB s k a = if a < 0 ∨ (s.size : Int) < a then 0 else if edg s a = false then 0 else kG k (pts (s.extract 0 a.toNat).data.toList)) := by
      show _ = _
      unfold frB
      rw [if_neg (by rw [hc]; simp)]
    have HE : Hid (frE s k a = if a < 0 ∨ (s.size : Int) < a then 10 else if edg s a = false then 11 else 0) := by
      show _ = _
      unfold frE
      rw [if_neg (by rw [hc]; simp)]
    generalize frB s k a = tB at *
    generalize frE s k a = tE at *
    clear hc
    by_cases ho : a < 0 ∨ (s.size : Int) < a
    · have eB := HB.out
      have eE := HE.out
      rw [if_pos ho] at eB eE
      subst eB eE
      clear HB HE
      rcases Classical.em (a < 0) with h0 | h0
      · clear ho
        go_enter Tryz.func55, Tryz.ntmps55
        go_wp2_with fail
        refine HCt.out.mono ?_
        rintro e w1 ⟨rfl, b1⟩
        go_wp2
        go_ret2
        exact ⟨rfl, b1⟩
      · have h1 : (s.size : Int) < a := by omega
        have q0 : decide (a < 0) = false := by simpa using h0
        clear ho
        go_enter Tryz.func55, Tryz.ntmps55
        go_wp2_with fail
        refine HCt.out.mono ?_
        rintro e w1 ⟨rfl, b1⟩
        go_wp2
        go_ret2
        exact ⟨rfl, b1⟩
    · obtain ⟨i, rfl⟩ : ∃ i : Nat, a = i := ⟨a.toNat, by omega⟩
      have hi : i ≤ s.size := by omega
      have hiI : (i : Int) ≤ (s.size : Int) := by omega
      have hni : decide ((s.size : Int) < (i : Int)) = false := by simp; omega
      have HEd : Hid (∀ W, Tabs W tb → Calls Tryz.prog 69 #[.string s, .int .i64 (i : Nat)] W fun e w' => e = .returned (.bool (edg s i)) ∧ Below W.heap.size W w') := fun W h => edge_any s i W tb hmax h.own
      cases he : edg s i with
      | false =>
        have eB := HB.out
        have eE := HE.out
        rw [if_neg ho, if_pos he] at eB eE
        subst eB eE
        rw [he] at HEd
        clear HB HE ho he
        go_enter Tryz.func55, Tryz.ntmps55
        go_wp2_with fail
        refine HCt.out.mono ?_
        rintro e w1 ⟨rfl, b1⟩
        have t1 := hT.later b1
        go_wp2_with fail
        refine (HEd.out _ t1).mono ?_
        rintro e w2 ⟨rfl, b2⟩
        go_wp2
        go_ret2
        exact ⟨rfl, b1.trans (b2.mono b1.size)⟩
      | true =>
        have eB := HB.out
        have eE := HE.out
        rw [if_neg ho, if_neg (by rw [he]; simp), Int.toNat_natCast] at eB
        rw [if_neg ho, if_neg (by rw [he]; simp)] at eE
        subst eE
        rw [he] at HEd
        have HOf : Hid (∀ W, Tabs W tb → Calls Tryz.prog 51 #[.string (s.extract 0 i)] W fun e w' => e = .returned (.agg #[.int .i64 (kB (pts (s.extract 0 i).data.toList)), .int .i64 (kP (pts (s.extract 0 i).data.toList)), .int .i64 (kU (pts (s.extract 0 i).data.toList)), .int .i64 (kL (pts (s.extract 0 i).data.toList))]) ∧ Below W.heap.size W w') := fun W h => of_any _ W tb (by rw [ByteArray.size_extract]; omega) h
        have HGet : Hid (∀ W, Calls Tryz.prog 49 #[.agg #[.int .i64 (kB (pts (s.extract 0 i).data.toList)), .int .i64 (kP (pts (s.extract 0 i).data.toList)), .int .i64 (kU (pts (s.extract 0 i).data.toList)), .int .i64 (kL (pts (s.extract 0 i).data.toList))], .int .i64 k] W fun e w' => e = .returned (.int .i64 tB) ∧ Below W.heap.size W w') := fun W => by rw [eB]; exact get_any k _ _ _ _ W
        clear HB HE ho he eB
        generalize kB (pts (s.extract 0 i).data.toList) = vB at *
        generalize kP (pts (s.extract 0 i).data.toList) = vP at *
        generalize kU (pts (s.extract 0 i).data.toList) = vU at *
        generalize kL (pts (s.extract 0 i).data.toList) = vL at *
        go_enter Tryz.func55, Tryz.ntmps55
        go_wp2_with fail
        refine HCt.out.mono ?_
        rintro e w1 ⟨rfl, b1⟩
        have t1 := hT.later b1
        go_wp2_with fail
        refine (HEd.out _ t1).mono ?_
        rintro e w2 ⟨rfl, b2⟩
        have g2 := b1.trans (b2.mono b1.size)
        have t2 := hT.later g2
        go_wp2_with fail
        refine (HOf.out _ t2).mono ?_
        rintro e w3 ⟨rfl, b3⟩
        have g3 := g2.trans (b3.mono g2.size)
        go_wp2_with fail
        refine (HGet.out _).mono ?_
        rintro e w4 ⟨rfl, b4⟩
        go_wp2
        go_ret2
        exact ⟨rfl, g3.trans (b4.mono g3.size)⟩
end Go.Proofs.YtfgefdkkjfjjjabGreatDoor
