/- Tree.Get. -/
import Derived.Test.YtfgefdkkjfjjjaaDoorTreeC
namespace Go.Proofs.YtfgefdkkjfjjjaaDoor
open Go.RowKit Go.Sort
set_option linter.unusedSimpArgs false
set_option linter.unusedVariables false

/-- A node's depth, as a number. -/
def dep (w : World) (v : Value) : Nat := match v with
  | .pointer (some a) => (match w.cell? a with | some (.int _ b) => b.toNat | _ => 0)
  | _ => 0
theorem dep_of {E : Env} {A : Nat → Prop} {w : World} {d g : Nat} {ls : List ByteArray} (h : NdA E A w d g ls) : dep w (.pointer (some ⟨g, 0, none⟩)) = d + 1 := by
  unfold dep
  simp only [h.cells.1]
  omega

set_option maxHeartbeats 1000000 in
set_option maxRecDepth 100000 in
/-- Tree.Get, of nothing. -/
theorem tget_out (E : Env) (v : Value) (ls : List ByteArray) (at0 : Int) (w : World) (h : Tr E w v ls) (ho : at0 < 0 ∨ (ls.length : Int) ≤ at0) :
    Calls Tryd.prog 45 #[.agg #[v], .int .i64 at0] w fun e w' => e = .returned (.tuple #[.string ⟨#[]⟩, .bool false]) ∧ Below w.heap.size w w' := by
  have b0 : Below w.heap.size w (w.alloc (Obj.cells #[v] 61)) := (Below.refl _ _).alloc (Nat.le_refl _) _
  by_cases h0 : at0 < 0
  · go_enter Tryd.func45, Tryd.ntmps45
    go_wp2_with fail
    go_ret2
    exact ⟨rfl, b0⟩
  · have h0' : decide (at0 < 0) = false := by simpa using h0
    have h1 : (ls.length : Int) ≤ at0 := by omega
    have HL : Hid (Calls Tryd.prog 35 #[.agg #[v]] (w.alloc (Obj.cells #[v] 61)) fun e w' => e = .returned (.int .i64 (ls.length : Nat)) ∧ Below (w.alloc (Obj.cells #[v] 61)).heap.size (w.alloc (Obj.cells #[v] 61)) w') := tlen_any E v ls _ (h.later b0)
    clear ho h h0
    go_enter Tryd.func45, Tryd.ntmps45
    go_wp2_with fail
    refine HL.out.mono ?_
    rintro e w1 ⟨rfl, b1⟩
    clear HL
    go_wp2
    go_ret2
    exact ⟨rfl, b0.trans (b1.mono b0.size)⟩

set_option maxHeartbeats 2000000 in
set_option maxRecDepth 100000 in
/-- Tree.Get, of a leaf. -/
theorem tget_in (E : Env) (v : Value) (ls : List ByteArray) (a : Nat) (s : ByteArray) (w : World) (h : Tr E w v ls) (hs : ls[a]? = some s) (hl : ls.length ≤ 1099511627776) :
    Calls Tryd.prog 45 #[.agg #[v], .int .i64 (a : Nat)] w fun e w' => e = .returned (.tuple #[.string s, .bool true]) ∧ Below w.heap.size w w' := by
  have hal : a < ls.length := (List.getElem?_eq_some_iff.1 hs).1
  have b0 : Below w.heap.size w (w.alloc (Obj.cells #[v] 61)) := (Below.refl _ _).alloc (Nat.le_refl _) _
  have HL : Hid (Calls Tryd.prog 35 #[.agg #[v]] (w.alloc (Obj.cells #[v] 61)) fun e w' => e = .returned (.int .i64 (ls.length : Nat)) ∧ Below (w.alloc (Obj.cells #[v] 61)).heap.size (w.alloc (Obj.cells #[v] 61)) w') := tlen_any E v ls _ (h.later b0)
  rcases h with ⟨_, e⟩ | ⟨d, g, rfl, h⟩
  · subst e; simp at hal
  · have HN := Hid.mk4 h
    have HS := Hid.mk4 hs
    have t1 : ¬ ((a : Int) < 0) := by omega
    have t2 : decide ((a : Int) ≥ (ls.length : Int)) = false := by simp; omega
    have t3 : decide (ls.length ≤ a) = false := by simp; omega
    clear h hs
    go_enter Tryd.func45, Tryd.ntmps45
    go_wp2_with fail
    refine HL.out.mono ?_
    rintro e w1 ⟨rfl, b1⟩
    have c0 : w1.cell? ⟨w.heap.size, 0, none⟩ = some (.pointer (some ⟨g, 0, none⟩)) := ((Rt.new 61 w _).later b1 (by simp)).cell 0
    have g1 := b0.trans (b1.mono b0.size)
    clear HL b0 b1
    go_wp2
    go_loopw [1, 7] (fun at_ nn wr => ∃ (d' g' a' : Nat) (ls' : List ByteArray), at_ = .int .i64 (a' : Nat) ∧ nn = .pointer (some ⟨g', 0, none⟩) ∧ Hid (Nd E wr d' g' ls') ∧ Hid (ls'[a']? = some s) ∧ ls'.length ≤ 1099511627776 ∧ Below w.heap.size w wr) (fun _ nn wr => dep wr nn)
    case atStart => exact ⟨d, g, a, ls, rfl, rfl, HN.out.later g1, HS.out, hl, g1⟩
    case round =>
      obtain ⟨d', g', a', ls', rfl, rfl, HN', HS', hl', hb⟩ := hrel
      clear c0 g1
      cases d' with
      | zero =>
        obtain ⟨s', e, c6, c7⟩ := NdA.leaf HN'.out
        have e2 := HS'.out
        rw [e] at e2
        have ha0 : a' = 0 := by
          match a', e2 with
          | 0, _ => rfl
          | n + 1, e2 => simp at e2
        rw [ha0] at e2
        simp at e2
        subst e2
        go_wp2
        go_ret2
        exact ⟨rfl, hb⟩
      | succ d' =>
        have hdep : Hid (dep wr (.pointer (some ⟨g', 0, none⟩)) = d' + 1 + 1) := dep_of HN'.out
        obtain ⟨ks, kb, off, cap, hc, h2, h3, hk, hfl, c7, hp⟩ := NdA.kids HN'.out
        have hpos : 0 < ks.length := by omega
        have hpos' : (0 : Int) < (ks.length : Int) := by omega
        have hal' : a' < ls'.length := (List.getElem?_eq_some_iff.1 HS'.out).1
        have HW := Hid.mk4 (way_any E (fun _ => True) d' g' ks kb off cap a' wr (by rw [← hfl]; exact hl') h3 hk c7 hp (by rw [← hfl]; exact hal'))
        have HK := Hid.mk4 hk
        have HP := Hid.mk4 hp
        have HF := Hid.mk4 hfl
        clear hk hp hfl
        go_wp2_with fail
        refine HW.out.mono ?_
        rintro e w2 ⟨i, j, k, rfl, hki, haj, hjk, rfl⟩
        have hik : i < ks.length := (List.getElem?_eq_some_iff.1 hki).1
        have pk : w2.cell? ⟨kb, off + i, none⟩ = some (.pointer (some ⟨k.1, 0, none⟩)) := HP.out i _ (by simp [hki])
        have HNK : Hid (Nd E w2 d' k.1 k.2) := HK.out k (List.mem_of_getElem? hki)
        have HSK : Hid (k.2[j]? = some s) := by
          show _ = _
          have h1 := HS'.out
          rw [HF.out, haj] at h1
          have hsp : ks = ks.take i ++ k :: ks.drop (i + 1) := by
            obtain ⟨hlt, rfl⟩ := List.getElem?_eq_some_iff.1 hki
            rw [← List.drop_eq_getElem_cons hlt, List.take_append_drop]
          rw [hsp, List.flatMap_append, List.flatMap_cons] at h1
          have e3 : List.take i (List.take i ks ++ k :: List.drop (i + 1) ks) = List.take i ks := by
            rw [← hsp]
          rw [e3] at h1
          rw [List.getElem?_append_right (by omega), Nat.add_sub_cancel_left, List.getElem?_append_left hjk] at h1
          exact h1
        have hkl : k.2.length ≤ 1099511627776 := by
          have := take_flat_le ks (i + 1)
          rw [take_flat hki, List.length_append, ← HF.out] at this
          omega
        have HKI := Hid.mk4 hki
        clear HW hki haj
        go_wp2
        go_roundw
        case rel => exact ⟨d', k.1, j, k.2, rfl, rfl, HNK, HSK, hkl, hb⟩
        case measure => rw [dep_of HNK.out, hdep.out]; omega
end Go.Proofs.YtfgefdkkjfjjjaaDoor
