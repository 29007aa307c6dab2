/- The reference's Apply. -/
import Derived.Test.YtpfkidcaolfcoaaDoorDelCell
namespace Go.Proofs.YtpfkidcaolfcoaaDoor
open Go.RowKit Go.Sort Go.Lib
set_option linter.unusedSimpArgs false
set_option linter.unusedVariables false

theorem apl_take {cs : List Ce} {k : Nat} {c : Ce} {s : List UInt8} (hr : cs[k]? = some c) : apl (cs.take (k + 1)) s = apl (cs.take k) s ++ [if c.1 < 0 then c.2 else s.getD c.1.toNat 0] := by
  rw [take_snoc7 hr, apl_append]; simp [apl]
theorem conv_nil8 (w : World) : (convert 49 9 (.slice none 0 0)).run Tryd.prog w = .ok (.string ⟨#[]⟩) w := by kernel_rfl
set_option maxHeartbeats 4000000 in
set_option maxRecDepth 100000 in
theorem rapply_any {w : World} {v : Value} {cs : List Ce} (s : ByteArray) (h : KAt w v cs) (hl : cs.length ≤ 20000) (hs : s.size ≤ 20000) (hin : ∀ c ∈ cs, 0 ≤ c.1 → c.1 < s.size) :
    Calls Tryd.prog 20 #[v, .string s] w fun e w' => e = .returned (.string (cacc (apl cs s.data.toList))) ∧ RowKit.Below w.heap.size w w' := by
  obtain ⟨i0, hi, hz0, hz1, hz2⟩ := info_parts Tryd.info_u8
  have HI := Hid.mk7 hi
  obtain ⟨a, cap, rfl, hcap, hcells⟩ := h
  have HC := Hid.mk7 hcells
  have HIN := Hid.mk7 hin
  clear hcells hi hin
  go_enter Tryd.func20, Tryd.ntmps20
  go_wp2
  go_loopw [5, 6] (fun lv iv wr => ∃ k : Nat, k ≤ cs.length ∧ iv = .int .i64 (k : Nat) ∧ Hid (OwnB wr w.heap.size lv (apl (cs.take k) s.data.toList)) ∧ Hid (k = 0 → lv = .slice none 0 0) ∧ RowKit.Below w.heap.size w wr) (fun _ iv _ => cs.length - (intOf iv).toNat)
  case atStart => exact ⟨0, Nat.zero_le _, rfl, OwnB.nil _ _, fun _ => rfl, RowKit.Below.refl _ _⟩
  case round =>
    obtain ⟨k, hk, rfl, HO, HN, hb⟩ := hrel
    by_cases hlt : k < cs.length
    · obtain ⟨⟨p, b⟩, hr⟩ : ∃ r, cs[k]? = some r := ⟨cs[k], List.getElem?_eq_getElem hlt⟩
      obtain ⟨g, off, rfl, q0, q1⟩ := HC.out k _ hr
      have c0 := cell_later7 hb (Nat.le_refl _) q0
      have c1 := cell_later7 hb (Nat.le_refl _) q1
      simp only at c0 c1
      have HT := Hid.mk7 (apl_take (s := s.data.toList) hr)
      have hin := HIN.out _ (List.mem_of_getElem? hr)
      simp only at hin
      obtain ⟨T0, HT0⟩ : ∃ T0, Hid (T0 = apl (cs.take k) s.data.toList) := ⟨_, rfl⟩
      have hl0 : T0.length + 1 ≤ 20000 := by rw [HT0.out]; unfold apl; rw [List.length_map, List.length_take]; omega
      rw [← HT0.out] at HO HT
      have wz := hb.size
      have gl : g < wr.heap.size := World.block_lt_of_cell? wr ⟨g, _, none⟩ c0
      clear q0 q1 hr
      by_cases hp : p < 0
      · have dp : decide (p < 0) = true := decide_eq_true hp
        clear hin
        go_wp2_with (at_builtin; refine wpList_append_lies _ rfl _ _ 49 rfl w.heap.size 5 i0 (.int .u8 0) 1 1 Tryd.underlying49 HI.out hz0 hz1 hz2 rfl (by decide) _ _ _ rfl (World.ownsRow.alloc HO.out _) ⟨_, 0, none⟩ 1 1 [.int .u8 (b.toNat : Int)] rfl rfl (World.news_of_block (heap_alloc_new _ _)) (fun u hu => by simp at hu; subst hu; rfl) (by omega) (by unfold maxLen; omega) (by omega) (by simp; omega) _ rfl ?_)
        intro gg cap2 w3 hown hgrow hat hlt2
        have HE1 : Hid (T0 ++ [b] = apl (cs.take (k + 1)) s.data.toList) := by show _ = _; rw [HT.out]; rw [if_pos hp]
        have HO3 : Hid (OwnB w3 w.heap.size (.slice (some ⟨gg, 0, none⟩) (T0.length + 1) cap2) (apl (cs.take (k + 1)) s.data.toList)) := by
          rw [← HE1.out]
          unfold OwnB
          rw [List.length_append, byteCells_append]
          exact hown
        have hb3 : Hid (RowKit.Below w.heap.size w w3) := (below_newE hb _).grown hgrow (by simp; omega) (fun j hj => (World.ownsRow.lt HO.out j hj).1)
        have HZ : Hid (k + 1 = 0 → (Value.slice (some ⟨gg, 0, none⟩) (T0.length + 1) cap2) = .slice none 0 0) := fun e => by omega
        clear hown hgrow hat hlt2 HE1 HT HO c0 c1 hb HN
        go_wp2
        go_roundw
        case rel => exact ⟨k + 1, by omega, by go_num, HO3, HZ, hb3.out⟩
        case measure => simp [intOf]; omega
      · obtain ⟨n, rfl⟩ : ∃ n : Nat, p = (n : Int) := ⟨p.toNat, by omega⟩
        have dp : decide (((n : Nat) : Int) < 0) = false := decide_eq_false (by omega)
        have hns : n < s.size := by have := hin (by omega); omega
        have HSN : Hid (s.data.toList.getD n 0 = s[n]) := by show _ = _; rw [List.getD_eq_getElem?_getD, List.getElem?_eq_getElem (show n < s.data.toList.length from hns)]; rfl
        clear hin
        go_wp2_with (at_builtin; refine wpList_append_lies _ rfl _ _ 49 rfl w.heap.size 5 i0 (.int .u8 0) 1 1 Tryd.underlying49 HI.out hz0 hz1 hz2 rfl (by decide) _ _ _ rfl (World.ownsRow.alloc HO.out _) ⟨_, 0, none⟩ 1 1 [.int .u8 ((s[n]).toNat : Int)] rfl rfl (World.news_of_block (heap_alloc_new _ _)) (fun u hu => by simp at hu; subst hu; rfl) (by omega) (by unfold maxLen; omega) (by omega) (by simp; omega) _ rfl ?_)
        intro gg cap2 w3 hown hgrow hat hlt2
        have HE1 : Hid (T0 ++ [s[n]] = apl (cs.take (k + 1)) s.data.toList) := by show _ = _; rw [HT.out]; rw [if_neg (by omega), Int.toNat_natCast, HSN.out]
        have HO3 : Hid (OwnB w3 w.heap.size (.slice (some ⟨gg, 0, none⟩) (T0.length + 1) cap2) (apl (cs.take (k + 1)) s.data.toList)) := by
          rw [← HE1.out]
          unfold OwnB
          rw [List.length_append, byteCells_append]
          exact hown
        have hb3 : Hid (RowKit.Below w.heap.size w w3) := (below_newE hb _).grown hgrow (by simp; omega) (fun j hj => (World.ownsRow.lt HO.out j hj).1)
        have HZ : Hid (k + 1 = 0 → (Value.slice (some ⟨gg, 0, none⟩) (T0.length + 1) cap2) = .slice none 0 0) := fun e => by omega
        clear hown hgrow hat hlt2 HE1 HT HO c0 c1 hb HN
        go_wp2
        go_roundw
        case rel => exact ⟨k + 1, by omega, by go_num, HO3, HZ, hb3.out⟩
        case measure => simp [intOf]; omega
    · obtain rfl : k = cs.length := by omega
      have HE : Hid (apl (cs.take cs.length) s.data.toList = apl cs s.data.toList) := by show _ = _; rw [List.take_length]
      rw [HE.out] at HO
      by_cases h0 : cs.length = 0
      · have HX : Hid (cacc (apl cs s.data.toList) = ⟨#[]⟩) := by show _ = _; rw [List.eq_nil_of_length_eq_zero h0]; rfl
        have HLV := HN.out h0
        subst HLV
        have cv := conv_nil8 wr
        clear HO HN h0
        go_wp2
        go_ret
        exact ⟨by rw [HX.out]; rfl, hb⟩
      · have cv := HO.out.conv (fun e => h0 (by have := congrArg List.length e; simpa [apl] using this))
        obtain ⟨r, HR⟩ : ∃ r, Hid (r = cacc (apl cs s.data.toList)) := ⟨_, rfl⟩
        rw [← HR.out] at cv
        clear HO HN h0
        go_wp2
        go_ret
        exact ⟨by rw [← HR.out]; rfl, hb⟩
end Go.Proofs.YtpfkidcaolfcoaaDoor
