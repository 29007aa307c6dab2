/- UtfBack, walked: it answers true at every row of numbers. -/
import Derived.Test.YtncabdbacncaaaaDoorJoinLaw
import Derived.Test.YtncabdbacncaaaaDoorRowLib
import Derived.Lib.QuietBelow
namespace Go.Proofs.YtncabdbacncaaaaDoor
open Go.RowKit Go.Sort

/-- What UtfBack makes of a number. -/
def nrm (z : Int) : Int := if 55296 ≤ z % 1114112 ∧ z % 1114112 < 57344 then z % 1114112 - 55296 else z % 1114112
theorem nrm_scalar (z : Int) : scalar (nrm z) := by unfold nrm scalar; split <;> omega
theorem good_nrm (zs : List Int) : Good (zs.map nrm) := by
  intro x hx
  obtain ⟨z, _, rfl⟩ := List.mem_map.1 hx
  exact nrm_scalar z

/-- The first k of them, as cells. -/
def rowN (zs : List Int) (k : Nat) : List Value := ((zs.take k).map nrm).map (Value.int .i64)
theorem rowN_succ {zs : List Int} {k : Nat} (h : k < zs.length) : rowN zs (k + 1) = rowN zs k ++ [.int .i64 (nrm (zs.getD k 0))] := by
  unfold rowN
  rw [List.take_succ_eq_append_getElem h, List.map_append, List.map_append]
  simp [List.getD_eq_getElem?_getD, h]

theorem enc_len (c : Int) (h : scalar c) : (c < 128 ∧ (enc c).length = 1) ∨ (128 ≤ c ∧ c < 2048 ∧ (enc c).length = 2) ∨ (2048 ≤ c ∧ c < 65536 ∧ (enc c).length = 3) ∨ (65536 ≤ c ∧ (enc c).length = 4) := by
  unfold scalar at h
  by_cases g1 : c ≤ 127
  · exact Or.inl ⟨by omega, by unfold enc Lib.encodeRune; rw [Lib.encodeRuneZ_one (by omega) g1]; rfl⟩
  · by_cases g2 : c ≤ 2047
    · exact Or.inr (Or.inl ⟨by omega, by omega, by unfold enc Lib.encodeRune; rw [Lib.encodeRuneZ_two (by omega) g2]; rfl⟩)
    · by_cases g3 : c ≤ 65535
      · exact Or.inr (Or.inr (Or.inl ⟨by omega, by omega, by unfold enc Lib.encodeRune; rw [Lib.encodeRuneZ_three (by omega)]; rfl⟩))
      · exact Or.inr (Or.inr (Or.inr ⟨by omega, by unfold enc Lib.encodeRune; rw [Lib.encodeRuneZ_four (by omega) (by omega)]; rfl⟩))

set_option maxHeartbeats 1000000 in
set_option maxRecDepth 100000 in
theorem back_long (zs : List Int) (ad : Option Addr) (cap : Nat) (hl : 60 < zs.length) (hm : zs.length ≤ maxLen) (w : World) (tb : Nat × Nat) (hT : Tab w tb) :
    Calls Tryd.prog 6 #[.slice ad zs.length cap] w fun e w' => e = .returned (.bool true) ∧ Below w.heap.size w w' := by
  unfold maxLen at hm
  have h1 : (60 : Int) < zs.length := by omega
  go_enter Tryd.func6, Tryd.ntmps6
  go_wp2_with fail
  refine (known_any _ tb hT).mono ?_
  rintro e w1 ⟨rfl, b1⟩
  go_wp2
  go_ret
  exact ⟨rfl, b1⟩

set_option maxHeartbeats 2000000 in
set_option maxRecDepth 100000 in
theorem back_row (zs : List Int) (v : Value) (hl : zs.length ≤ 60) (hz : ∀ i, i < zs.length → 0 ≤ zs.getD i 0 ∧ zs.getD i 0 ≤ 4294967295) (w : World) (tb : Nat × Nat) (hT : Tab w tb) (hR : RowAt .u32 w v zs) :
    Calls Tryd.prog 6 #[v] w fun e w' => e = .returned (.bool true) ∧ Below w.heap.size w w' := by
  obtain ⟨i0, hi, hz0, hz1, hz2⟩ := info_parts Tryd.info_int
  obtain ⟨ad, cap, rfl, hcells⟩ := hR
  have HCE : Hid (zs ≠ [] → ∃ blk off, ad = some ⟨blk, off, none⟩ ∧ ∀ i, i < zs.length → w.cell? ⟨blk, off + i, none⟩ = some (.int .u32 (zs.getD i 0))) := hcells
  have HZ : Hid (∀ i, i < zs.length → 0 ≤ zs.getD i 0 ∧ zs.getD i 0 ≤ 4294967295) := hz
  have hd : decide ((60 : Int) < zs.length) = false := by simp; omega
  clear hcells hz
  go_enter Tryd.func6, Tryd.ntmps6
  go_wp2_with fail
  refine (known_any _ tb hT).mono ?_
  rintro e w1 ⟨rfl, b1⟩
  have t1 := hT.later b1
  go_wp2
  go_loopw [3, 4] (fun n i wr => ∃ k : Nat, k ≤ zs.length ∧ i = .int .i64 k ∧ wr.ownsRow w1.heap.size 3 1 n k (rowN zs k) ∧ Below w1.heap.size w1 wr) (fun _ i _ => zs.length - (intOf i).toNat)
  case atStart => exact ⟨0, by omega, rfl, World.ownsRow_nil _ _ _ _, Below.refl _ _⟩
  case round =>
    obtain ⟨k, hk, rfl, hown, hb⟩ := hrel
    by_cases hlt : k < zs.length
    · have hne : zs ≠ [] := by intro e; rw [e] at hlt; simp at hlt
      obtain ⟨blk, off, rfl, hcl⟩ := HCE.out hne
      have hc := cell_later hb (cell_later b1 (hcl k hlt))
      clear hcl hne
      have hzk := HZ.out k hlt
      have HT : Hid (rowN zs (k + 1) = rowN zs k ++ [.int .i64 (nrm (zs.getD k 0))]) := rowN_succ hlt
      generalize zs.getD k 0 = z at *
      have HNa : Hid (55296 ≤ z % 1114112 ∧ z % 1114112 < 57344 → nrm z = z % 1114112 - 55296) := fun h => by unfold nrm; rw [if_pos h]
      have HNb : Hid (¬ (55296 ≤ z % 1114112 ∧ z % 1114112 < 57344) → nrm z = z % 1114112) := fun h => by unfold nrm; rw [if_neg h]
      have hm0 : 0 ≤ z % 1114112 ∧ z % 1114112 < 1114112 := by omega
      have key : (55296 ≤ z % 1114112 ∧ z % 1114112 < 57344 ∧ ∃ q, Hid (nrm z = q) ∧ q = z % 1114112 - 55296) ∨ (z % 1114112 < 55296 ∧ ∃ q, Hid (nrm z = q) ∧ q = z % 1114112) ∨ (57344 ≤ z % 1114112 ∧ ∃ q, Hid (nrm z = q) ∧ q = z % 1114112) := by
        by_cases g1 : z % 1114112 < 55296
        · exact Or.inr (Or.inl ⟨g1, _, HNb.out (by omega), rfl⟩)
        · by_cases g2 : z % 1114112 < 57344
          · exact Or.inl ⟨by omega, g2, _, HNa.out ⟨by omega, g2⟩, rfl⟩
          · exact Or.inr (Or.inr ⟨by omega, _, HNb.out (by omega), rfl⟩)
      clear HNa HNb
      rcases key with ⟨g1, g2, q, hq, rfl⟩ | ⟨g1, q, hq, rfl⟩ | ⟨g1, q, hq, rfl⟩
      all_goals
        go_wp2_with (at_builtin; refine wpList_append_own _ rfl _ _ 24 rfl w1.heap.size 3 i0 (.int .i64 0) 1 8 Tryd.underlying24 hi hz0 hz1 hz2 rfl (by decide) _ _ _ rfl (hown.alloc _) ⟨wr.heap.size, 0, none⟩ 1 1 [.int .i64 _] rfl rfl (cell_one_new _ _ _) (fun u hu => by simp at hu; subst hu; rfl) (by unfold maxLen; omega) (by omega) (by have := hb.size; simp; omega) ?_)
        intro v' w2 hown' hgrow _
        have hb2 : Below w1.heap.size w1 w2 := (hb.alloc hb.size _).grown hgrow (by have := hb.size; simp; omega) (fun j hj => (hown.lt _ hj).1)
        have hown2 : w2.ownsRow w1.heap.size 3 1 v' (k + 1) (rowN zs (k + 1)) := by rw [HT.out, hq.out]; exact hown'
        have HO : Hid (w2.ownsRow w1.heap.size 3 1 v' (k + 1) (rowN zs (k + 1))) := hown2
        clear hown' hown2 hgrow hown hc HT hq
        go_wp2
        go_roundw
        case rel => exact ⟨k + 1, by omega, by go_num, HO.out, hb2⟩
        case measure => simp [intOf]; omega
    · obtain rfl : k = zs.length := by omega
      have hio : IntsAt wr u3 (zs.map nrm) := by
        refine ints_of_own (B := w1.heap.size) ?_
        rw [List.length_map]
        unfold rowN at hown
        rw [List.take_length] at hown
        exact hown
      have tr := t1.later hb
      obtain ⟨ns, hns⟩ : ∃ ns, ns = zs.map nrm := ⟨_, rfl⟩
      have hg : Good ns := by rw [hns]; exact good_nrm zs
      have hnl : ns.length = zs.length := by rw [hns, List.length_map]
      rw [← hns] at hio
      obtain ⟨S, hS⟩ : ∃ S : ByteArray, S = ⟨(flat ns).toArray⟩ := ⟨_, rfl⟩
      have hSd : S.data.toList = flat ns := by rw [hS]
      have hSl : S.size ≤ 240 := by
        have := (flat_length_ge ns).2
        have e : S.size = (flat ns).length := by rw [← hSd]; rfl
        omega
      have HG : Hid (Good ns) := hg
      have HSd : Hid (S.data.toList = flat ns) := hSd
      have HI : Hid (IntsAt wr u3 ns) := hio
      have HM : Hid (Calls Tryd.prog 24 #[u3] wr fun e w' => e = .returned (.string S) ∧ Below wr.heap.size wr w') := by
        have := make_any ns u3 wr tb (good_int hg) (by omega) hio tr
        rw [map_tor hg, ← hS] at this
        exact this
      have HP : Hid (∀ W, Tab W tb → Calls Tryd.prog 11 #[.string S] W fun e w' => ∃ v, e = .returned v ∧ IntsAt w' v ns ∧ Below W.heap.size W w') := by
        intro W h
        have := points_any S W tb (by omega) h
        rwa [hSd, pts_flat' hg] at this
      have HV : Hid (∀ W, Tab W tb → Calls Tryd.prog 16 #[.string S] W fun e w' => e = .returned (.bool true) ∧ Below W.heap.size W w') := by
        intro W h
        have := valid_any S W tb (by unfold maxLen; omega) h
        rwa [hSd, vld_flat hg] at this
      obtain ⟨ad3, cap3, rfl⟩ := ints_shape hio
      have hnl60 : ns.length ≤ 60 := by omega
      clear hown hns hg hnl hio hS hSd HCE HZ hd
      go_wp2_with fail
      refine HM.out.mono ?_
      rintro e w2 ⟨rfl, b2⟩
      have t2 := tr.later b2
      go_wp2_with fail
      refine (HP.out _ t2).mono ?_
      rintro e w3 ⟨vp, rfl, hip, b3⟩
      have t3 := t2.later b3
      have HIP : Hid (IntsAt w3 vp ns) := hip
      obtain ⟨adp, capp, rfl⟩ := ints_shape hip
      have HI3 : Hid (IntsAt w3 (.slice ad3 ns.length cap3) ns) := ints_later (ints_later HI.out b2) b3
      clear hip HI
      go_wp2_with fail
      refine (HV.out _ t3).mono ?_
      rintro e w4 ⟨rfl, b4⟩
      have t4 := t3.later b4
      have HI4 : Hid (IntsAt w4 (.slice ad3 ns.length cap3) ns) := ints_later HI3.out b4
      have HIP4 : Hid (IntsAt w4 (.slice adp ns.length capp) ns) := ints_later HIP.out b4
      clear HI3 HIP HM HP HV
      go_wp2
      go_loopw [8, 9] (fun a i wx => ∃ (cs1 cs2 : List Int), Hid (ns = cs1 ++ cs2) ∧ a = .int .i64 ((flat cs1).length : Nat) ∧ i = .int .i64 (cs1.length : Nat) ∧ Below w4.heap.size w4 wx) (fun _ i _ => ns.length - (intOf i).toNat)
      case atStart => exact ⟨[], ns, rfl, rfl, rfl, Below.refl _ _⟩
      case round =>
        obtain ⟨cs1, cs2, HN, rfl, rfl, hbx⟩ := hrel
        have tx := t4.later hbx
        have hsplit : Hid (S.data.toList = flat cs1 ++ flat cs2) := by
          show S.data.toList = _
          rw [← flat_append, ← HN.out]; exact HSd.out
        have hg1 : Hid (Good cs1) := fun x hx => HG.out x (by rw [HN.out]; exact List.mem_append.2 (Or.inl hx))
        have hg2 : Hid (Good cs2) := fun x hx => HG.out x (by rw [HN.out]; exact List.mem_append.2 (Or.inr hx))
        have hsz := split_size hsplit.out
        have hnl : ns.length = cs1.length + cs2.length := by rw [HN.out, List.length_append]
        cases cs2 with
        | nil =>
          have HE : Hid (∀ W, Tab W tb → Calls Tryd.prog 20 #[.string S, .int .i64 (S.size : Nat)] W fun e w' => e = .returned (.bool true) ∧ Below W.heap.size W w') := by
            intro W h
            have := edge_any S (S.size : Nat) W tb (by unfold maxLen; omega) h
            have e := edge_start hsplit.out hg1.out hg2.out
            have e2 : (flat cs1).length = S.size := by simp [flat_nil] at hsz; omega
            rw [e2] at e
            rwa [e] at this
          have hend : (flat cs1).length = S.size := by simp [flat_nil] at hsz; omega
          have hend2 : cs1.length = ns.length := by simp at hnl; omega
          rw [hend, hend2]
          clear hsplit hg1 hg2 hsz hnl HN hend hend2
          go_wp2_with fail
          refine (HE.out _ tx).mono ?_
          rintro e w5 ⟨rfl, b5⟩
          go_wp2
          go_ret
          have g0 := b1.trans (hb.mono b1.size)
          have g1 := g0.trans (b2.mono g0.size)
          have g2 := g1.trans (b3.mono g1.size)
          have g3 := g2.trans (b4.mono g2.size)
          have g4 := g3.trans (hbx.mono g3.size)
          exact ⟨rfl, g4.trans (b5.mono g4.size)⟩
        | cons c cs3 =>
          have hne : ns ≠ [] := by intro e; rw [e] at hnl; simp at hnl
          obtain ⟨blk3, off3, rfl, hcl3⟩ := ints_cells HI4.out hne
          obtain ⟨blkp, offp, rfl, hclp⟩ := ints_cells HIP4.out hne
          have hget : ns.getD cs1.length 0 = c := by rw [HN.out]; simp [List.getD_eq_getElem?_getD]
          have hlt : cs1.length < ns.length := by simp at hnl; omega
          have c3 := cell_later hbx (hcl3 cs1.length hlt)
          have cp := cell_later hbx (hclp cs1.length hlt)
          rw [hget] at c3 cp
          have hsc : scalar c := hg2.out.head
          have hel := enc_length c
          have hfl : (flat (c :: cs3)).length = (enc c).length + (flat cs3).length := by rw [flat_cons, List.length_append]
          have hc1 := fun W => size_in S (flat cs1).length W tb (by unfold maxLen; omega) (by omega)
          rw [sz_start hsplit.out hsc] at hc1
          have HSz : Hid (∀ W, Tab W tb → Calls Tryd.prog 14 #[.string S, .int .i64 ((flat cs1).length : Nat)] W fun e w' => e = .returned (.int .i64 ((enc c).length : Nat)) ∧ Below W.heap.size W w') := hc1
          have HE1 : Hid (∀ W, Tab W tb → Calls Tryd.prog 20 #[.string S, .int .i64 ((flat cs1).length : Nat)] W fun e w' => e = .returned (.bool true) ∧ Below W.heap.size W w') := by
            intro W h
            have := edge_any S ((flat cs1).length : Nat) W tb (by unfold maxLen; omega) h
            rwa [edge_start hsplit.out hg1.out hg2.out] at this
          have hsp2 : S.data.toList = flat (cs1 ++ [c]) ++ flat cs3 := by rw [hsplit.out, flat_append, flat_cons, flat_cons, flat_nil, List.append_nil, List.append_assoc]
          have HL2 : Hid ((flat (cs1 ++ [c])).length = (flat cs1).length + (enc c).length) := by show _ = _; rw [flat_append, List.length_append]; simp [flat]
          have hE2 : edg S (((flat cs1).length : Nat) + 1) = decide ((enc c).length = 1) := by
            by_cases e1 : (enc c).length = 1
            · have q := edge_start hsp2 (hg1.out.append (Good.cons hsc good_nil)) hg2.out.tail
              rw [HL2.out, e1] at q
              rw [show (((flat cs1).length : Nat) : Int) + 1 = (((flat cs1).length + 1 : Nat) : Int) from rfl, q]
              simp [e1]
            · have q := edge_within hsplit.out hsc 1 (by omega) (by omega)
              rw [show (((flat cs1).length : Nat) : Int) + 1 = (((flat cs1).length + 1 : Nat) : Int) from rfl, q]
              simp [e1]
          have HE2 : Hid (∀ W, Tab W tb → Calls Tryd.prog 20 #[.string S, .int .i64 (((flat cs1).length : Nat) + 1)] W fun e w' => e = .returned (.bool (decide ((enc c).length = 1))) ∧ Below W.heap.size W w') := by
            intro W h
            have := edge_any S (((flat cs1).length : Nat) + 1) W tb (by unfold maxLen; omega) h
            rwa [hE2] at this
          have HB : Hid (∀ W, Tab W tb → Calls Tryd.prog 10 #[.string S, .int .i64 (((flat cs1).length : Nat) + ((enc c).length : Nat))] W fun e w' => e = .returned (.int .i64 ((flat cs1).length : Nat)) ∧ Below W.heap.size W w') := by
            intro W h
            have := back_any S (((flat cs1).length + (enc c).length : Nat) : Int) W tb (by unfold maxLen; omega) h
            rw [back_start hsplit.out hg1.out hg2.out] at this
            rw [Int.natCast_add] at this
            exact this
          have HN2 : Hid (ns = (cs1 ++ [c]) ++ cs3) := by show ns = _; rw [HN.out]; simp
          have HL3 : Hid ((cs1 ++ [c]).length = cs1.length + 1) := by show _ = _; simp
          have hle : (flat cs1).length + (enc c).length ≤ S.size := by omega
          have hkey := enc_len c hsc
          clear hsp2 hE2 hc1 hget hcl3 hclp hsplit hg1 hg2 hsz hnl HN hfl hne
          unfold scalar at hsc
          generalize hF1 : (flat cs1).length = at0 at *
          generalize hN1 : cs1.length = m at *
          generalize hE : (enc c).length = k at *
          clear hF1 hN1 hE
          rcases hkey with ⟨q1, rfl⟩ | ⟨q1, q2, rfl⟩ | ⟨q1, q2, rfl⟩ | ⟨q1, rfl⟩
          all_goals
            go_wp2_with (go_at_call 14; refine (HSz.out _ tx).mono ?_; rintro e w5 ⟨rfl, b5⟩)
            have t5 := tx.later b5
            have z3 := cell_regrown (cell_later b5 c3)
            have zp := cell_regrown (cell_later b5 cp)
            have CE1 : Hid (∀ d os, Calls Tryd.prog 20 #[.string S, .int .i64 (at0 : Nat)] (grow (redrawn w5 d) os) fun e w'' => e = .returned (.bool true) ∧ ∃ p : Regrown, w'' = grow (redrawn w5 p.d) p.os) := fun d os => Calls.regrown_of (HE1.out _ (t5.later (below_regrown w5 d os)))
            have CE2 := fun d os => Calls.regrown_of (HE2.out _ (t5.later (below_regrown w5 d os)))
            have HCE2 := Hid.mk' CE2
            have CB := fun d os => Calls.regrown_of (HB.out _ (t5.later (below_regrown w5 d os)))
            have HCB := Hid.mk' CB
            clear CE2 CB c3 cp
            refine wp_region_quiet_below (by kernel_rfl) (by kernel_rfl) ?_
            repeat (go_big_quiet_step (first | (go_at_call_of 20 (Value.int IntKind.i64 ((at0 : Nat) : Int)); exact CE1.out _ _) | (go_at_call 20; exact HCE2.out _ _) | (go_at_call 10; exact HCB.out _ _)))
            refine wpQuiet_nil ?_
            intro _ hw'
            obtain ⟨⟨dq, osq⟩, hw''⟩ := hw'
            subst hw''
            have bq := below_regrown w5 dq osq
            clear z3 zp CE1 HCE2 HCB
            generalize grow (redrawn w5 dq) osq = w6 at *
            go_wp2
            go_roundw
            case rel =>
              refine ⟨cs1 ++ [c], cs3, HN2, ?_, ?_, (hbx.trans (b5.mono hbx.size)).trans (bq.mono (Nat.le_trans hbx.size b5.size))⟩
              · rw [HL2.out]; go_num
              · rw [HL3.out]; go_num
            case measure => simp [intOf]; omega

theorem back_law (zs : List Int) (v : Value) (hm : zs.length ≤ maxLen) (hz : ∀ i, i < zs.length → 0 ≤ zs.getD i 0 ∧ zs.getD i 0 ≤ 4294967295) (w : World) (tb : Nat × Nat) (hT : Tab w tb) (hR : RowAt .u32 w v zs) :
    Calls Tryd.prog 6 #[v] w fun e w' => e = .returned (.bool true) ∧ Below w.heap.size w w' := by
  by_cases hl : zs.length ≤ 60
  · exact back_row zs v hl hz w tb hT hR
  · obtain ⟨ad, cap, rfl, _⟩ := hR
    exact back_long zs ad cap (by omega) hm w tb hT
end Go.Proofs.YtncabdbacncaaaaDoor
