/- mapper's orNone, Runs. -/
import Derived.Test.YtbkjcibfcpejfaaMapRuns
import Derived.Test.YtbkjcibfcpejfaaAlgMath
namespace Go.Proofs.Ytbkjcibfcpejfaa
open Go.RowKit Go.Sort
set_option linter.unusedSimpArgs false
set_option linter.unusedVariables false

/-- A subset, or none: a row of no places. -/
def SubN (w : World) (p : Value) (L : List Int) : Prop := Sub w p L ∨ (p = .pointer none ∧ L = [])
theorem SubN.later {w w' : World} {p : Value} {L : List Int} (h : SubN w p L) (hb : Below w.heap.size w w') : SubN w' p L := h.imp (fun h => h.later hb) id
set_option maxHeartbeats 400000 in
theorem orNone9_any {w : World} {p : Value} {L : List Int} (h : SubN w p L) : Calls Try.prog 26 #[p] w fun e w' => ∃ q, e = .returned q ∧ Sub w' q L ∧ Below w.heap.size w w' := by
  rcases h with h | ⟨rfl, rfl⟩
  · have HS := Hid.mk7 h
    obtain ⟨b, v, rfl, _, _⟩ := h
    go_enter Try.func26, Try.ntmps26
    go_wp2
    go_ret
    exact ⟨_, rfl, HS.out, Below.refl _ _⟩
  · have HN := Hid.mk7 (new_any 0 w 0 rfl (by omega))
    go_enter Try.func26, Try.ntmps26
    go_wp2_with fail
    refine HN.out.mono ?_
    rintro e w1 ⟨q, rfl, hs, b1⟩
    have HS := Hid.mk7 hs
    clear hs
    go_wp2
    go_ret
    exact ⟨q, rfl, HS.out, b1⟩
/-- Rows of two kinds don't lie in one block. -/
theorem own_apart {w : World} {B B' : Nat} {v v' : Value} {rs qs : List Sg} (h : Own w B v rs) (h' : OwnV w B' v' qs) : v.ownBlock = none ∨ v.ownBlock ≠ v'.ownBlock := by
  rcases h.2 with ⟨h1, _⟩ | ⟨g, cap, cur, h1, _, h3, _⟩
  · left; rw [h1]; rfl
  · right
    rw [h1]
    rcases h'.2 with ⟨k1, _⟩ | ⟨g', cap', cur', k1, _, k3, _⟩
    · rw [k1]; simp [Value.ownBlock]
    · rw [k1]
      intro e
      have e2 : g = g' := by simpa [Value.ownBlock] using e
      subst e2
      rw [h3] at k3
      have := Option.some.inj k3
      have h4 : (51 : Nat) = 38 := by injection this
      exact absurd h4 (by decide)
theorem own_keptV {w w' : World} {B B' : Nat} {v v' : Value} {rs qs : List Sg} (h : Own w B v rs) (h' : OwnV w B' v' qs) (hg : w.grownBy w' v'.ownBlock) : Own w' B v rs :=
  World.ownsRow.kept h hg (own_apart h h')
set_option maxHeartbeats 1600000 in
set_option maxRecDepth 100000 in
theorem mruns_any {w : World} {p : Value} {L : List Int} (b : Bool) (h : SubN w p L) (hl : L.length ≤ 20000) :
    Calls Try.prog 17 #[p, .bool b] w fun e w' => ∃ v, e = .returned v ∧ SgAt w' v (rn b L) ∧ Below w.heap.size w w' := by
  obtain ⟨i0, hi, hz0, hz1, hz2⟩ := info_parts Try.info_iv
  have HSN := Hid.mk7 h
  clear h
  go_enter Try.func17, Try.ntmps17
  go_wp2_with (at_make; refine wpList_make_own _ rfl _ _ 31 rfl w.heap.size 38 i0 (.agg #[.int .i64 0, .int .i64 0]) 2 Try.underlying31 hi hz0 hz1 .i64 .i64 _ 200 rfl rfl rfl (by rw [hz2]; decide) (by decide) (Nat.le_refl _) ?_)
  intro w1 hown1 hgrow1
  have b1 : Below w.heap.size w w1 := (Below.refl _ _).grown hgrow1 (Nat.le_refl _) (fun j hj => by cases hj)
  have O1 : Hid (OwnV w1 w.heap.size (.slice (some ⟨w.heap.size, 0, none⟩) 0 200) []) := hown1
  clear hown1 hgrow1
  generalize (Value.slice (some ⟨w.heap.size, 0, none⟩) 0 200) = v1 at *
  go_wp2_with fail
  refine (orNone9_any (HSN.out.later b1)).mono ?_
  rintro e w2 ⟨q, rfl, hs, b2⟩
  have HS2 := Hid.mk7 hs
  have O2 := Hid.mk7 (O1.out.later b2)
  have g2 := b1.trans (b2.mono b1.size)
  clear hs O1 b1 b2 HSN
  go_wp2_with fail
  refine (segs_own HS2.out (by omega)).mono ?_
  rintro e w3 ⟨v3, rfl, o3, b3⟩
  have O3 := Hid.mk7 (O2.out.later b3)
  have S3 := Hid.mk7 o3
  have g3 := g2.trans (b3.mono g2.size)
  have HL : Hid (xp (rle L) = L) := xp_rle L
  have HP : Hid (∀ r ∈ rle L, 1 ≤ r.1) := fun r hr => rle_pos hr
  have hrl := rle_len L
  clear O2 g2 b3 HS2
  generalize w2.heap.size = B2 at *
  generalize rle L = rs at *
  obtain ⟨a3, cap3, rfl, hcap3, hg3⟩ := own_shape o3
  clear o3
  go_wp2
  go_loopw [5, 6, 16] (fun rv ev iv wr => ∃ k P : Nat, k ≤ rs.length ∧ iv = .int .i64 (k : Nat) ∧ ev = .int .i64 (P : Nat) ∧ Hid (P = (xp (rs.take k)).length) ∧ P ≤ 20000 ∧ Hid (OwnV wr w.heap.size rv (rn b (xp (rs.take k)))) ∧ Hid (Own wr B2 (.slice a3 rs.length cap3) rs) ∧ Below w.heap.size w wr) (fun _ _ iv _ => rs.length - (intOf iv).toNat)
  case atStart => exact ⟨0, 0, Nat.zero_le _, rfl, rfl, rfl, by omega, O3, S3, g3⟩
  case round =>
    clear O3 S3 g3
    obtain ⟨k, P, hk, rfl, rfl, HPX, hP, HO, HS, hb⟩ := hrel
    by_cases hlt : k < rs.length
    · obtain ⟨⟨n, c⟩, hr⟩ : ∃ r, rs[k]? = some r := ⟨rs[k], List.getElem?_eq_getElem hlt⟩
      obtain ⟨g, rfl⟩ := hg3 (by intro e; rw [e] at hlt; simp at hlt)
      obtain ⟨_, _, e', _, _, hcells⟩ := HS.out.row
      cases e'
      obtain ⟨_, _, e', c0, c1⟩ := hcells k _ hr
      cases e'
      simp only [Nat.zero_add] at c0 c1
      have hn := HP.out _ (List.mem_of_getElem? hr)
      simp only at hn
      have hx := xp_take_le2 hr
      simp only at hx
      rw [HL.out, ← HPX.out] at hx
      have HXL : Hid (P + n.toNat = (xp (rs.take (k + 1))).length) := by show _ = _; rw [xp_take hr, HPX.out]; simp
      have HXT : Hid (xp (rs.take (k + 1)) = xp (rs.take k) ++ List.replicate n.toNat c) := xp_take hr
      have hrl2 := rn_len b (xp (rs.take k))
      rw [← HPX.out] at hrl2
      have bA := below_new7 (Below.refl wr.heap.size wr) (.cells #[.int .i64 n, .int .i64 c] 51)
      have hb2 := below_new7 hb (.cells #[.int .i64 n, .int .i64 c] 51)
      have HO2 := Hid.mk7 (HO.out.later bA)
      have HS2 := Hid.mk7 (HS.out.later bA)
      have hcnt : decide (0 < c) = true ∨ decide (0 < c) = false := by cases decide (0 < c) <;> simp
      clear hcells hr HO HS bA
      by_cases hin : decide (0 < c) = b
      · have HN : Hid (rn b (xp (rs.take (k + 1))) = ad (rn b (xp (rs.take k))) P (P + n)) := by show _ = _; rw [HXT.out, rn_run_in _ hin hn, HPX.out]
        have HAD := Hid.mk7 (madd_any w.heap.size u5 (rn b (xp (rs.take k))) P (P + n) (wr.alloc (.cells #[.int .i64 n, .int .i64 c] 51)) hb2.size (by omega) HO2.out)
        have hin2 : (decide (0 < c) == b) = true := by simpa using hin
        subst hin
        go_wp2_with fail
        refine HAD.out.mono ?_
        rintro e w4 ⟨v4, rfl, o4, gr4⟩
        have O4 : Hid (OwnV w4 w.heap.size v4 (rn (decide (0 < c)) (xp (rs.take (k + 1))))) := by show OwnV _ _ _ _; rw [HN.out]; exact o4
        have S4 := Hid.mk7 (own_keptV HS2.out HO2.out gr4)
        have hb4 := hb2.grown gr4 hb2.size (fun j hj => (HO2.out.lt _ hj).1)
        clear o4 gr4 HAD HO2 HS2
        go_wp2
        go_roundw
        case rel => exact ⟨k + 1, P + n.toNat, by omega, by go_num, by go_num, HXL.out, by omega, O4, S4, hb4⟩
        case measure => simp [intOf]; omega
      · have HN : Hid (rn b (xp (rs.take (k + 1))) = rn b (xp (rs.take k))) := by show _ = _; rw [HXT.out, rn_rep_out _ hin]
        have hin2 : (decide (0 < c) == b) = false := by simpa using hin
        have O4 : Hid (OwnV (wr.alloc (.cells #[.int .i64 n, .int .i64 c] 51)) w.heap.size u5 (rn b (xp (rs.take (k + 1))))) := by show OwnV _ _ _ _; rw [HN.out]; exact HO2.out
        clear hin
        go_wp2
        go_roundw
        case rel => exact ⟨k + 1, P + n.toNat, by omega, by go_num, by go_num, HXL.out, by omega, O4, HS2, hb2⟩
        case measure => simp [intOf]; omega
    · obtain rfl : k = rs.length := by omega
      have O5 : Hid (OwnV wr w.heap.size u5 (rn b L)) := by
        have := HO.out
        rw [List.take_length, HL.out] at this
        exact this
      have hrn := rn_len b L
      clear HO HS HPX
      obtain ⟨qs, hqs⟩ : ∃ qs, qs = rn b L := ⟨_, rfl⟩
      rw [← hqs] at O5 hrn
      have HQ := Hid.mk7 hqs
      clear hqs
      obtain ⟨a5, cap5, rfl, hcap5, hg5⟩ := ownV_shape O5.out
      go_wp2_with (at_make; refine wpList_make_full _ rfl _ _ 31 rfl w.heap.size 38 i0 (.agg #[.int .i64 0, .int .i64 0]) 2 Try.underlying31 hi hz0 hz1 .i64 .i64 _ _ qs.length rfl rfl rfl rfl (by rw [hz2]; omega) (by unfold maxLen; omega) hb.size ?_)
      intro w6 hown6 hgrow6
      have b6 : Below wr.heap.size wr w6 := (Below.refl _ _).grown hgrow6 (Nat.le_refl _) (fun j hj => by cases hj)
      have g6 := hb.trans (b6.mono hb.size)
      have O6 := Hid.mk7 (O5.out.later b6)
      have hN : wr.heap.size ≥ w.heap.size := hb.size
      obtain ⟨cur, hcur, hcsz⟩ : ∃ cur : Array Value, w6.heap[wr.heap.size]? = some (.cells cur 38 (0, 0)) ∧ cur.size = qs.length * 2 := by
        rcases hown6.2 with ⟨k1, _⟩ | ⟨g', cap', cur', k1, _, k3, _, _, k6, _⟩
        · cases k1
        · cases k1; exact ⟨cur', k3, k6⟩
      have HCUR := Hid.mk7 hcur
      clear hown6 hgrow6 hcur O5 b6
      have hsz2 : (Try.prog.info? 38).map (·.size) = some 2 := by rw [hi]; simp [hz1]
      go_wp2_with (refine wpList_copy_two rfl _ _ 31 31 rfl 38 Try.underlying31 hsz2 wr.heap.size qs.length qs.length cap5 a5 rfl rfl cur 38 HCUR.out (cs qs) (cs_length qs) ?c1 ?c2 ?c3 cs_oneCell ?_)
      case c1 =>
        intro e
        cases qs with
        | nil => rfl
        | cons r qs => obtain ⟨g, hg⟩ := hg5 (by simp); rw [hg] at e; cases e
      case c2 =>
        intro a ha j u hu
        cases hq : qs with
        | nil => rw [hq] at hu; simp [cs] at hu
        | cons r qs' =>
          obtain ⟨g, hg⟩ := hg5 (by rw [hq]; simp)
          rw [hg] at ha
          cases ha
          exact World.ownsRow.cells O6.out (g := g) (by rw [hg]; rfl) j u hu
      case c3 => rw [cs_length, hcsz]
      · have g7 : Below w.heap.size w (w6.setRow wr.heap.size (cs qs).toArray) := below_setRow g6 hN _
        have S7 : Hid (SgAt (w6.setRow wr.heap.size (cs qs).toArray) (.slice (some ⟨wr.heap.size, 0, none⟩) qs.length qs.length) qs) := by
          refine ⟨_, _, rfl, Nat.le_refl _, (fun e => by cases e), fun i r hr => ⟨wr.heap.size, 0, rfl, ?_⟩⟩
          have hh := setRow_heap w6 wr.heap.size _ (cs qs).toArray _ _ HCUR.out
          obtain ⟨e1, e2⟩ := cs_get hr
          constructor
          · simp [World.cell?, hh, e1]
          · simp [World.cell?, hh, e2]
        generalize w6.setRow wr.heap.size (cs qs).toArray = w7 at *
        go_wp2
        go_ret
        exact ⟨_, rfl, by rw [← HQ.out]; exact S7.out, g7⟩

set_option maxHeartbeats 1600000 in
set_option maxRecDepth 100000 in
theorem mdown_any {w : World} {p : Value} {L : List Int} (at0 : Int) (h : SubN w p L) (hl : L.length ≤ 20000) :
    Calls Try.prog 10 #[p, .int .i64 at0] w fun e w' => e = .returned (.int .i64 (dn L at0 : Nat)) ∧ Below w.heap.size w w' := by
  have HR := Hid.mk7 (mruns_any false h hl)
  have HD := Hid.mk7 (dn_held L at0)
  clear h
  obtain ⟨A, hA⟩ : ∃ A : Nat, max at0 0 = (A : Int) := ⟨(max at0 0).toNat, by omega⟩
  rw [hA] at HD
  have HDA : Hid (((dn L at0 : Nat) : Int) = (fl9 (rn false L)).countP (fun i : Nat => decide ((i : Int) < (A : Int))) ) := by show _ = _; rw [HD.out, fl9_rn]; rfl
  have HW := Hid.mk7 (rn_wf false L)
  have HB : Hid (∀ k, (fl9 ((rn false L).take k)).countP (fun i : Nat => decide ((i : Int) < (A : Int))) ≤ 20000) := fun k => Nat.le_trans List.countP_le_length (Nat.le_trans (fl9_bound L k) hl)
  have hrl := rn_len false L
  clear HD
  obtain ⟨qs, hqs⟩ : ∃ qs, qs = rn false L := ⟨_, rfl⟩
  rw [← hqs] at HR HDA HW hrl HB
  clear hqs
  go_enter Try.func10, Try.ntmps10
  rcases (show at0 < 0 ∧ (A : Int) = 0 ∨ 0 ≤ at0 ∧ (A : Int) = at0 from by omega) with ⟨h1, h2⟩ | ⟨h1, h2⟩
  · obtain rfl : A = 0 := by omega
    clear h2 hA
    go_wp2_with fail
    refine HR.out.mono ?_
    rintro e w1 ⟨v, rfl, hs, b1⟩
    obtain ⟨a, cap, rfl, hcap, _, hcells⟩ := hs
    have HC := Hid.mk7 hcells
    clear hcells HR
    go_wp2
    go_loopw [5, 13] (fun nv iv wr => ∃ k P : Nat, k ≤ qs.length ∧ iv = .int .i64 (k : Nat) ∧ nv = .int .i64 (P : Nat) ∧ Hid (P = (fl9 (qs.take k)).countP (fun i : Nat => decide ((i : Int) < ((0 : Nat) : Int)))) ∧ P ≤ 20000 ∧ Below w1.heap.size w1 wr ∧ Below w.heap.size w wr) (fun _ iv _ => qs.length - (intOf iv).toNat)
    case atStart => exact ⟨0, 0, Nat.zero_le _, rfl, rfl, rfl, by omega, Below.refl _ _, b1⟩
    case round =>
      clear b1
      obtain ⟨k, P, hk, rfl, rfl, HP, hP, hb, hg⟩ := hrel
      by_cases hlt : k < qs.length
      · obtain ⟨⟨f, t⟩, hr⟩ : ∃ r, qs[k]? = some r := ⟨qs[k], List.getElem?_eq_getElem hlt⟩
        obtain ⟨g, off, rfl, q0, q1⟩ := HC.out k _ hr
        have c0 := cell_later7 hb (Nat.le_refl _) q0
        have c1 := cell_later7 hb (Nat.le_refl _) q1
        have hw := HW.out _ (List.mem_of_getElem? hr)
        simp only at c0 c1 hw
        obtain ⟨hf0, hft, htl⟩ := hw
        have hs := dn_step (A := 0) hr hf0 hft
        have hbd := HB.out (k + 1)
        rw [← HP.out] at hs
        obtain ⟨P', hP'⟩ : ∃ P', P' = (fl9 (qs.take (k + 1))).countP (fun i : Nat => decide ((i : Int) < ((0 : Nat) : Int))) := ⟨_, rfl⟩
        rw [← hP'] at hs hbd
        have HP' := Hid.mk7 hP'
        have HS := Hid.mk7 hs
        have bA := below_new7 hb (.cells #[.int .i64 f, .int .i64 t] 38)
        have gA := below_new7 hg (.cells #[.int .i64 f, .int .i64 t] 38)
        clear q0 q1 hr hP' hs
        go_wp2
        all_goals
          go_roundw
          case rel =>
            have hs := HS.out
            refine ⟨k + 1, P', by omega, by go_num, by simp; omega, HP'.out, by omega, bA, gA⟩
          case measure => simp [intOf]; omega
      · obtain rfl : k = qs.length := by omega
        have HE : Hid (((P : Nat) : Int) = dn L at0) := by show _ = _; rw [HDA.out, HP.out, List.take_length]
        clear HP
        go_wp2
        go_ret
        exact ⟨ret_int7 HE.out, hg⟩
  · subst h2
    clear hA
    go_wp2_with fail
    refine HR.out.mono ?_
    rintro e w1 ⟨v, rfl, hs, b1⟩
    obtain ⟨a, cap, rfl, hcap, _, hcells⟩ := hs
    have HC := Hid.mk7 hcells
    clear hcells HR
    go_wp2
    go_loopw [5, 13] (fun nv iv wr => ∃ k P : Nat, k ≤ qs.length ∧ iv = .int .i64 (k : Nat) ∧ nv = .int .i64 (P : Nat) ∧ Hid (P = (fl9 (qs.take k)).countP (fun i : Nat => decide ((i : Int) < ((A : Nat) : Int)))) ∧ P ≤ 20000 ∧ Below w1.heap.size w1 wr ∧ Below w.heap.size w wr) (fun _ iv _ => qs.length - (intOf iv).toNat)
    case atStart => exact ⟨0, 0, Nat.zero_le _, rfl, rfl, rfl, by omega, Below.refl _ _, b1⟩
    case round =>
      clear b1
      obtain ⟨k, P, hk, rfl, rfl, HP, hP, hb, hg⟩ := hrel
      by_cases hlt : k < qs.length
      · obtain ⟨⟨f, t⟩, hr⟩ : ∃ r, qs[k]? = some r := ⟨qs[k], List.getElem?_eq_getElem hlt⟩
        obtain ⟨g, off, rfl, q0, q1⟩ := HC.out k _ hr
        have c0 := cell_later7 hb (Nat.le_refl _) q0
        have c1 := cell_later7 hb (Nat.le_refl _) q1
        have hw := HW.out _ (List.mem_of_getElem? hr)
        simp only at c0 c1 hw
        obtain ⟨hf0, hft, htl⟩ := hw
        have hs := dn_step (A := A) hr hf0 hft
        have hbd := HB.out (k + 1)
        rw [← HP.out] at hs
        obtain ⟨P', hP'⟩ : ∃ P', P' = (fl9 (qs.take (k + 1))).countP (fun i : Nat => decide ((i : Int) < ((A : Nat) : Int))) := ⟨_, rfl⟩
        rw [← hP'] at hs hbd
        have HP' := Hid.mk7 hP'
        have HS := Hid.mk7 hs
        have bA := below_new7 hb (.cells #[.int .i64 f, .int .i64 t] 38)
        have gA := below_new7 hg (.cells #[.int .i64 f, .int .i64 t] 38)
        clear q0 q1 hr hP' hs
        go_wp2
        all_goals
          go_roundw
          case rel =>
            have hs := HS.out
            refine ⟨k + 1, P', by omega, by go_num, by simp; omega, HP'.out, by omega, bA, gA⟩
          case measure => simp [intOf]; omega
      · obtain rfl : k = qs.length := by omega
        have HE : Hid (((P : Nat) : Int) = dn L A) := by show _ = _; rw [HDA.out, HP.out, List.take_length]
        clear HP
        go_wp2
        go_ret
        exact ⟨ret_int7 HE.out, hg⟩
end Go.Proofs.Ytbkjcibfcpejfaa
