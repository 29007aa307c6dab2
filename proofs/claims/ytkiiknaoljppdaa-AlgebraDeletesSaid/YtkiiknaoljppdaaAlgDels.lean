/- AlgebraDeletes walked. -/
import Derived.Test.YtkiiknaoljppdaaAlgLawM
namespace Go.Proofs.Ytkiiknaoljppdaa
open Go.RowKit Go.Sort
set_option linter.unusedSimpArgs false
set_option linter.unusedVariables false

/-- The bytes at places that are so. -/
def pk (v : Bool) : List Bool → List UInt8 → List UInt8
  | b :: bs, x :: l => if b = v then x :: pk v bs l else pk v bs l
  | _, _ => []
def c2 (b : Bool) : Int := if b then 2 else 0
theorem del_pk : ∀ (bs : List Bool) (l : List UInt8), del (bs.map c2) l = pk false bs l
  | [], l => rfl
  | _ :: _, [] => rfl
  | b :: bs, x :: l => by
    have ih := del_pk bs l
    rw [List.map_cons]
    show (if c2 b = 0 then x :: del (bs.map c2) l else del (bs.map c2) l) = if b = false then x :: pk false bs l else pk false bs l
    rw [ih]; cases b <;> rfl
theorem del_pkn : ∀ (bs : List Bool) (l : List UInt8), del (notL (bs.map c2)) l = pk true bs l
  | [], l => rfl
  | _ :: _, [] => rfl
  | b :: bs, x :: l => by
    have ih := del_pkn bs l
    rw [List.map_cons]
    show (if (if c2 b = 0 then (1 : Int) else 0) = 0 then x :: del (notL (bs.map c2)) l else del (notL (bs.map c2)) l) = if b = true then x :: pk true bs l else pk true bs l
    rw [ih]; cases b <;> rfl
theorem ok8_c2 (bs : List Bool) (h : bs.length ≤ 20000) : Ok8 (bs.map c2) := ⟨by simpa using h, fun c hc => by
  obtain ⟨b, _, rfl⟩ := List.mem_map.1 hc
  cases b <;> decide⟩
theorem app_one {l : List UInt8} {t : ByteArray} {k : Nat} {x : UInt8} {r : List UInt8} (I : ByteArray) (ht : t.data.toList = l) (hd : l.drop k = x :: r) : (I ++ t.extract k (k + 1)).data.toList = I.data.toList ++ [x] := by
  have e1 : (t.extract k (k + 1)).data.toList = [x] := by rw [bytes_ext, ht, hd, Nat.add_sub_cancel_left]; rfl
  rw [← e1]; simp
theorem size_app (I : ByteArray) (t : ByteArray) (k : Nat) : (I ++ t.extract k (k + 1)).size ≤ I.size + 1 := by rw [ByteArray.size_append, ByteArray.size_extract]; omega
set_option maxHeartbeats 8000000 in
set_option maxRecDepth 100000 in
theorem dels8_any (bs : List Bool) (s : ByteArray) (v : Value) (w : World) (hv : BoolAt w v bs) (hl : bs.length ≤ 140737488355328) (hs0 : s.size ≤ maxLen) :
    Calls Try.prog 5 #[v, .string s] w fun e w' => e = .returned (.bool true) ∧ Below w.heap.size w w' := by
  obtain ⟨i0, hi, hz0, hz1, hz2⟩ := info_parts Try.info_int7
  have hs : s.size ≤ 9223372036854775807 := hs0
  clear hs0
  obtain ⟨a, cap, rfl, hcap, hcells⟩ := hv
  have HC := Hid.mk7 hcells
  clear hcells
  by_cases h1 : 150 < bs.length
  · go_enter Try.func5, Try.ntmps5
    go_wp2_with fail
    refine (known8_any w).mono ?_
    rintro e w1 ⟨rfl, b1⟩
    go_wp2
    go_ret
    exact ⟨rfl, b1⟩
  by_cases h2 : s.size < bs.length
  · go_enter Try.func5, Try.ntmps5
    go_wp2_with fail
    refine (known8_any w).mono ?_
    rintro e w1 ⟨rfl, b1⟩
    go_wp2
    go_ret
    exact ⟨rfl, b1⟩
  obtain ⟨t, htt⟩ : ∃ t, s.extract 0 bs.length = t := ⟨_, rfl⟩
  have hts : t.size = bs.length := by rw [← htt, ByteArray.size_extract]; omega
  obtain ⟨l, hlt⟩ : ∃ l, t.data.toList = l := ⟨_, rfl⟩
  have hll : l.length = bs.length := by rw [← hlt]; exact hts
  have HL := Hid.mk7 hlt
  have HLL := Hid.mk7 hll
  have HTT := Hid.mk7 htt
  have htn : t.size ≤ 150 := by omega
  have HTS := Hid.mk7 hts
  clear hlt hll hts
  go_enter Try.func5, Try.ntmps5
  go_wp2_with fail
  refine (known8_any w).mono ?_
  rintro e w1 ⟨rfl, b1⟩
  go_wp2
  clear htt HTT
  go_loopw [6, 7, 8, 9] (fun qv inv outv iv wr => ∃ (k : Nat) (I O : ByteArray), k ≤ bs.length ∧ iv = .int .i64 (k : Nat) ∧ inv = .string I ∧ outv = .string O ∧ I.size ≤ k ∧ O.size ≤ k ∧ Hid (pk true bs l = I.data.toList ++ pk true (bs.drop k) (l.drop k)) ∧ Hid (pk false bs l = O.data.toList ++ pk false (bs.drop k) (l.drop k)) ∧ Hid (OwnI wr w.heap.size qv ((bs.take k).map c2)) ∧ Below w.heap.size w wr) (fun _ _ _ iv _ => bs.length - (intOf iv).toNat)
  case atStart => exact ⟨0, ⟨#[]⟩, ⟨#[]⟩, Nat.zero_le _, rfl, rfl, rfl, Nat.le_refl _, Nat.le_refl _, rfl, rfl, OwnI.nil _ _, b1⟩
  case round =>
    obtain ⟨k, I, O, hk, rfl, rfl, rfl, hIs, hOs, HI, HOO, HO, hb⟩ := hrel
    by_cases hlt : k < bs.length
    · obtain ⟨z, hz⟩ : ∃ r, bs[k]? = some r := ⟨bs[k], List.getElem?_eq_getElem hlt⟩
      obtain ⟨g, off, rfl, q0⟩ := HC.out k _ hz
      have c0 := cell_later7 hb (Nat.le_refl _) q0
      have HX := Hid.mk7 (take_map_succ c2 hz)
      have hLN : ((bs.take k).map c2).length = k := by simp; omega
      have HLN := Hid.mk7 hLN
      have hsz := hb.size
      have hdb : bs.drop k = z :: bs.drop (k + 1) := by rw [List.drop_eq_getElem_cons hlt]; congr 1; rw [List.getElem?_eq_getElem hlt] at hz; exact Option.some.inj hz
      have hkl : k < l.length := by rw [HLL.out]; exact hlt
      have hdl : l.drop k = l[k] :: l.drop (k + 1) := List.drop_eq_getElem_cons hkl
      have HAI := Hid.mk7 (app_one I HL.out hdl)
      have HAO := Hid.mk7 (app_one O HL.out hdl)
      rw [hdb, hdl] at HI HOO
      have hsi := size_app I t k
      have hso := size_app O t k
      have hkt : k + 1 ≤ t.size := by rw [HTS.out]; omega
      have HO1 : Hid (wr.ownsRow w.heap.size 3 1 u6 k (((bs.take k).map c2).map (Value.int .i64))) := by
        have := HO.out
        unfold OwnI at this
        rw [hLN] at this
        exact this
      clear hLN hz q0 HO hdb hdl
      generalize (bs.take k).map c2 = X at *
      cases z
      · go_wp2_with (at_builtin; refine wpList_append_own _ rfl _ _ 24 rfl w.heap.size 3 i0 (.int .i64 0) 1 8 Try.underlying24 hi hz0 hz1 hz2 rfl (by decide) _ _ _ rfl (World.ownsRow.alloc HO1.out _) ⟨_, 0, none⟩ 1 1 [.int .i64 0] rfl rfl (cell_one8 _ _ _) (fun u hu => by simp at hu; subst hu; rfl) (by unfold maxLen; omega) (by omega) (by simp; omega) ?_)
        intro v' w3 hown' hgrow _
        have hb3 : Below w.heap.size w w3 := (hb.alloc hb.size _).grown hgrow (by simp; omega) (fun t ht => (HO1.out.lt _ ht).1)
        have HO3 : Hid (OwnI w3 w.heap.size v' ((bs.take (k + 1)).map c2)) := by rw [HX.out]; exact ownI_push HLN.out hown'
        have HI2 : Hid (pk true bs l = I.data.toList ++ pk true (bs.drop (k + 1)) (l.drop (k + 1))) := HI.out
        have HO2 : Hid (pk false bs l = (O ++ t.extract k (k + 1)).data.toList ++ pk false (bs.drop (k + 1)) (l.drop (k + 1))) := by show _ = _; rw [HAO.out, HOO.out, List.append_assoc]; rfl
        clear hown' hgrow HO1 HX c0 HI HOO HAI HAO
        go_wp2
        go_roundw
        case rel => exact ⟨k + 1, _, _, by omega, by go_num, rfl, rfl, by omega, by omega, HI2, HO2, HO3, hb3⟩
        case measure => simp [intOf]; omega
      · go_wp2_with (at_builtin; refine wpList_append_own _ rfl _ _ 24 rfl w.heap.size 3 i0 (.int .i64 0) 1 8 Try.underlying24 hi hz0 hz1 hz2 rfl (by decide) _ _ _ rfl (World.ownsRow.alloc HO1.out _) ⟨_, 0, none⟩ 1 1 [.int .i64 2] rfl rfl (cell_one8 _ _ _) (fun u hu => by simp at hu; subst hu; rfl) (by unfold maxLen; omega) (by omega) (by simp; omega) ?_)
        intro v' w3 hown' hgrow _
        have hb3 : Below w.heap.size w w3 := (hb.alloc hb.size _).grown hgrow (by simp; omega) (fun t ht => (HO1.out.lt _ ht).1)
        have HO3 : Hid (OwnI w3 w.heap.size v' ((bs.take (k + 1)).map c2)) := by rw [HX.out]; exact ownI_push HLN.out hown'
        have HO2 : Hid (pk false bs l = O.data.toList ++ pk false (bs.drop (k + 1)) (l.drop (k + 1))) := HOO.out
        have HI2 : Hid (pk true bs l = (I ++ t.extract k (k + 1)).data.toList ++ pk true (bs.drop (k + 1)) (l.drop (k + 1))) := by show _ = _; rw [HAI.out, HI.out, List.append_assoc]; rfl
        clear hown' hgrow HO1 HX c0 HI HOO HAI HAO
        go_wp2
        go_roundw
        case rel => exact ⟨k + 1, _, _, by omega, by go_num, rfl, rfl, by omega, by omega, HI2, HO2, HO3, hb3⟩
        case measure => simp [intOf]; omega
    · obtain rfl : k = bs.length := by omega
      have HPT : Hid (pk true bs l = I.data.toList) := by show _ = _; have := HI.out; rw [List.drop_length] at this; simpa [pk] using this
      have HPF : Hid (pk false bs l = O.data.toList) := by show _ = _; have := HOO.out; rw [List.drop_length] at this; simpa [pk] using this
      have hn0 := HO.out.num
      rw [List.take_length] at hn0
      have V0 := Hid.mk7 hn0
      obtain ⟨n, hn⟩ : ∃ n, bs.length = n := ⟨_, rfl⟩
      have OQ : Hid (Ok8 (bs.map c2) ∧ (bs.map c2).length = n) := ⟨ok8_c2 bs (by omega), by simp [hn]⟩
      have ON : Hid (Ok8 (notL (bs.map c2)) ∧ (notL (bs.map c2)).length = n) := ⟨ok8_not OQ.out.1, by simp [notL, hn]⟩
      have HD1 : Hid (del (bs.map c2) t.data.toList = O.data.toList) := by show _ = _; rw [HL.out, del_pk]; exact HPF.out
      have HD2 : Hid (del (notL (bs.map c2)) t.data.toList = I.data.toList) := by show _ = _; rw [HL.out, del_pkn]; exact HPT.out
      have HTN : Hid (t.size = n) := by show _ = _; rw [← hn]; exact HTS.out
      have hn150 : n ≤ 150 := by omega
      obtain ⟨tx, htx⟩ : ∃ tx, t ++ ⟨#[120]⟩ = tx := ⟨_, rfl⟩
      have HTX : Hid (tx.size = n + 1) := by show _ = _; rw [← htx, ByteArray.size_append, HTN.out]; rfl
      clear hn0 HI HOO HPT HPF HO HTS HL HLL
      generalize bs.map c2 = Q at *
      go_wp2_with fail
      refine (made_ok V0.out OQ.out.1 (Nat.le_trans (rle_len _) (by rw [OQ.out.2]; omega))).mono ?_
      rintro e w2 ⟨y, rfl, hy, b2⟩
      have Y2 := Hid.mk7 hy
      have g2 := hb.trans (b2.mono hb.size)
      obtain ⟨yb, yv, rfl, _⟩ := id Y2.out
      clear V0 hb b2 hy
      go_wp2_with fail
      refine (delete_ok t O Y2.out OQ.out.1 (by rw [OQ.out.2, HTN.out]) HD1.out).mono ?_
      rintro e w3 ⟨rfl, b3⟩
      have Y3 := Hid.mk7 (Y2.out.later b3)
      have g3 := g2.trans (b3.mono g2.size)
      clear Y2 g2 b3
      go_wp2_with fail
      refine (not_ok Y3.out OQ.out.1 (by rw [OQ.out.2]; omega) rfl).mono ?_
      rintro e w4 ⟨m, rfl, hm, b4⟩
      have Y4 := Hid.mk7 (Y3.out.later b4)
      have M4 := Hid.mk7 hm
      have g4 := g3.trans (b4.mono g3.size)
      clear Y3 g3 b4 hm
      go_wp2_with fail
      refine (delete_ok t I M4.out ON.out.1 (by rw [ON.out.2, HTN.out]) HD2.out).mono ?_
      rintro e w5 ⟨rfl, b5⟩
      have Y5 := Hid.mk7 (Y4.out.later b5)
      have g5 := g4.trans (b5.mono g4.size)
      clear M4 Y4 g4 b5
      go_wp2_with fail
      refine (delete_len tx Y5.out (by rw [OQ.out.2]; omega) (by rw [HTX.out]; omega) (by rw [OQ.out.2, HTX.out]; omega)).mono ?_
      rintro e w6 ⟨rfl, b6⟩
      have g6 := g5.trans (b6.mono g5.size)
      clear Y5 g5 b6
      go_wp2
      go_ret
      exact ⟨rfl, g6⟩
end Go.Proofs.Ytkiiknaoljppdaa
