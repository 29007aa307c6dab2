/- UtfNone, walked: it answers true at every int and byte. -/
import Derived.Test.YtncabdbacncaaabDoorKnown
import Derived.Laws.BytesArg
namespace Go.Proofs.YtncabdbacncaaabDoor
open Go.RowKit Go.Sort

theorem or128 (b : Int) (h : 0 ≤ b ∧ b ≤ 255) : 128 ≤ bits BinOp.or IntKind.u8 b 128 ∧ bits BinOp.or IntKind.u8 b 128 ≤ 255 := by
  have all : ∀ n : Fin 256, 128 ≤ bits BinOp.or IntKind.u8 ((n.val : Nat) : Int) 128 ∧ bits BinOp.or IntKind.u8 ((n.val : Nat) : Int) 128 ≤ 255 := by decide +kernel
  obtain ⟨m, rfl⟩ : ∃ m : Nat, b = m := ⟨b.toNat, by omega⟩
  exact all ⟨m, by omega⟩

theorem high_one (y : UInt8) (t : List UInt8) (h : 128 ≤ y.toNat) (ht : t = [] ∨ ∃ z u, t = z :: u ∧ z.toNat < 128) : sz1 (y :: t) = 0 := by
  have hn := sz1_nonneg (y :: t)
  by_cases hz : sz1 (y :: t) = 0
  · exact hz
  · exfalso
    have hz' : sz1 (y :: t) = szI (y :: t).length (bl (y :: t) 0) (bl (y :: t) 1) (bl (y :: t) 2) (bl (y :: t) 3) := by unfold sz1; rw [if_neg (by simp)]
    have hp : 0 < szI (y :: t).length (bl (y :: t) 0) (bl (y :: t) 1) (bl (y :: t) 2) (bl (y :: t) 3) := by omega
    have h0 : bl (y :: t) 0 = (y.toNat : Int) := rfl
    have h1 : t = [] ∨ bl (y :: t) 1 < 128 := by
      rcases ht with e | ⟨z, u, rfl, hz⟩
      · exact Or.inl e
      · exact Or.inr (by show ((z.toNat : Nat) : Int) < 128; omega)
    have hl : t = [] → (y :: t).length = 1 := fun e => by rw [e]; rfl
    rcases szI_cases (by omega) hp with ⟨_, hm, g⟩ | ⟨_, hm, g⟩ | ⟨_, hm, g2, g⟩ | ⟨_, hm, g2, g3, g⟩
    · omega
    · rcases h1 with e | e
      · have := hl e; omega
      · omega
    · rcases h1 with e | e
      · have := hl e; omega
      · omega
    · rcases h1 with e | e
      · have := hl e; omega
      · omega

theorem enc_bad : enc 65533 = [239, 191, 189] := by decide +kernel
theorem pts_low (y : UInt8) (t : List UInt8) (h : y.toNat < 128) : pts (y :: t) = (y.toNat : Int) :: pts t := by
  have e : enc (y.toNat : Int) = [y] := by
    unfold enc Lib.encodeRune
    rw [Lib.encodeRuneZ_one (by omega) (by omega)]
    simp
  have := pts_enc (c := (y.toNat : Int)) (by unfold scalar; omega) t
  rw [e] at this
  exact this
theorem pts_high (y : UInt8) (t : List UInt8) (h : 128 ≤ y.toNat) (ht : t = [] ∨ ∃ z u, t = z :: u ∧ z.toNat < 128) : pts (y :: t) = 65533 :: pts t := by
  have := pts_bad (l := y :: t) (by simp) (high_one y t h ht)
  simpa using this

theorem cln_single (y : UInt8) (h : 128 ≤ y.toNat) : cln [y] = [239, 191, 189] := by
  unfold cln
  rw [pts_high y [] h (Or.inl rfl)]
  show flat [65533] = _
  rw [flat_cons, enc_bad]; rfl
theorem cln_between (y : UInt8) (h : 128 ≤ y.toNat) : cln [97, y, 98] = [97, 239, 191, 189, 98] := by
  unfold cln
  rw [pts_low 97 _ (by decide), pts_high y [98] h (Or.inr ⟨98, [], rfl, by decide⟩), pts_low 98 [] (by decide)]
  decide +kernel
theorem vld_single (y : UInt8) (h : 128 ≤ y.toNat) : vld [y] = false := vld_bad (by simp) (high_one y [] h (Or.inl rfl))

theorem conv_one (W : World) (x : Int) : Sem.run Tryd.prog (convert 27 9 (.slice (some ⟨W.heap.size, 0, none⟩) 1 1)) (W.alloc (.cells #[.int .u8 x] 5)) = .ok (.string (strOfNums [x])) (W.alloc (.cells #[.int .u8 x] 5)) :=
  run_convert_bytes_arg _ 27 5 Tryd.underlying27 Tryd.underlying5 W.heap.size 0 1 1 [x] rfl (fun i hi => by match i, hi with | 0, _ => simp) 9 Tryd.underlying9

theorem cat3 (x : Int) : (⟨#[97]⟩ : ByteArray) ++ strOfNums [x] ++ ⟨#[98]⟩ = ⟨#[97, UInt8.ofNat x.toNat, 98]⟩ := by
  apply ByteArray.ext
  rw [ByteArray.data_append, ByteArray.data_append]
  rfl
theorem n_clean1 (W : World) (tb : Nat × Nat) (x : Int) (hx : 128 ≤ x ∧ x ≤ 255) (h : Tab W tb) : Calls Tryd.prog 11 #[.string (strOfNums [x])] W fun e w' => e = .returned (.string ⟨#[239, 191, 189]⟩) ∧ Below W.heap.size W w' := by
  have := clean_any (strOfNums [x]) W tb (by rw [strOfNums_size]; simp) h
  rwa [strOfNums_data, List.map_cons, List.map_nil, cln_single _ (by simp; omega)] at this
theorem n_clean2 (W : World) (tb : Nat × Nat) (x : Int) (s : ByteArray) (hs : s = ⟨#[97, UInt8.ofNat x.toNat, 98]⟩) (hx : 128 ≤ x ∧ x ≤ 255) (h : Tab W tb) : Calls Tryd.prog 11 #[.string s] W fun e w' => e = .returned (.string ⟨#[97, 239, 191, 189, 98]⟩) ∧ Below W.heap.size W w' := by
  subst hs
  have := clean_any ⟨#[97, UInt8.ofNat x.toNat, 98]⟩ W tb (by show 3 ≤ 1099511627776; decide) h
  rwa [show (⟨#[97, UInt8.ofNat x.toNat, 98]⟩ : ByteArray).data.toList = [97, UInt8.ofNat x.toNat, 98] from rfl, cln_between _ (by simp; omega)] at this
theorem n_valid1 (W : World) (tb : Nat × Nat) (x : Int) (hx : 128 ≤ x ∧ x ≤ 255) (h : Tab W tb) : Calls Tryd.prog 6 #[.string (strOfNums [x])] W fun e w' => e = .returned (.bool false) ∧ Below W.heap.size W w' := by
  have := valid_any (strOfNums [x]) W tb (by rw [strOfNums_size]; unfold maxLen; simp) h
  rwa [strOfNums_data, List.map_cons, List.map_nil, vld_single _ (by simp; omega)] at this
theorem n_valid2 (W : World) (tb : Nat × Nat) (S : ByteArray) (hS : vld S.data.toList = true) (hz : S.size ≤ 4) (h : Tab W tb) : Calls Tryd.prog 6 #[.string S] W fun e w' => e = .returned (.bool true) ∧ Below W.heap.size W w' := by
  have := valid_any S W tb (by unfold maxLen; omega) h
  rwa [hS] at this
theorem n_clean3 (W : World) (tb : Nat × Nat) (h : Tab W tb) : Calls Tryd.prog 11 #[.string ⟨#[237, 160, 128]⟩] W fun e w' => e = .returned (.string ⟨#[239, 191, 189, 239, 191, 189, 239, 191, 189]⟩) ∧ Below W.heap.size W w' := by
  have := clean_any ⟨#[237, 160, 128]⟩ W tb (by decide) h
  rwa [show cln (⟨#[237, 160, 128]⟩ : ByteArray).data.toList = [239, 191, 189, 239, 191, 189, 239, 191, 189] from by decide +kernel] at this
theorem n_clean4 (W : World) (tb : Nat × Nat) (h : Tab W tb) : Calls Tryd.prog 11 #[.string ⟨#[192, 128]⟩] W fun e w' => e = .returned (.string ⟨#[239, 191, 189, 239, 191, 189]⟩) ∧ Below W.heap.size W w' := by
  have := clean_any ⟨#[192, 128]⟩ W tb (by decide) h
  rwa [show cln (⟨#[192, 128]⟩ : ByteArray).data.toList = [239, 191, 189, 239, 191, 189] from by decide +kernel] at this
theorem n_make (W : World) (tb : Nat × Nat) (blk : Nat) (v : Int) (S : ByteArray) (hv : -9223372036854775808 ≤ v ∧ v ≤ 9223372036854775807) (hS : (⟨(enc (tor v)).toArray⟩ : ByteArray) = S) (hc : W.cell? ⟨blk, 0, none⟩ = some (.int .i64 v)) (h : Tab W tb) : Calls Tryd.prog 10 #[.slice (some ⟨blk, 0, none⟩) 1 1] W fun e w' => e = .returned (.string S) ∧ Below W.heap.size W w' := by
  have := make_any [v] (.slice (some ⟨blk, 0, none⟩) 1 1) W tb (fun i hi => by match i, hi with | 0, _ => exact hv) (by simp) (Or.inr ⟨blk, 0, 1, rfl, fun i hi => by match i, hi with | 0, _ => exact hc⟩) h
  rwa [show flat ([v].map tor) = enc (tor v) from by simp [flat], hS] at this

set_option maxHeartbeats 1000000 in
set_option maxRecDepth 100000 in
theorem none_any (v b : Int) (hv : -9223372036854775808 ≤ v ∧ v ≤ 9223372036854775807) (hb : 0 ≤ b ∧ b ≤ 255) (w : World) (tb : Nat × Nat) (hT : Tab w tb) :
    Calls Tryd.prog 4 #[.int .i64 v, .int .u8 b] w fun e w' => e = .returned (.bool true) ∧ Below w.heap.size w w' := by
  have hcv := conv_one
  have hor := or128 b hb
  have hsz1 : ∀ x : Int, (strOfNums [x]).size = 1 := fun x => by rw [strOfNums_size]; rfl
  have cA : (⟨#[97]⟩ : ByteArray) ++ ⟨#[239, 191, 189]⟩ ++ ⟨#[98]⟩ = ⟨#[97, 239, 191, 189, 98]⟩ := by decide +kernel
  have cB : (⟨#[239, 191, 189]⟩ : ByteArray) ++ ⟨#[239, 191, 189]⟩ = ⟨#[239, 191, 189, 239, 191, 189]⟩ := by decide +kernel
  have cC : (⟨#[239, 191, 189, 239, 191, 189]⟩ : ByteArray) ++ ⟨#[239, 191, 189]⟩ = ⟨#[239, 191, 189, 239, 191, 189, 239, 191, 189]⟩ := by decide +kernel
  have key : (v < 0 ∧ ∃ S : ByteArray, Hid ((⟨(enc (tor v)).toArray⟩ : ByteArray) = S) ∧ Hid (vld S.data.toList = true) ∧ S.size ≤ 4 ∧ S = ⟨#[239, 191, 189]⟩) ∨ ((0 ≤ v ∧ 1114111 < v) ∧ ∃ S : ByteArray, Hid ((⟨(enc (tor v)).toArray⟩ : ByteArray) = S) ∧ Hid (vld S.data.toList = true) ∧ S.size ≤ 4 ∧ S = ⟨#[239, 191, 189]⟩) ∨
      ((55296 ≤ v ∧ v < 57344) ∧ ∃ S : ByteArray, Hid ((⟨(enc (tor v)).toArray⟩ : ByteArray) = S) ∧ Hid (vld S.data.toList = true) ∧ S.size ≤ 4 ∧ S = ⟨#[239, 191, 189]⟩) ∨ ((0 ≤ v ∧ v < 55296) ∧ ∃ S : ByteArray, Hid ((⟨(enc (tor v)).toArray⟩ : ByteArray) = S) ∧ Hid (vld S.data.toList = true) ∧ S.size ≤ 4 ∧ True) ∨ ((57344 ≤ v ∧ v ≤ 1114111) ∧ ∃ S : ByteArray, Hid ((⟨(enc (tor v)).toArray⟩ : ByteArray) = S) ∧ Hid (vld S.data.toList = true) ∧ S.size ≤ 4 ∧ True) := by
    have hbad : ¬ ((0 ≤ v ∧ v < 55296) ∨ (57344 ≤ v ∧ v ≤ 1114111)) → ∃ S : ByteArray, Hid ((⟨(enc (tor v)).toArray⟩ : ByteArray) = S) ∧ Hid (vld S.data.toList = true) ∧ S.size ≤ 4 ∧ S = ⟨#[239, 191, 189]⟩ := by
      intro h
      have e : tor v = 65533 := by unfold tor; rw [if_neg h]
      exact ⟨⟨#[239, 191, 189]⟩, by show (⟨_⟩ : ByteArray) = _; rw [e, enc_bad], by show vld _ = true; decide +kernel, by decide, rfl⟩
    have hok : ∃ S : ByteArray, Hid ((⟨(enc (tor v)).toArray⟩ : ByteArray) = S) ∧ Hid (vld S.data.toList = true) ∧ S.size ≤ 4 ∧ True := by
      refine ⟨_, rfl, ?_, ?_, trivial⟩
      · show vld (enc (tor v)) = true
        have := vld_flat (cs := [tor v]) (Good.cons (tor_scalar v) good_nil)
        simpa [flat] using this
      · show (enc (tor v)).length ≤ 4
        exact (enc_length _).2
    by_cases h1 : v < 0
    · exact Or.inl ⟨h1, hbad (by omega)⟩
    · by_cases h2 : 1114111 < v
      · exact Or.inr (Or.inl ⟨⟨by omega, h2⟩, hbad (by omega)⟩)
      · by_cases h3 : 55296 ≤ v
        · by_cases h4 : v < 57344
          · exact Or.inr (Or.inr (Or.inl ⟨⟨h3, h4⟩, hbad (by omega)⟩))
          · exact Or.inr (Or.inr (Or.inr (Or.inr ⟨⟨by omega, by omega⟩, hok⟩)))
        · exact Or.inr (Or.inr (Or.inr (Or.inl ⟨⟨by omega, by omega⟩, hok⟩)))
  rcases key with ⟨h1, S, hS, hV, hZ, hE⟩ | ⟨h1, S, hS, hV, hZ, hE⟩ | ⟨h1, S, hS, hV, hZ, hE⟩ | ⟨h1, S, hS, hV, hZ, hE⟩ | ⟨h1, S, hS, hV, hZ, hE⟩
  all_goals
    first | subst hE | clear hE
    go_enter Tryd.func4, Tryd.ntmps4
    go_wp2_with fail
    refine (known_any _ tb hT).mono ?_
    rintro e w1 ⟨rfl, b1⟩
    have t1 := hT.later b1
    go_wp2_with fail
    generalize bits BinOp.or IntKind.u8 b 128 = x at *
    have bA : Below w1.heap.size w1 ((w1.alloc (Obj.cells #[.int .u8 x] 5)).alloc (Obj.cells #[.int .i64 v] 3)) := ((Below.refl _ _).alloc (Nat.le_refl _) _).alloc (by simp) _
    have tA := t1.later bA
    refine (n_make _ tb _ v _ hv hS.out ?_ tA).mono ?_
    · simp
    rintro e w2 ⟨rfl, b2⟩
    have t2 := tA.later b2
    go_wp2_with fail
    refine (n_clean1 _ tb x hor t2).mono ?_
    rintro e w3 ⟨rfl, b3⟩
    have t3 := t2.later b3
    go_wp2_with fail
    refine (n_clean2 _ tb x _ (cat3 x) hor t3).mono ?_
    rintro e w4 ⟨rfl, b4⟩
    have t4 := t3.later b4
    go_wp2_with fail
    refine (n_valid1 _ tb x hor t4).mono ?_
    rintro e w5 ⟨rfl, b5⟩
    have t5 := t4.later b5
    go_wp2_with fail
    refine (n_valid2 _ tb _ hV.out hZ t5).mono ?_
    rintro e w6 ⟨rfl, b6⟩
    have t6 := t5.later b6
    go_wp2_with fail
    refine (n_clean3 _ tb t6).mono ?_
    rintro e w7 ⟨rfl, b7⟩
    have t7 := t6.later b7
    go_wp2_with fail
    refine (n_clean4 _ tb t7).mono ?_
    rintro e w8 ⟨rfl, b8⟩
    go_wp2
    go_ret
    have g0 := b1.trans (bA.mono b1.size)
    have g1 := g0.trans (b2.mono g0.size)
    have g2 := g1.trans (b3.mono g1.size)
    have g3 := g2.trans (b4.mono g2.size)
    have g4 := g3.trans (b5.mono g3.size)
    have g5 := g4.trans (b6.mono g4.size)
    have g6 := g5.trans (b7.mono g5.size)
    exact ⟨rfl, g6.trans (b8.mono g6.size)⟩
end Go.Proofs.YtncabdbacncaaabDoor
