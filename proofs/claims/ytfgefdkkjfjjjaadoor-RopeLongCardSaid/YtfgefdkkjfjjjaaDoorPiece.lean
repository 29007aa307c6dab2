/- pieces. -/
import Derived.Test.YtfgefdkkjfjjjaaDoorCht
namespace Go.Proofs.YtfgefdkkjfjjjaaDoor
open Go.RowKit Go.Sort
set_option linter.unusedSimpArgs false
set_option linter.unusedVariables false

theorem flat_ext {s : ByteArray} {cs1 cs2 : List Int} (h : s.data.toList = flat cs1 ++ flat cs2) : (s.extract 0 (flat cs1).length).data.toList = flat cs1 ∧ (s.extract (flat cs1).length s.size).data.toList = flat cs2 := by
  constructor
  · rw [extract_bytes, h]; simp
  · rw [extract_bytes, h, List.drop_left' rfl, List.take_of_length_le]
    have := congrArg List.length h
    rw [bytes_length, List.length_append] at this
    omega

theorem run_half (n : Nat) (hn : n ≤ 1099511627776) (w : World) : (Op.intDiv .quo .i64 (n : Int) 2).run Tryd.prog w = .ok (.int .i64 ((n / 2 : Nat) : Int)) w := by
  have h : IntKind.i64.wrap ((n : Int) / 2) = (n : Int) / 2 := by
    rw [IntKind.wrap_i64]
    omega
  simp [Op.intDiv, h]

set_option maxHeartbeats 4000000 in
set_option maxRecDepth 100000 in
/-- pieces. -/
theorem pieces_any (s : ByteArray) (w : World) (tb : Nat × Nat) (hs : s.size ≤ 1099511627776) (hv : vld s.data.toList = true) (hT : Tab w tb) :
    Calls Tryd.prog 60 #[.string s] w fun e w' => ∃ v ls, e = .returned v ∧ Strs w' v ls ∧ ls.length ≤ 1099511627776 ∧ Pcs s.data.toList ls ∧ Below w.heap.size w w' := by
  obtain ⟨i0, hi, hz0, hz1, hz2⟩ := info_parts Tryd.info_chunk
  have HV := Hid.mk4 hv
  clear hv
  go_enter Tryd.func60, Tryd.ntmps60
  go_wp2
  go_loopw [0, 3] (fun sv lv wr => ∃ (r : ByteArray) (ls : List ByteArray), sv = .string r ∧ r.size ≤ s.size ∧ Hid (cat ls ++ r.data.toList = s.data.toList) ∧ Hid (vld r.data.toList = true) ∧ Hid (Big ls) ∧ Hid (ls = [] ∨ (29 ≤ r.size ∧ 64 < s.size)) ∧ Hid (wr.ownsRow w.heap.size 73 1 lv ls.length (ls.map Value.string)) ∧ Below w.heap.size w wr) (fun sv _ _ => match sv with | .string r => r.size | _ => 0)
  case atStart => exact ⟨s, [], rfl, Nat.le_refl _, rfl, HV.out, fun x hx => by simp at hx, Or.inl rfl, World.ownsRow_nil _ _ _ _, Below.refl _ _⟩
  case round =>
    obtain ⟨r, ls, rfl, hrs, HC, HVR, HB, HR, HO, hb⟩ := hrel
    have HLN : Hid (ls.length + r.size ≤ s.size) := by
      have h1 := congrArg List.length HC.out
      rw [List.length_append, cat_length, bytes_length, bytes_length] at h1
      have h2 := szs_ge (fun x hx => (HB.out x hx).1)
      show _ ≤ _
      omega
    have hlr : ls.length + r.size ≤ 1099511627776 := by have := HLN.out; omega
    by_cases h64 : 64 < r.size
    · have h64' : (64 : Int) < (r.size : Int) := by omega
      obtain ⟨m, hm⟩ : ∃ m, m = min 64 (r.size / 2) := ⟨_, rfl⟩
      have hm1 : 32 ≤ m ∧ m ≤ 64 ∧ m < r.size ∧ m ≤ r.size / 2 := by omega
      have HE := Hid.mk4 (eup_any r m wr tb (by omega) HVR.out hm1.2.2.1 (hT.later hb))
      have hdiv : (r.size : Int) / 2 = ((r.size / 2 : Nat) : Int) := by omega
      have hmin : (if ((r.size / 2 : Nat) : Int) < 64 then ((r.size / 2 : Nat) : Int) else 64) = (m : Int) := by split <;> omega
      have hhalf := run_half r.size (by omega)
      have hmm : (min 64 ((r.size : Int) / 2)) = (m : Nat) := by omega
      clear hdiv hmin hm
      go_wp2_with fail
      refine HE.out.mono ?_
      rintro e w1 ⟨e1, cs1, cs2, rfl, he1, he2, hsp, hel, hg1, hg2, b1⟩
      have hx := flat_ext hsp
      rw [← hel] at hx
      have hsz : (r.extract 0 e1).size = e1 ∧ (r.extract e1 r.size).size = r.size - e1 := by
        constructor <;> simp <;> omega
      have HX1 : Hid ((r.extract 0 e1).data.toList = flat cs1) := hx.1
      have HX2 : Hid ((r.extract e1 r.size).data.toList = flat cs2) := hx.2
      have HG1 := Hid.mk4 hg1
      have HG2 := Hid.mk4 hg2
      have HSP := Hid.mk4 hsp
      have HCL : Hid (∀ W, Calls Tryd.prog 74 #[.string (r.extract 0 e1)] W fun e w' => e = .returned (.string (r.extract 0 e1)) ∧ Below W.heap.size W w') := fun W => sclone_any _ W (by rw [hsz.1]; omega)
      have HSZ := Hid.mk4 hsz
      have he1r : e1 ≤ r.size := by omega
      have hb1 := hb.trans (b1.mono hb.size)
      have HO1 := Hid.mk4 (own_later HO.out b1)
      clear hx hsz hg1 hg2 hsp hel hhalf hmm HE HO hb b1
      go_wp2_with fail
      refine (HCL.out _).mono ?_
      rintro e w2 ⟨rfl, b2⟩
      have hb2 := hb1.trans (b2.mono hb1.size)
      have HO2 := Hid.mk4 (own_later HO1.out b2)
      clear HCL HO1 b2 hb1
      go_wp2_with (at_builtin; refine wpList_append_own _ rfl _ _ 75 rfl w.heap.size 73 i0 (.string ⟨#[]⟩) 1 16 Tryd.underlying75 hi hz0 hz1 hz2 rfl (by decide) _ _ _ rfl (HO2.out.alloc _) ⟨w2.heap.size, 0, none⟩ 1 1 [.string (r.extract 0 e1)] rfl rfl (cell_one_new _ _ _) ?c2 ?c3 ?c4 ?c5 ?_)
      case c2 => intro u hu; simp at hu; subst hu; rfl
      case c3 => unfold maxLen; omega
      case c4 => omega
      case c5 => have := hb2.size; simp; omega
      intro v' w3 hown' hgrow _
      have HO3 : Hid (w3.ownsRow w.heap.size 73 1 v' (ls ++ [r.extract 0 e1]).length ((ls ++ [r.extract 0 e1]).map Value.string)) := by
        show World.ownsRow _ _ _ _ _ _ _
        simpa using hown'
      have hb3 : Below w.heap.size w w3 := (hb2.alloc hb2.size _).grown hgrow (by have := hb2.size; simp; omega) (fun k hk => by have := HO2.out.lt _ hk; omega)
      have HB3 : Hid (Big (ls ++ [r.extract 0 e1])) := by
        intro x hx
        rcases List.mem_append.1 hx with hx | hx
        · exact HB.out x hx
        · simp at hx
          subst hx
          refine ⟨⟨?_, ?_, ?_⟩, ?_⟩
          · rw [HX1.out]; exact vld_flat HG1.out
          · rw [HSZ.out.1]; omega
          · rw [HSZ.out.1]; omega
          · rw [HSZ.out.1]; omega
      have HC3 : Hid (cat (ls ++ [r.extract 0 e1]) ++ (r.extract e1 r.size).data.toList = s.data.toList) := by
        show _ = _
        rw [cat_append, cat_one, HX1.out, HX2.out, List.append_assoc, ← HSP.out]
        exact HC.out
      have HV3 : Hid (vld (r.extract e1 r.size).data.toList = true) := by show _ = _; rw [HX2.out]; exact vld_flat HG2.out
      have HR3 : Hid (ls ++ [r.extract 0 e1] = [] ∨ (29 ≤ (r.extract e1 r.size).size ∧ 64 < s.size)) := Or.inr ⟨by rw [HSZ.out.2]; omega, by omega⟩
      have hr3 : (r.extract e1 r.size).size ≤ s.size ∧ (r.extract e1 r.size).size < r.size := by have := HSZ.out.2; omega
      have HR4 := Hid.mk4 hr3
      clear hown' hgrow HO2 hb2 HB HC HVR HX1 HX2 HG1 HG2 HSP HSZ hr3 HR
      generalize ls ++ [r.extract 0 e1] = ls3 at *
      go_wp2
      go_roundw
      case rel => exact ⟨r.extract e1 r.size, ls3, rfl, HR4.out.1, HC3, HV3, HB3, HR3, HO3, hb3⟩
      case measure => exact HR4.out.2
    · have h64' : decide ((64 : Int) < (r.size : Int)) = false := by simp; omega
      have h64'' : decide (64 < r.size) = false := by simp; omega
      by_cases h0 : r.size = 0
      · have hr0 : r = ⟨#[]⟩ := by
          apply ByteArray.ext
          exact Array.eq_empty_of_size_eq_zero h0
        subst hr0
        have hE : ls = [] := by
          rcases HR.out with h | h
          · exact h
          · have := h.1; omega
        subst hE
        have HFIN : Hid (Pcs s.data.toList []) := by
          have this : cat [] = s.data.toList := by have h1 := HC.out; exact (List.append_nil _).symm.trans h1
          refine ⟨this, fun x hx => by simp at hx, fun h => ?_, fun _ => Or.inl ⟨rfl, this.symm⟩⟩
          rw [← this] at h
          simp [cat_nil] at h
        have HST := Hid.mk4 (strs_of_own HO.out)
        clear HC HVR HB HR HO h64 h64' h64'' h0
        go_wp2
        go_ret
        exact ⟨_, [], rfl, HST.out, by simp, HFIN.out, hb⟩
      · have hne0 : r.toList ≠ [] := by
          intro e
          apply h0
          have := congrArg List.length e
          rw [ByteArray.toList_eq] at this
          exact this
        have hem : (⟨#[]⟩ : ByteArray).toList = [] := by rw [ByteArray.toList_eq]
        have hne : (r.toList == (⟨#[]⟩ : ByteArray).toList) = false := by rw [hem]; simpa using hne0
        have hne1 : (r.toList == []) = false := by simpa using hne0
        have HCL : Hid (∀ W, Calls Tryd.prog 74 #[.string r] W fun e w' => e = .returned (.string r) ∧ Below W.heap.size W w') := fun W => sclone_any _ W (by omega)
        have HFIN : Hid (Pcs s.data.toList (ls ++ [r])) := by
          have hck : ∀ x ∈ ls ++ [r], Ck x := by
            intro x hx
            rcases List.mem_append.1 hx with hx | hx
            · exact (HB.out x hx).1
            · simp at hx
              subst hx
              exact ⟨HVR.out, by omega, by omega⟩
          have hcat : cat (ls ++ [r]) = s.data.toList := by rw [cat_append, cat_one]; exact HC.out
          have hlen : s.data.toList.length = szs ls + r.size := by rw [← hcat, cat_length, szs_append, szs_cons, szs_nil]; omega
          refine ⟨hcat, hck, fun h => ?_, fun h => ?_⟩
          · have hls : ls ≠ [] := by
              intro e
              rw [e, szs_nil] at hlen
              omega
            have hr29 : 29 ≤ r.size := (HR.out.resolve_left hls).1
            refine ⟨fun x hx => ⟨hck x hx, ?_⟩, ?_⟩
            · rcases List.mem_append.1 hx with hx | hx
              · exact (HB.out x hx).2
              · simp at hx
                subst hx
                exact hr29
            · cases ls with
              | nil => exact absurd rfl hls
              | cons a q => simp
          · right
            cases ls with
            | nil => exact ⟨r, rfl, by rw [← hcat]; simp [cat]⟩
            | cons a q =>
              exfalso
              rcases HR.out with e | e
              · cases e
              · rw [bytes_length] at h
                have := e.2
                omega
        clear h64
        go_wp2_with fail
        refine (HCL.out _).mono ?_
        rintro e w2 ⟨rfl, b2⟩
        have hb2 := hb.trans (b2.mono hb.size)
        have HO2 := Hid.mk4 (own_later HO.out b2)
        clear HCL HO b2 hb
        go_wp2_with (at_builtin; refine wpList_append_own _ rfl _ _ 75 rfl w.heap.size 73 i0 (.string ⟨#[]⟩) 1 16 Tryd.underlying75 hi hz0 hz1 hz2 rfl (by decide) _ _ _ rfl (HO2.out.alloc _) ⟨w2.heap.size, 0, none⟩ 1 1 [.string r] rfl rfl (cell_one_new _ _ _) ?d2 ?d3 ?d4 ?d5 ?_)
        case d2 => intro u hu; simp at hu; subst hu; rfl
        case d3 => unfold maxLen; omega
        case d4 => omega
        case d5 => have := hb2.size; simp; omega
        intro v' w3 hown' hgrow _
        have HO3 : Hid (w3.ownsRow w.heap.size 73 1 v' (ls ++ [r]).length ((ls ++ [r]).map Value.string)) := by
          show World.ownsRow _ _ _ _ _ _ _
          simpa using hown'
        have hb3 : Below w.heap.size w w3 := (hb2.alloc hb2.size _).grown hgrow (by have := hb2.size; simp; omega) (fun k hk => by have := HO2.out.lt _ hk; omega)
        have HST := Hid.mk4 (strs_of_own HO3.out)
        clear hown' hgrow HO2 HO3
        go_wp2
        go_ret
        exact ⟨_, ls ++ [r], rfl, HST.out, by simp; omega, HFIN.out, hb3⟩
end Go.Proofs.YtfgefdkkjfjjjaaDoor
