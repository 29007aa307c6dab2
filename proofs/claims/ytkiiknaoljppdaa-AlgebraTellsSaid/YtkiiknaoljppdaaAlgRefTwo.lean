/- The reference's Two, Not. -/
import Derived.Test.YtkiiknaoljppdaaAlgTwo
import Derived.Test.YtkiiknaoljppdaaSubRefT
import Derived.Test.YtkiiknaoljppdaaAlgLawN
namespace Go.Proofs.Ytkiiknaoljppdaa
open Go.RowKit Go.Sort
set_option linter.unusedSimpArgs false
set_option linter.unusedVariables false

/-- The first k of F, then nothing. -/
def Fl (F : List Int) (k : Nat) : List Int := F.take k ++ List.replicate (F.length - k) 0
theorem fl_zero (F : List Int) : Fl F 0 = List.replicate F.length 0 := by simp [Fl]
theorem fl_all (F : List Int) : Fl F F.length = F := by simp [Fl]
theorem fl_len (F : List Int) (k : Nat) (h : k ≤ F.length) : (Fl F k).length = F.length := by simp [Fl]; omega
theorem fl_set {F : List Int} {k : Nat} {c : Int} (h : F[k]? = some c) : (Fl F k).set k c = Fl F (k + 1) := by
  have hk := (List.getElem?_eq_some_iff.1 h).1
  have hl : (F.take k).length = k := by simp; omega
  unfold Fl
  rw [take_snoc7 h, List.set_append_right _ _ (by omega), hl, Nat.sub_self, show F.length - k = (F.length - (k + 1)) + 1 from by omega, List.replicate_succ]
  simp
theorem fl_same {F : List Int} {k : Nat} (h : F[k]? = some 0) : Fl F k = Fl F (k + 1) := by
  have hk := (List.getElem?_eq_some_iff.1 h).1
  unfold Fl
  rw [take_snoc7 h, show F.length - k = (F.length - (k + 1)) + 1 from by omega, List.replicate_succ]
  simp
theorem fl_get {F : List Int} {k : Nat} (hk : k < F.length) : (Fl F k)[k]? = some 0 := by
  have hl : (F.take k).length = k := by simp; omega
  unfold Fl
  rw [List.getElem?_append_right (by omega), hl, Nat.sub_self, List.getElem?_replicate, if_pos (by omega)]
theorem made_zero (n : Nat) : (madeCells #[.int .i64 0] n).toList = (List.replicate n (0 : Int)).map (Value.int .i64) := by
  refine List.ext_getElem (by simp [madeCells]) fun i h1 h2 => ?_
  simp [madeCells, Nat.mod_one]
theorem own_made {w : World} {B g n cap : Nat} (h : w.ownsRow B 3 1 (.slice (some ⟨g, 0, none⟩) n cap) n (madeCells #[.int .i64 0] n).toList) : OwnI w B (.slice (some ⟨g, 0, none⟩) n cap) (List.replicate n 0) := by
  rw [made_zero] at h
  unfold OwnI
  rw [List.length_replicate]
  exact h
theorem ownI_stored {w : World} {B g n cap : Nat} {X : List Int} (h : OwnI w B (.slice (some ⟨g, 0, none⟩) n cap) X) (hn : X.length = n) (j : Nat) (c : Int) :
    OwnI (w.setCell ⟨g, j, none⟩ (.int .i64 c)) B (.slice (some ⟨g, 0, none⟩) n cap) (X.set j c) ∧ w.grownBy (w.setCell ⟨g, j, none⟩ (.int .i64 c)) (some g) := by
  unfold OwnI at *
  rw [hn] at h
  obtain ⟨h1, h2⟩ := World.ownsRow.stored h j (.int .i64 c)
  refine ⟨?_, h2⟩
  rw [List.length_set, hn, List.map_set]
  exact h1
theorem ownI_at {w : World} {B g n cap : Nat} {X : List Int} (h : OwnI w B (.slice (some ⟨g, 0, none⟩) n cap) X) (hn : X.length = n) {j : Nat} {c : Int} (hj : X[j]? = some c) :
    w.cell? ⟨g, j, none⟩ = some (.int .i64 c) ∧ w.frozen? ⟨g, j, none⟩ = false := by
  have hl := (List.getElem?_eq_some_iff.1 hj).1
  unfold OwnI at h
  rw [hn] at h
  refine ⟨?_, World.ownsRow.frozenAt h j⟩
  rw [World.ownsRow.cellAt h _ (by omega)]
  simp [hj]
set_option maxHeartbeats 4000000 in
set_option maxRecDepth 100000 in
theorem refTwo0_any {w : World} {u v : Value} {L M : List Int} (h1 : NumAt .i64 w u L) (h2 : NumAt .i64 w v M) (hL : Ok8 L) (hM : Ok8 M) (hlen : L.length = M.length) :
    Calls Try.prog 14 #[.int .i64 0, u, v] w fun e w' => (200 < (rle (tog uF L M)).length ∧ e = .returned (.tuple #[.slice none 0 0, .int .i64 70]) ∨ (rle (tog uF L M)).length ≤ 200 ∧ ∃ t, e = .returned (.tuple #[t, .int .i64 0]) ∧ NumAt .i64 w' t (tog uF L M)) ∧ Below w.heap.size w w' := by
  obtain ⟨i0, hi, hz0, hz1, hz2⟩ := info_parts Try.info_int7
  obtain ⟨a, cap, rfl, hcap, hcells⟩ := h1
  obtain ⟨a2, cap2, rfl, hcap2, hcells2⟩ := h2
  have HC := Hid.mk7 hcells
  have HC2 := Hid.mk7 hcells2
  have hz := tog_zip (f := uF) (L := L) (M := M) (fun a ha b hb => uF_ne a b (hL.2 a ha) (hM.2 b hb))
  obtain ⟨F, hF⟩ : ∃ F, tog uF L M = F := ⟨_, rfl⟩
  rw [hF] at hz ⊢
  have HF := Hid.mk7 hz
  have hFl : F.length = M.length := by rw [hz]; simp; omega
  have hMl : M.length ≤ 20000 := hM.1
  have HOL := Hid.mk7 hL
  have HOM := Hid.mk7 hM
  rw [hlen] at hcap ⊢
  have HLL : Hid (L.length = M.length) := hlen
  clear hcells hcells2 hz hF hlen hL hM
  go_enter Try.func14, Try.ntmps14
  go_wp2_with (at_make; refine wpList_make_full _ rfl _ _ 24 rfl w.heap.size 3 i0 (.int .i64 0) 1 Try.underlying24 hi hz0 hz1 .i64 .i64 _ _ M.length rfl rfl (by omega) (by omega) (by rw [hz2]; omega) (by unfold maxLen; omega) (Nat.le_refl _) ?_)
  intro w5 hown hgrow
  have b5 : Below w.heap.size w w5 := (Below.refl _ _).grown hgrow (Nat.le_refl _) (fun j hj => by cases hj)
  have HO5 : Hid (OwnI w5 w.heap.size (.slice (some ⟨w.heap.size, 0, none⟩) M.length M.length) (Fl F 0)) := by rw [fl_zero, hFl]; exact own_made (by simpa [Value.cells] using hown)
  clear hown hgrow
  generalize hgn : w.heap.size = n0 at *
  have hgn2 := hgn
  clear hgn
  go_wp2
  go_loopw [9] (fun iv wr => ∃ k : Nat, k ≤ M.length ∧ iv = .int .i64 (k : Nat) ∧ Hid (OwnI wr n0 (.slice (some ⟨n0, 0, none⟩) M.length M.length) (Fl F k)) ∧ Below n0 w wr) (fun iv _ => M.length - (intOf iv).toNat)
  case atStart => exact ⟨0, Nat.zero_le _, rfl, HO5, b5⟩
  case round =>
    clear HO5 b5
    obtain ⟨k, hk, rfl, HO, hb⟩ := hrel
    by_cases hlt : k < M.length
    · obtain ⟨x, hx⟩ : ∃ r, L[k]? = some r := ⟨L[k]'(by rw [HLL.out]; exact hlt), List.getElem?_eq_getElem _⟩
      obtain ⟨y, hy⟩ : ∃ r, M[k]? = some r := ⟨M[k], List.getElem?_eq_getElem hlt⟩
      obtain ⟨g, off, rfl, q0⟩ := HC.out k _ hx
      obtain ⟨g2, off2, rfl, q1⟩ := HC2.out k _ hy
      have hbb : Below w.heap.size w wr := hb.mono (by rw [hgn2]; exact Nat.le_refl _)
      have c0 := cell_later7 hbb (Nat.le_refl _) q0
      have c1 := cell_later7 hbb (Nat.le_refl _) q1
      have hgx : g < n0 := by rw [← hgn2]; exact World.block_lt_of_cell? w ⟨g, _, none⟩ q0
      have hgy : g2 < n0 := by rw [← hgn2]; exact World.block_lt_of_cell? w ⟨g2, _, none⟩ q1
      have hxb := HOL.out.2 x (List.mem_of_getElem? hx)
      have hyb := HOM.out.2 y (List.mem_of_getElem? hy)
      have hFk : F[k]? = some (uF x y) := by rw [HF.out, List.getElem?_zipWith, hx, hy]
      have HFK := Hid.mk7 hFk
      have hfl := fl_len F k (by omega)
      rw [hFl] at hfl
      have HN : Hid (n0 ≤ wr.heap.size) := by show _ ≤ _; have := hb.size; rw [hgn2] at this; exact this
      clear q0 q1 hx hy hFk hbb
      rcases (show 100 ≤ x + y ∧ uF x y = 100 ∨ x + y < 100 ∧ uF x y = x + y from by unfold uF; omega) with ⟨hc, hv⟩ | ⟨hc, hv⟩
      · have HFV : Hid (F[k]? = some (100)) := by have := HFK.out; rw [hv] at this; exact this
        clear hv HFK
        go_wp2
        have z0 := cell_regrown c0
        have z1 := cell_regrown c1
        refine wp_region_below_last (by kernel_rfl) (by kernel_rfl) (by kernel_rfl) ?_
        simp only [mute, idle, lastOf]
        clear c0 c1
        repeat (go_big_quiet_step (fail))
        refine wpQuiet_nil ?_
        intro _ hw'
        obtain ⟨⟨dq, osq⟩, hw''⟩ := hw'
        subst hw''
        have bq := below_regrown wr dq osq
        have HO2 := Hid.mk7 (HO.out.later bq)
        have hb2 : Below n0 w (grow (redrawn wr dq) osq) := hb.trans (bq.mono HN.out)
        have hbs := bq.size
        clear z0 z1 HO bq
        generalize grow (redrawn wr dq) osq = W at *
        obtain ⟨s1, s2⟩ := ownI_stored HO2.out hfl k (100)
        have HO3 : Hid (OwnI (W.setCell ⟨n0, k, none⟩ (.int .i64 (100))) n0 (.slice (some ⟨n0, 0, none⟩) M.length M.length) (Fl F (k + 1))) := by rw [← fl_set HFV.out]; exact s1
        have hb3 : Below n0 w (W.setCell ⟨n0, k, none⟩ (.int .i64 (100))) := hb2.grown s2 (by have := HN.out; have := hbs; omega) (fun j hj => by cases hj; exact Nat.le_refl _)
        obtain ⟨d0, d1⟩ := ownI_at HO2.out hfl (fl_get (F := F) (k := k) (by omega))
        clear s1 s2 HO2
        go_wp2
        go_roundw
        case rel => exact ⟨k + 1, by omega, by go_num, HO3, hb3⟩
        case measure => simp [intOf]; omega
      · have HFV : Hid (F[k]? = some (x + y)) := by have := HFK.out; rw [hv] at this; exact this
        clear hv HFK
        go_wp2
        have z0 := cell_regrown c0
        have z1 := cell_regrown c1
        refine wp_region_below_last (by kernel_rfl) (by kernel_rfl) (by kernel_rfl) ?_
        simp only [mute, idle, lastOf]
        clear c0 c1
        repeat (go_big_quiet_step (fail))
        refine wpQuiet_nil ?_
        intro _ hw'
        obtain ⟨⟨dq, osq⟩, hw''⟩ := hw'
        subst hw''
        have bq := below_regrown wr dq osq
        have HO2 := Hid.mk7 (HO.out.later bq)
        have hb2 : Below n0 w (grow (redrawn wr dq) osq) := hb.trans (bq.mono HN.out)
        have hbs := bq.size
        clear z0 z1 HO bq
        generalize grow (redrawn wr dq) osq = W at *
        obtain ⟨s1, s2⟩ := ownI_stored HO2.out hfl k (x + y)
        have HO3 : Hid (OwnI (W.setCell ⟨n0, k, none⟩ (.int .i64 (x + y))) n0 (.slice (some ⟨n0, 0, none⟩) M.length M.length) (Fl F (k + 1))) := by rw [← fl_set HFV.out]; exact s1
        have hb3 : Below n0 w (W.setCell ⟨n0, k, none⟩ (.int .i64 (x + y))) := hb2.grown s2 (by have := HN.out; have := hbs; omega) (fun j hj => by cases hj; exact Nat.le_refl _)
        obtain ⟨d0, d1⟩ := ownI_at HO2.out hfl (fl_get (F := F) (k := k) (by omega))
        clear s1 s2 HO2
        go_wp2
        go_roundw
        case rel => exact ⟨k + 1, by omega, by go_num, HO3, hb3⟩
        case measure => simp [intOf]; omega
    · obtain rfl : k = M.length := by omega
      have HTD : Hid (Calls Try.prog 36 #[.slice (some ⟨n0, 0, none⟩) M.length M.length] wr fun e w' => (200 < (rle F).length ∧ e = .returned (.tuple #[.slice none 0 0, .int .i64 70]) ∨ (rle F).length ≤ 200 ∧ e = .returned (.tuple #[.slice (some ⟨n0, 0, none⟩) M.length M.length, .int .i64 0])) ∧ Below wr.heap.size wr w') := by
        have h1 := HO.out.num
        rw [← hFl, fl_all] at h1
        rw [← hFl]
        exact told_any h1 (by omega)
      have HNM : Hid (NumAt .i64 wr (.slice (some ⟨n0, 0, none⟩) M.length M.length) F) := by
        have h1 := HO.out.num
        rw [← hFl, fl_all] at h1
        rw [← hFl]
        exact h1
      have hb0 := hb
      rw [← hgn2] at hb0
      clear HO
      go_wp2_with fail
      refine HTD.out.mono ?_
      rintro e w7 ⟨ho, b7⟩
      have g7 := hb0.trans (b7.mono hb0.size)
      have HN7 := Hid.mk7 (HNM.out.later b7)
      rcases ho with ⟨hm, rfl⟩ | ⟨hm, rfl⟩
      · go_wp2
        go_ret2
        exact ⟨Or.inl ⟨hm, rfl⟩, g7⟩
      · go_wp2
        go_ret2
        exact ⟨Or.inr ⟨hm, _, rfl, HN7.out⟩, g7⟩
set_option maxHeartbeats 4000000 in
set_option maxRecDepth 100000 in
theorem refTwo1_any {w : World} {u v : Value} {L M : List Int} (h1 : NumAt .i64 w u L) (h2 : NumAt .i64 w v M) (hL : Ok8 L) (hM : Ok8 M) (hlen : L.length = M.length) :
    Calls Try.prog 14 #[.int .i64 1, u, v] w fun e w' => (200 < (rle (tog mF L M)).length ∧ e = .returned (.tuple #[.slice none 0 0, .int .i64 70]) ∨ (rle (tog mF L M)).length ≤ 200 ∧ ∃ t, e = .returned (.tuple #[t, .int .i64 0]) ∧ NumAt .i64 w' t (tog mF L M)) ∧ Below w.heap.size w w' := by
  obtain ⟨i0, hi, hz0, hz1, hz2⟩ := info_parts Try.info_int7
  obtain ⟨a, cap, rfl, hcap, hcells⟩ := h1
  obtain ⟨a2, cap2, rfl, hcap2, hcells2⟩ := h2
  have HC := Hid.mk7 hcells
  have HC2 := Hid.mk7 hcells2
  have hz := tog_zip (f := mF) (L := L) (M := M) (fun a ha b hb => mF_ne a b (hL.2 a ha) (hM.2 b hb))
  obtain ⟨F, hF⟩ : ∃ F, tog mF L M = F := ⟨_, rfl⟩
  rw [hF] at hz ⊢
  have HF := Hid.mk7 hz
  have hFl : F.length = M.length := by rw [hz]; simp; omega
  have hMl : M.length ≤ 20000 := hM.1
  have HOL := Hid.mk7 hL
  have HOM := Hid.mk7 hM
  rw [hlen] at hcap ⊢
  have HLL : Hid (L.length = M.length) := hlen
  clear hcells hcells2 hz hF hlen hL hM
  go_enter Try.func14, Try.ntmps14
  go_wp2_with (at_make; refine wpList_make_full _ rfl _ _ 24 rfl w.heap.size 3 i0 (.int .i64 0) 1 Try.underlying24 hi hz0 hz1 .i64 .i64 _ _ M.length rfl rfl (by omega) (by omega) (by rw [hz2]; omega) (by unfold maxLen; omega) (Nat.le_refl _) ?_)
  intro w5 hown hgrow
  have b5 : Below w.heap.size w w5 := (Below.refl _ _).grown hgrow (Nat.le_refl _) (fun j hj => by cases hj)
  have HO5 : Hid (OwnI w5 w.heap.size (.slice (some ⟨w.heap.size, 0, none⟩) M.length M.length) (Fl F 0)) := by rw [fl_zero, hFl]; exact own_made (by simpa [Value.cells] using hown)
  clear hown hgrow
  generalize hgn : w.heap.size = n0 at *
  have hgn2 := hgn
  clear hgn
  go_wp2
  go_loopw [9] (fun iv wr => ∃ k : Nat, k ≤ M.length ∧ iv = .int .i64 (k : Nat) ∧ Hid (OwnI wr n0 (.slice (some ⟨n0, 0, none⟩) M.length M.length) (Fl F k)) ∧ Below n0 w wr) (fun iv _ => M.length - (intOf iv).toNat)
  case atStart => exact ⟨0, Nat.zero_le _, rfl, HO5, b5⟩
  case round =>
    clear HO5 b5
    obtain ⟨k, hk, rfl, HO, hb⟩ := hrel
    by_cases hlt : k < M.length
    · obtain ⟨x, hx⟩ : ∃ r, L[k]? = some r := ⟨L[k]'(by rw [HLL.out]; exact hlt), List.getElem?_eq_getElem _⟩
      obtain ⟨y, hy⟩ : ∃ r, M[k]? = some r := ⟨M[k], List.getElem?_eq_getElem hlt⟩
      obtain ⟨g, off, rfl, q0⟩ := HC.out k _ hx
      obtain ⟨g2, off2, rfl, q1⟩ := HC2.out k _ hy
      have hbb : Below w.heap.size w wr := hb.mono (by rw [hgn2]; exact Nat.le_refl _)
      have c0 := cell_later7 hbb (Nat.le_refl _) q0
      have c1 := cell_later7 hbb (Nat.le_refl _) q1
      have hgx : g < n0 := by rw [← hgn2]; exact World.block_lt_of_cell? w ⟨g, _, none⟩ q0
      have hgy : g2 < n0 := by rw [← hgn2]; exact World.block_lt_of_cell? w ⟨g2, _, none⟩ q1
      have hxb := HOL.out.2 x (List.mem_of_getElem? hx)
      have hyb := HOM.out.2 y (List.mem_of_getElem? hy)
      have hFk : F[k]? = some (mF x y) := by rw [HF.out, List.getElem?_zipWith, hx, hy]
      have HFK := Hid.mk7 hFk
      have hfl := fl_len F k (by omega)
      rw [hFl] at hfl
      have HN : Hid (n0 ≤ wr.heap.size) := by show _ ≤ _; have := hb.size; rw [hgn2] at this; exact this
      clear q0 q1 hx hy hFk hbb
      rcases (show y < x ∧ mF x y = x - y ∨ x ≤ y ∧ mF x y = 0 from by unfold mF; omega) with ⟨hc, hv⟩ | ⟨hc, hv⟩
      · have HFV : Hid (F[k]? = some (x - y)) := by have := HFK.out; rw [hv] at this; exact this
        clear hv HFK
        go_wp2
        have z0 := cell_regrown c0
        have z1 := cell_regrown c1
        refine wp_region_below_last (by kernel_rfl) (by kernel_rfl) (by kernel_rfl) ?_
        simp only [mute, idle, lastOf]
        clear c0 c1
        repeat (go_big_quiet_step (fail))
        refine wpQuiet_nil ?_
        intro _ hw'
        obtain ⟨⟨dq, osq⟩, hw''⟩ := hw'
        subst hw''
        have bq := below_regrown wr dq osq
        have HO2 := Hid.mk7 (HO.out.later bq)
        have hb2 : Below n0 w (grow (redrawn wr dq) osq) := hb.trans (bq.mono HN.out)
        have hbs := bq.size
        clear z0 z1 HO bq
        generalize grow (redrawn wr dq) osq = W at *
        obtain ⟨s1, s2⟩ := ownI_stored HO2.out hfl k (x - y)
        have HO3 : Hid (OwnI (W.setCell ⟨n0, k, none⟩ (.int .i64 (x - y))) n0 (.slice (some ⟨n0, 0, none⟩) M.length M.length) (Fl F (k + 1))) := by rw [← fl_set HFV.out]; exact s1
        have hb3 : Below n0 w (W.setCell ⟨n0, k, none⟩ (.int .i64 (x - y))) := hb2.grown s2 (by have := HN.out; have := hbs; omega) (fun j hj => by cases hj; exact Nat.le_refl _)
        obtain ⟨d0, d1⟩ := ownI_at HO2.out hfl (fl_get (F := F) (k := k) (by omega))
        clear s1 s2 HO2
        go_wp2
        go_roundw
        case rel => exact ⟨k + 1, by omega, by go_num, HO3, hb3⟩
        case measure => simp [intOf]; omega
      · have HFV : Hid (F[k]? = some (0)) := by have := HFK.out; rw [hv] at this; exact this
        clear hv HFK
        go_wp2
        have z0 := cell_regrown c0
        have z1 := cell_regrown c1
        refine wp_region_below_last (by kernel_rfl) (by kernel_rfl) (by kernel_rfl) ?_
        simp only [mute, idle, lastOf]
        clear c0 c1
        repeat (go_big_quiet_step (fail))
        refine wpQuiet_nil ?_
        intro _ hw'
        obtain ⟨⟨dq, osq⟩, hw''⟩ := hw'
        subst hw''
        have bq := below_regrown wr dq osq
        have HO2 := Hid.mk7 (HO.out.later bq)
        have hb2 : Below n0 w (grow (redrawn wr dq) osq) := hb.trans (bq.mono HN.out)
        have hbs := bq.size
        clear z0 z1 HO bq
        generalize grow (redrawn wr dq) osq = W at *
        obtain ⟨s1, s2⟩ := ownI_stored HO2.out hfl k (0)
        have HO3 : Hid (OwnI (W.setCell ⟨n0, k, none⟩ (.int .i64 (0))) n0 (.slice (some ⟨n0, 0, none⟩) M.length M.length) (Fl F (k + 1))) := by rw [← fl_set HFV.out]; exact s1
        have hb3 : Below n0 w (W.setCell ⟨n0, k, none⟩ (.int .i64 (0))) := hb2.grown s2 (by have := HN.out; have := hbs; omega) (fun j hj => by cases hj; exact Nat.le_refl _)
        obtain ⟨d0, d1⟩ := ownI_at HO2.out hfl (fl_get (F := F) (k := k) (by omega))
        clear s1 s2 HO2
        go_wp2
        go_roundw
        case rel => exact ⟨k + 1, by omega, by go_num, HO3, hb3⟩
        case measure => simp [intOf]; omega
    · obtain rfl : k = M.length := by omega
      have HTD : Hid (Calls Try.prog 36 #[.slice (some ⟨n0, 0, none⟩) M.length M.length] wr fun e w' => (200 < (rle F).length ∧ e = .returned (.tuple #[.slice none 0 0, .int .i64 70]) ∨ (rle F).length ≤ 200 ∧ e = .returned (.tuple #[.slice (some ⟨n0, 0, none⟩) M.length M.length, .int .i64 0])) ∧ Below wr.heap.size wr w') := by
        have h1 := HO.out.num
        rw [← hFl, fl_all] at h1
        rw [← hFl]
        exact told_any h1 (by omega)
      have HNM : Hid (NumAt .i64 wr (.slice (some ⟨n0, 0, none⟩) M.length M.length) F) := by
        have h1 := HO.out.num
        rw [← hFl, fl_all] at h1
        rw [← hFl]
        exact h1
      have hb0 := hb
      rw [← hgn2] at hb0
      clear HO
      go_wp2_with fail
      refine HTD.out.mono ?_
      rintro e w7 ⟨ho, b7⟩
      have g7 := hb0.trans (b7.mono hb0.size)
      have HN7 := Hid.mk7 (HNM.out.later b7)
      rcases ho with ⟨hm, rfl⟩ | ⟨hm, rfl⟩
      · go_wp2
        go_ret2
        exact ⟨Or.inl ⟨hm, rfl⟩, g7⟩
      · go_wp2
        go_ret2
        exact ⟨Or.inr ⟨hm, _, rfl, HN7.out⟩, g7⟩
set_option maxHeartbeats 4000000 in
set_option maxRecDepth 100000 in
theorem refTwo2_any {w : World} {u v : Value} {L M : List Int} (h1 : NumAt .i64 w u L) (h2 : NumAt .i64 w v M) (hL : Ok8 L) (hM : Ok8 M) (hlen : L.length = M.length) :
    Calls Try.prog 14 #[.int .i64 2, u, v] w fun e w' => (200 < (rle (tog xF L M)).length ∧ e = .returned (.tuple #[.slice none 0 0, .int .i64 70]) ∨ (rle (tog xF L M)).length ≤ 200 ∧ ∃ t, e = .returned (.tuple #[t, .int .i64 0]) ∧ NumAt .i64 w' t (tog xF L M)) ∧ Below w.heap.size w w' := by
  obtain ⟨i0, hi, hz0, hz1, hz2⟩ := info_parts Try.info_int7
  obtain ⟨a, cap, rfl, hcap, hcells⟩ := h1
  obtain ⟨a2, cap2, rfl, hcap2, hcells2⟩ := h2
  have HC := Hid.mk7 hcells
  have HC2 := Hid.mk7 hcells2
  have hz := tog_zip (f := xF) (L := L) (M := M) (fun a ha b hb => xF_ne a b (hL.2 a ha) (hM.2 b hb))
  obtain ⟨F, hF⟩ : ∃ F, tog xF L M = F := ⟨_, rfl⟩
  rw [hF] at hz ⊢
  have HF := Hid.mk7 hz
  have hFl : F.length = M.length := by rw [hz]; simp; omega
  have hMl : M.length ≤ 20000 := hM.1
  have HOL := Hid.mk7 hL
  have HOM := Hid.mk7 hM
  rw [hlen] at hcap ⊢
  have HLL : Hid (L.length = M.length) := hlen
  clear hcells hcells2 hz hF hlen hL hM
  go_enter Try.func14, Try.ntmps14
  go_wp2_with (at_make; refine wpList_make_full _ rfl _ _ 24 rfl w.heap.size 3 i0 (.int .i64 0) 1 Try.underlying24 hi hz0 hz1 .i64 .i64 _ _ M.length rfl rfl (by omega) (by omega) (by rw [hz2]; omega) (by unfold maxLen; omega) (Nat.le_refl _) ?_)
  intro w5 hown hgrow
  have b5 : Below w.heap.size w w5 := (Below.refl _ _).grown hgrow (Nat.le_refl _) (fun j hj => by cases hj)
  have HO5 : Hid (OwnI w5 w.heap.size (.slice (some ⟨w.heap.size, 0, none⟩) M.length M.length) (Fl F 0)) := by rw [fl_zero, hFl]; exact own_made (by simpa [Value.cells] using hown)
  clear hown hgrow
  generalize hgn : w.heap.size = n0 at *
  have hgn2 := hgn
  clear hgn
  go_wp2
  go_loopw [9] (fun iv wr => ∃ k : Nat, k ≤ M.length ∧ iv = .int .i64 (k : Nat) ∧ Hid (OwnI wr n0 (.slice (some ⟨n0, 0, none⟩) M.length M.length) (Fl F k)) ∧ Below n0 w wr) (fun iv _ => M.length - (intOf iv).toNat)
  case atStart => exact ⟨0, Nat.zero_le _, rfl, HO5, b5⟩
  case round =>
    clear HO5 b5
    obtain ⟨k, hk, rfl, HO, hb⟩ := hrel
    by_cases hlt : k < M.length
    · obtain ⟨x, hx⟩ : ∃ r, L[k]? = some r := ⟨L[k]'(by rw [HLL.out]; exact hlt), List.getElem?_eq_getElem _⟩
      obtain ⟨y, hy⟩ : ∃ r, M[k]? = some r := ⟨M[k], List.getElem?_eq_getElem hlt⟩
      obtain ⟨g, off, rfl, q0⟩ := HC.out k _ hx
      obtain ⟨g2, off2, rfl, q1⟩ := HC2.out k _ hy
      have hbb : Below w.heap.size w wr := hb.mono (by rw [hgn2]; exact Nat.le_refl _)
      have c0 := cell_later7 hbb (Nat.le_refl _) q0
      have c1 := cell_later7 hbb (Nat.le_refl _) q1
      have hgx : g < n0 := by rw [← hgn2]; exact World.block_lt_of_cell? w ⟨g, _, none⟩ q0
      have hgy : g2 < n0 := by rw [← hgn2]; exact World.block_lt_of_cell? w ⟨g2, _, none⟩ q1
      have hxb := HOL.out.2 x (List.mem_of_getElem? hx)
      have hyb := HOM.out.2 y (List.mem_of_getElem? hy)
      have hFk : F[k]? = some (xF x y) := by rw [HF.out, List.getElem?_zipWith, hx, hy]
      have HFK := Hid.mk7 hFk
      have hfl := fl_len F k (by omega)
      rw [hFl] at hfl
      have HN : Hid (n0 ≤ wr.heap.size) := by show _ ≤ _; have := hb.size; rw [hgn2] at this; exact this
      clear q0 q1 hx hy hFk hbb
      rcases (show (0 < x ∧ 0 < y) ∨ (0 < x ∧ y ≤ 0) ∨ (x ≤ 0 ∧ 0 < y) ∨ (x ≤ 0 ∧ y ≤ 0) from by omega) with ⟨kx, ky⟩ | ⟨kx, ky⟩ | ⟨kx, ky⟩ | ⟨kx, ky⟩
      · have HFV : Hid (F[k]? = some 0) := by have := HFK.out; rw [show xF x y = 0 from by unfold xF; simp [kx, ky]] at this; exact this
        have dx : decide (0 < x) = true := by simp [kx, ky]
        have dy : decide (0 < y) = true := by simp [kx, ky]
        clear HFK
        go_wp2
        go_quiet (fail)
        have HO2 := Hid.mk7 (HO.out.later (below_drewN (Below.refl _ _) nq))
        have hb2 := below_drewN hb nq
        have hbs : wr.heap.size ≤ (wr.drewN nq).heap.size := Nat.le_refl _
        clear c0 c1 HO
        generalize wr.drewN nq = W at *
        have HO3 : Hid (OwnI W n0 (.slice (some ⟨n0, 0, none⟩) M.length M.length) (Fl F (k + 1))) := by rw [← fl_same HFV.out]; exact HO2.out
        clear HO2
        go_wp2
        go_roundw
        case rel => exact ⟨k + 1, by omega, by go_num, HO3, hb2⟩
        case measure => simp [intOf]; omega
      · have HFV : Hid (F[k]? = some 1) := by have := HFK.out; rw [show xF x y = 1 from by unfold xF; simp [kx, Int.not_lt.2 ky]] at this; exact this
        have dx : decide (0 < x) = true := by simp [kx, Int.not_lt.2 ky]
        have dy : decide (0 < y) = false := by simp [kx, Int.not_lt.2 ky]
        clear HFK
        go_wp2
        go_quiet (fail)
        have HO2 := Hid.mk7 (HO.out.later (below_drewN (Below.refl _ _) nq))
        have hb2 := below_drewN hb nq
        have hbs : wr.heap.size ≤ (wr.drewN nq).heap.size := Nat.le_refl _
        clear c0 c1 HO
        generalize wr.drewN nq = W at *
        obtain ⟨s1, s2⟩ := ownI_stored HO2.out hfl k (1)
        have HO3 : Hid (OwnI (W.setCell ⟨n0, k, none⟩ (.int .i64 (1))) n0 (.slice (some ⟨n0, 0, none⟩) M.length M.length) (Fl F (k + 1))) := by rw [← fl_set HFV.out]; exact s1
        have hb3 : Below n0 w (W.setCell ⟨n0, k, none⟩ (.int .i64 (1))) := hb2.grown s2 (by have := HN.out; have := hbs; omega) (fun j hj => by cases hj; exact Nat.le_refl _)
        obtain ⟨d0, d1⟩ := ownI_at HO2.out hfl (fl_get (F := F) (k := k) (by omega))
        clear s1 s2 HO2
        go_wp2
        go_roundw
        case rel => exact ⟨k + 1, by omega, by go_num, HO3, hb3⟩
        case measure => simp [intOf]; omega
      · have HFV : Hid (F[k]? = some 1) := by have := HFK.out; rw [show xF x y = 1 from by unfold xF; simp [Int.not_lt.2 kx, ky]] at this; exact this
        have dx : decide (0 < x) = false := by simp [Int.not_lt.2 kx, ky]
        have dy : decide (0 < y) = true := by simp [Int.not_lt.2 kx, ky]
        clear HFK
        go_wp2
        go_quiet (fail)
        have HO2 := Hid.mk7 (HO.out.later (below_drewN (Below.refl _ _) nq))
        have hb2 := below_drewN hb nq
        have hbs : wr.heap.size ≤ (wr.drewN nq).heap.size := Nat.le_refl _
        clear c0 c1 HO
        generalize wr.drewN nq = W at *
        obtain ⟨s1, s2⟩ := ownI_stored HO2.out hfl k (1)
        have HO3 : Hid (OwnI (W.setCell ⟨n0, k, none⟩ (.int .i64 (1))) n0 (.slice (some ⟨n0, 0, none⟩) M.length M.length) (Fl F (k + 1))) := by rw [← fl_set HFV.out]; exact s1
        have hb3 : Below n0 w (W.setCell ⟨n0, k, none⟩ (.int .i64 (1))) := hb2.grown s2 (by have := HN.out; have := hbs; omega) (fun j hj => by cases hj; exact Nat.le_refl _)
        obtain ⟨d0, d1⟩ := ownI_at HO2.out hfl (fl_get (F := F) (k := k) (by omega))
        clear s1 s2 HO2
        go_wp2
        go_roundw
        case rel => exact ⟨k + 1, by omega, by go_num, HO3, hb3⟩
        case measure => simp [intOf]; omega
      · have HFV : Hid (F[k]? = some 0) := by have := HFK.out; rw [show xF x y = 0 from by unfold xF; simp [Int.not_lt.2 kx, Int.not_lt.2 ky]] at this; exact this
        have dx : decide (0 < x) = false := by simp [Int.not_lt.2 kx, Int.not_lt.2 ky]
        have dy : decide (0 < y) = false := by simp [Int.not_lt.2 kx, Int.not_lt.2 ky]
        clear HFK
        go_wp2
        go_quiet (fail)
        have HO2 := Hid.mk7 (HO.out.later (below_drewN (Below.refl _ _) nq))
        have hb2 := below_drewN hb nq
        have hbs : wr.heap.size ≤ (wr.drewN nq).heap.size := Nat.le_refl _
        clear c0 c1 HO
        generalize wr.drewN nq = W at *
        have HO3 : Hid (OwnI W n0 (.slice (some ⟨n0, 0, none⟩) M.length M.length) (Fl F (k + 1))) := by rw [← fl_same HFV.out]; exact HO2.out
        clear HO2
        go_wp2
        go_roundw
        case rel => exact ⟨k + 1, by omega, by go_num, HO3, hb2⟩
        case measure => simp [intOf]; omega
    · obtain rfl : k = M.length := by omega
      have HTD : Hid (Calls Try.prog 36 #[.slice (some ⟨n0, 0, none⟩) M.length M.length] wr fun e w' => (200 < (rle F).length ∧ e = .returned (.tuple #[.slice none 0 0, .int .i64 70]) ∨ (rle F).length ≤ 200 ∧ e = .returned (.tuple #[.slice (some ⟨n0, 0, none⟩) M.length M.length, .int .i64 0])) ∧ Below wr.heap.size wr w') := by
        have h1 := HO.out.num
        rw [← hFl, fl_all] at h1
        rw [← hFl]
        exact told_any h1 (by omega)
      have HNM : Hid (NumAt .i64 wr (.slice (some ⟨n0, 0, none⟩) M.length M.length) F) := by
        have h1 := HO.out.num
        rw [← hFl, fl_all] at h1
        rw [← hFl]
        exact h1
      have hb0 := hb
      rw [← hgn2] at hb0
      clear HO
      go_wp2_with fail
      refine HTD.out.mono ?_
      rintro e w7 ⟨ho, b7⟩
      have g7 := hb0.trans (b7.mono hb0.size)
      have HN7 := Hid.mk7 (HNM.out.later b7)
      rcases ho with ⟨hm, rfl⟩ | ⟨hm, rfl⟩
      · go_wp2
        go_ret2
        exact ⟨Or.inl ⟨hm, rfl⟩, g7⟩
      · go_wp2
        go_ret2
        exact ⟨Or.inr ⟨hm, _, rfl, HN7.out⟩, g7⟩
end Go.Proofs.Ytkiiknaoljppdaa
