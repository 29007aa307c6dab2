/- factor's isText, add, runsBehind, elemsBehind. -/
import Derived.Test.YtalolaajcmndeaaDoorFacMath
import Derived.Test.YtalolaajcmndeaaDoorAlgTog
import Derived.Test.YtalolaajcmndeaaDoorDelElems
namespace Go.Proofs.YtalolaajcmndeaaDoor
open Go.RowKit Go.Sort
set_option linter.unusedSimpArgs false
set_option linter.unusedVariables false

set_option maxHeartbeats 400000 in
set_option maxRecDepth 100000 in
theorem fadd_zero (v : Value) (c : Int) (w : World) : Calls Tryd.prog 41 #[v, .int .i64 0, .int .i64 c] w fun e w' => e = .returned v ∧ w' = w := by
  go_enter Tryd.func41, Tryd.ntmps41
  go_wp2
  go_ret
  exact ⟨rfl, rfl⟩
set_option maxHeartbeats 400000 in
set_option maxRecDepth 100000 in
theorem fadd_same_calls (B : Nat) (v : Value) (rs : List Sg) (m n c : Int) (w : World) (hm : 0 ≤ m) (hm2 : m ≤ 1099511627776) (hn : 1 ≤ n) (hn2 : n ≤ 1099511627776) (hl : rs.length ≤ 1099511627776) (hown : Own w B v (rs ++ [(m, c)])) :
    Calls Tryd.prog 41 #[v, .int .i64 n, .int .i64 c] w fun e w' => e = .returned v ∧ Own w' B v (rs ++ [(m + n, c)]) ∧ w.grownBy w' v.ownBlock := by
  have hlen : (rs ++ [(m, c)]).length = rs.length + 1 := by simp
  obtain ⟨a, cap, rfl, hcap, hg⟩ := own_shape hown
  obtain ⟨g, rfl⟩ := hg (by simp)
  rw [hlen] at hcap
  have hO : w.ownsRow B 79 2 (.slice (some ⟨g, 0, none⟩) (rs.length + 1) cap) (rs.length + 1) (cs (rs ++ [(m, c)])) := by
    have := hown
    unfold Own at this
    rw [hlen] at this
    exact this
  rw [hlen]
  have hget : (rs ++ [(m, c)])[rs.length]? = some (m, c) := by simp
  have c0 : w.cell? ⟨g, rs.length * 2, none⟩ = some (.int .i64 m) := by
    rw [hO.cellAt _ (by omega)]; exact (cs_get hget).1
  have c1 : w.cell? ⟨g, rs.length * 2 + 1, none⟩ = some (.int .i64 c) := by
    rw [hO.cellAt _ (by omega)]; exact (cs_get hget).2
  have fz := fun j => hO.frozenAt j
  have HO := Hid.mk7 hO
  clear hown hO hlen hget hg
  have hz0n : (n == 0) = false := by simp; omega
  have hz1n : decide (n = 0) = false := by simp; omega
  go_enter Tryd.func41, Tryd.ntmps41
  go_wp2
  obtain ⟨h1, h2⟩ := HO.out.stored (rs.length * 2) (.int .i64 (m + n))
  have e : (cs (rs ++ [(m, c)])).set (rs.length * 2) (.int .i64 (m + n)) = cs (rs ++ [(m + n, c)]) := by
    rw [cs_append, cs_append, List.set_append_right _ _ (by rw [cs_length]; omega), cs_length, cs_one, cs_one]
    simp
  rw [e] at h1
  go_ret
  refine ⟨rfl, ?_, h2⟩
  unfold Own
  rw [List.length_append]
  exact h1
set_option maxHeartbeats 400000 in
set_option maxRecDepth 100000 in
theorem fadd_push_nil (B : Nat) (v : Value) (n c : Int) (w : World) (hB : B ≤ w.heap.size) (hn : 1 ≤ n) (hown : Own w B v []) :
    Calls Tryd.prog 41 #[v, .int .i64 n, .int .i64 c] w fun e w' => ∃ v', e = .returned v' ∧ Own w' B v' [(n, c)] ∧ w.grownBy w' v.ownBlock := by
  obtain ⟨i0, hi, hz0, hz1, hz2⟩ := info_parts Tryd.info_seg
  obtain ⟨a, cap, rfl, _, _⟩ := own_shape hown
  have HO2 : Hid (w.ownsRow B 79 2 (.slice a 0 cap) 0 []) := hown
  clear hown
  have hz0n : (n == 0) = false := by simp; omega
  have hz1n : decide (n = 0) = false := by simp; omega
  go_enter Tryd.func41, Tryd.ntmps41
  go_wp2_with (at_builtin; refine wpList_append_own _ rfl _ _ 46 rfl B 79 i0 (.agg #[.int .i64 0, .int .i64 0]) 2 16 Tryd.underlying46 hi hz0 hz1 hz2 rfl (by decide) _ _ _ rfl (World.ownsRow.alloc HO2.out _) ⟨_, 0, none⟩ 1 1 [.int .i64 n, .int .i64 c] rfl rfl (two_new7 _ _ _ _) (fun u hu => by simp at hu; rcases hu with rfl | rfl <;> rfl) (by decide) (by decide) (by simp; omega) ?_)
  intro v' w3 hown' hgrow _
  go_wp2
  go_ret
  exact ⟨v', rfl, hown', grown_trans (World.grownBy_alloc _ _ _) hgrow⟩
set_option maxHeartbeats 400000 in
set_option maxRecDepth 100000 in
theorem fadd_push_cons (B : Nat) (v : Value) (rs : List Sg) (m d n c : Int) (w : World) (hB : B ≤ w.heap.size) (hl : rs.length ≤ 1099511627776) (hn : 1 ≤ n) (hdc : d ≠ c) (hown : Own w B v (rs ++ [(m, d)])) :
    Calls Tryd.prog 41 #[v, .int .i64 n, .int .i64 c] w fun e w' => ∃ v', e = .returned v' ∧ Own w' B v' (rs ++ [(m, d)] ++ [(n, c)]) ∧ w.grownBy w' v.ownBlock := by
  obtain ⟨i0, hi, hz0, hz1, hz2⟩ := info_parts Tryd.info_seg
  have hlen : (rs ++ [(m, d)]).length = rs.length + 1 := by simp
  obtain ⟨a, cap, rfl, hcap, hg⟩ := own_shape hown
  obtain ⟨g, rfl⟩ := hg (by simp)
  rw [hlen] at hcap
  have hO : w.ownsRow B 79 2 (.slice (some ⟨g, 0, none⟩) (rs.length + 1) cap) (rs.length + 1) (cs (rs ++ [(m, d)])) := by
    have := hown
    unfold Own at this
    rw [hlen] at this
    exact this
  rw [hlen]
  have hget : (rs ++ [(m, d)])[rs.length]? = some (m, d) := by simp
  have c1 : w.cell? ⟨g, rs.length * 2 + 1, none⟩ = some (.int .i64 d) := by
    rw [hO.cellAt _ (by omega)]; exact (cs_get hget).2
  have hd0 : (d == c) = false := by simpa using hdc
  have hd1 : decide (d = c) = false := by simpa using hdc
  have hgl : g < w.heap.size := (hown.lt g rfl).2
  have HO2 := Hid.mk7 hO
  clear hown hO hget hlen hg hdc
  have hz0n : (n == 0) = false := by simp; omega
  have hz1n : decide (n = 0) = false := by simp; omega
  go_enter Tryd.func41, Tryd.ntmps41
  go_wp2_with (at_builtin; refine wpList_append_own _ rfl _ _ 46 rfl B 79 i0 (.agg #[.int .i64 0, .int .i64 0]) 2 16 Tryd.underlying46 hi hz0 hz1 hz2 rfl (by decide) _ _ _ rfl (World.ownsRow.alloc HO2.out _) ⟨_, 0, none⟩ 1 1 [.int .i64 n, .int .i64 c] rfl rfl (two_new7 _ _ _ _) (fun u hu => by simp at hu; rcases hu with rfl | rfl <;> rfl) (by unfold maxLen; omega) (by omega) (by simp; omega) ?_)
  intro v' w3 hown' hgrow _
  go_wp2
  go_ret
  refine ⟨v', rfl, ?_, grown_trans (World.grownBy_alloc _ _ _) hgrow⟩
  unfold Own
  rw [cs_append (rs ++ [(m, d)]), cs_one]
  simpa using hown'
/-- factor's add: on a row of counts. -/
theorem fadd_any (B : Nat) (v : Value) (A : List Int) (n c : Int) (w : World) (hB : B ≤ w.heap.size) (hl : A.length ≤ 1073741824) (hn : 0 ≤ n) (hn2 : n ≤ 1073741824) (hown : Own w B v (rle A)) :
    Calls Tryd.prog 41 #[v, .int .i64 n, .int .i64 c] w fun e w' => ∃ v', e = .returned v' ∧ Own w' B v' (rle (A ++ List.replicate n.toNat c)) ∧ w.grownBy w' v.ownBlock := by
  by_cases hzz : n = 0
  · subst hzz
    refine (fadd_zero v c w).mono ?_
    rintro e w' ⟨rfl, rfl⟩
    refine ⟨v, rfl, ?_, ⟨rfl, rfl, rfl, Nat.le_refl _, fun _ _ _ => rfl⟩⟩
    simpa using hown
  have hrl := rle_len A
  rcases List.eq_nil_or_concat (rle A) with hr | ⟨rs, ⟨m, d⟩, hr⟩
  · rw [add_other (by rw [hr]; simp) (by omega), hr]
    rw [hr] at hown
    exact fadd_push_nil B v n c w hB (by omega) hown
  · rw [List.concat_eq_append] at hr
    have hm : (m, d) ∈ rle A := by rw [hr]; simp
    have hm1 := rle_pos hm
    simp only at hm1
    rw [hr] at hown hrl
    rw [List.length_append] at hrl
    have hx : m.toNat ≤ A.length := by
      have e := congrArg List.length (congrArg xp hr)
      rw [xp_rle, xp_append, xp_one, List.length_append, List.length_replicate] at e
      simp only at e
      omega
    by_cases hd : d = c
    · subst hd
      rw [add_same hr (by omega)]
      refine (fadd_same_calls B v rs m n d w (by omega) (by omega) (by omega) (by omega) (by omega) hown).mono ?_
      rintro e w' ⟨rfl, h1, h2⟩
      exact ⟨v, rfl, h1, h2⟩
    · rw [add_other (by rw [hr]; simp; exact fun e => hd e.symm) (by omega), hr]
      exact fadd_push_cons B v rs m d n c w hB (by omega) (by omega) hd hown

set_option maxHeartbeats 800000 in
set_option maxRecDepth 100000 in
theorem rbehind_any {w : World} {B g : Nat} {v : Value} {rs : List Sg} (m c n : Int) (h : Tk w B g v ((m, c) :: rs)) (hn : 1 ≤ n) (hnm : n ≤ m) (hm : m ≤ 1073741824) (hl : rs.length ≤ 1073741824) :
    Calls Tryd.prog 66 #[v, .int .i64 n] w fun e w' => ∃ v', e = .returned v' ∧ Tk w' B g v' (less m c n rs) ∧ w.grownBy w' (some g) := by
  obtain ⟨R, k, cap, a, h1, h2, h3, h4, rfl, h6⟩ := h
  obtain rfl := h6 (by simp)
  have hk : R[k]? = some (m, c) := by
    have := congrArg (fun l => l[0]?) h4
    simpa using this
  have hkl : k < R.length := (List.getElem?_eq_some_iff.1 hk).1
  have hlen : R.length = k + rs.length + 1 := by
    have := congrArg List.length h4
    simp at this
    omega
  have c0 : w.cell? ⟨g, k * 2, none⟩ = some (.int .i64 m) := by
    rw [World.ownsRow.cellAt h1 _ (by omega)]; exact (cs_get hk).1
  have fz := fun j => World.ownsRow.frozenAt h1 j
  obtain ⟨s1, s2⟩ := World.ownsRow.stored h1 (k * 2) (.int .i64 (m - n))
  rw [cs_set hk] at s1
  have HO : Hid (Own (w.setCell ⟨g, k * 2, none⟩ (.int .i64 (m - n))) B (.slice (some ⟨g, 0, none⟩) (R.set k (m - n, c)).length cap) (R.set k (m - n, c))) := by
    show Own _ _ _ _
    unfold Own
    rw [List.length_set]
    exact s1
  have HG := Hid.mk7 s2
  have H4 := Hid.mk7 (drop_set7 R k (m, c) (m - n, c) rs h4)
  have H5 := Hid.mk7 (drop_succ7 _ k (m - n, c) rs H4.out)
  have HL : Hid ((R.set k (m - n, c)).length = R.length) := by show _ = _; simp
  have hcl : rs.length + 1 ≤ cap - k := by omega
  have hck : cap - k - 1 = cap - (k + 1) := by omega
  clear h1 s1 s2 hk h4 h6
  rw [List.length_cons]
  obtain ⟨N, hN⟩ : ∃ N, N = rs.length + 1 := ⟨_, rfl⟩
  have HN := Hid.mk7 hN
  rw [← hN] at hcl ⊢
  have hp : 0 < N := by omega
  have hp2 : N ≤ 1073741825 := by omega
  clear hN
  by_cases he : m = n
  · subst he
    unfold less
    rw [if_pos rfl]
    rw [Int.sub_self] at HO HG H4 H5 HL
    go_enter Tryd.func66, Tryd.ntmps66
    go_wp2
    · go_ret
      have hN := HN.out
      refine ⟨_, rfl, tk_mk (k := k + 1) HO.out ?_ ?_ H5.out ?_ ?_, HG.out⟩
      · rw [HL.out]; exact h2
      · rw [HL.out]; omega
      · rw [hN]; rfl
      · intro hne
        cases rs with
        | nil => exact absurd rfl hne
        | cons r rs => simp only [List.length_cons] at hN; omega
    · go_ret
      have hN := HN.out
      refine ⟨_, rfl, tk_mk (k := k + 1) HO.out ?_ ?_ H5.out ?_ ?_, HG.out⟩
      · rw [HL.out]; exact h2
      · rw [HL.out]; omega
      · rw [hN]; rfl
      · intro _
        rw [show (k + 1) * 2 = k * 2 + 2 from by omega]
  · unfold less
    rw [if_neg he]
    have d2 : (m - n == 0) = false := by simp; omega
    go_enter Tryd.func66, Tryd.ntmps66
    go_wp2
    go_ret
    have hN := HN.out
    refine ⟨_, rfl, tk_mk (k := k) HO.out ?_ ?_ H4.out ?_ ?_, HG.out⟩
    · rw [HL.out]; exact h2
    · rw [HL.out]; omega
    · rw [hN]; rfl
    · intro _; rfl
set_option maxHeartbeats 400000 in
set_option maxRecDepth 100000 in
theorem isText_any (f t : Int) (s : ByteArray) (w : World) : Calls Tryd.prog 42 #[.agg #[.int .i64 f, .int .i64 t, .string s]] w fun e w' => e = .returned (.bool (decide (s.size ≠ 0))) ∧ Below w.heap.size w w' := by
  have b1 := below_newE (Below.refl w.heap.size w) (.cells #[.int .i64 f, .int .i64 t, .string s] 70)
  by_cases h2 : s.size = 0
  · have hd : decide (s.size ≠ 0) = false := by simpa using h2
    rw [hd]
    obtain rfl := eq_of_size h2
    clear h2 hd
    go_enter Tryd.func42, Tryd.ntmps42
    go_wp2
    go_ret
    exact ⟨rfl, b1⟩
  · have hd : decide (s.size ≠ 0) = true := by simpa using h2
    rw [hd]
    obtain ⟨h3, h4⟩ := size_of_ne h2
    clear h2 hd
    go_enter Tryd.func42, Tryd.ntmps42
    go_wp2
    go_ret
    exact ⟨rfl, b1⟩
/-- What is left of a row of elements of one's own; the block is g. -/
def Xk (w : World) (B g : Nat) (v : Value) (es : List El) : Prop :=
  ∃ R k cap a, OwnE w B (.slice (some ⟨g, 0, none⟩) R.length cap) R ∧ R.length ≤ cap ∧ k ≤ R.length ∧ R.drop k = es ∧ v = .slice a es.length (cap - k) ∧ (es ≠ [] → a = some ⟨g, k * 3, none⟩)
theorem Xk.shape {w : World} {B g : Nat} {v : Value} {es : List El} (h : Xk w B g v es) : ∃ a cap, v = .slice a es.length cap := by
  obtain ⟨R, k, cap, a, _, _, _, _, e, _⟩ := h
  exact ⟨_, _, e⟩
theorem Xk.kept {w w' : World} {B g : Nat} {v : Value} {es : List El} (h : Xk w B g v es) {row : Option Nat} (hg : w.grownBy w' row) (hne : some g ≠ row) : Xk w' B g v es := by
  obtain ⟨R, k, cap, a, h1, h2⟩ := h
  exact ⟨R, k, cap, a, World.ownsRow.kept h1 hg (Or.inr hne), h2⟩
theorem Xk.lt {w : World} {B g : Nat} {v : Value} {es : List El} (h : Xk w B g v es) : B ≤ g ∧ g < w.heap.size := by
  obtain ⟨R, k, cap, a, h1, h2⟩ := h
  exact h1.lt rfl
theorem Xk.cells {w : World} {B g : Nat} {a : Option Addr} {n cap : Nat} {r : El} {es : List El} (h : Xk w B g (.slice a n cap) (r :: es)) : ∃ off, a = some ⟨g, off, none⟩ ∧ n = es.length + 1 ∧ 1 ≤ cap ∧ n ≤ cap ∧ w.cell? ⟨g, off, none⟩ = some (.int .i64 r.1) ∧ w.cell? ⟨g, off + 1, none⟩ = some (.int .i64 r.2.1) ∧ w.cell? ⟨g, off + 2, none⟩ = some (.string (cacc r.2.2)) := by
  obtain ⟨R, k, cap, a, h1, h2, h3, h4, h5, h6⟩ := h
  cases h5
  have hk : R[k]? = some r := by
    have := congrArg (fun l => l[0]?) h4
    simpa using this
  have hkl : k < R.length := (List.getElem?_eq_some_iff.1 hk).1
  have hlen : R.length = k + es.length + 1 := by
    have := congrArg List.length h4
    simp at this
    omega
  refine ⟨k * 3, h6 (by simp), by simp, by omega, by simp; omega, ?_, ?_, ?_⟩
  · rw [World.ownsRow.cellAt h1 _ (by omega)]; exact (c3_get hk).1
  · rw [World.ownsRow.cellAt h1 _ (by omega)]; exact (c3_get hk).2.1
  · rw [World.ownsRow.cellAt h1 _ (by omega)]; exact (c3_get hk).2.2
/-- The rest behind the first one. -/
theorem Xk.tail {w : World} {B g cap n : Nat} {off : Nat} {r : El} {es : List El} (h : Xk w B g (.slice (some ⟨g, off, none⟩) n cap) (r :: es)) {a' : Option Addr} {n' cap' : Nat} (hn : n' = es.length) (hc : cap' = cap - 1) (ha : es ≠ [] → a' = some ⟨g, off + 3, none⟩) : Xk w B g (.slice a' n' cap') es := by
  obtain ⟨R, k, cap0, a, h1, h2, h3, h4, h5, h6⟩ := h
  have h6 := h6 (by simp)
  cases h5
  cases h6
  have hlen : R.length = k + es.length + 1 := by
    have := congrArg List.length h4
    simp at this
    omega
  refine ⟨R, k + 1, cap0, a', h1, h2, by omega, drop_succ7 _ _ _ _ h4, ?_, ?_⟩
  · rw [hn, hc]; congr 1
  · intro hne; rw [ha hne]; congr 2; omega
theorem xk_mk {w : World} {B g n cap k : Nat} {a : Option Addr} {R es : List El} (h1 : OwnE w B (.slice (some ⟨g, 0, none⟩) R.length cap) R) (h2 : R.length ≤ cap) (h3 : k ≤ R.length) (h4 : R.drop k = es) (hn : n = es.length) (ha : es ≠ [] → a = some ⟨g, k * 3, none⟩) : Xk w B g (.slice a n (cap - k)) es :=
  ⟨R, k, cap, a, h1, h2, h3, h4, by rw [hn], ha⟩
/-- n places of the first copy are gone. -/
def lessE (f t n : Int) (es : List El) : List El := if f + n = t then es else (f + n, t, []) :: es
theorem c3_set {R : List El} {k : Nat} {r : El} {x : Int} (h : R[k]? = some r) : (c3 R).set (k * 3) (.int .i64 x) = c3 (R.set k (x, r.2)) := by
  induction R generalizing k with
  | nil => simp at h
  | cons q R ih =>
    cases k with
    | zero => simp at h; subst h; simp [c3_cons]
    | succ k =>
      rw [c3_cons, List.set_cons_succ, c3_cons, show (k + 1) * 3 = k * 3 + 1 + 1 + 1 from by omega, List.set_cons_succ, List.set_cons_succ, List.set_cons_succ, ih (by simpa using h)]
set_option maxHeartbeats 1600000 in
set_option maxRecDepth 100000 in
theorem ebehind_any {w : World} {B g : Nat} {v : Value} {es : List El} (f t n : Int) (h : Xk w B g v ((f, t, []) :: es)) (h0 : 0 ≤ f) (hn : 1 ≤ n) (hnm : f + n ≤ t) (hm : t ≤ 1073741824) (hl : es.length ≤ 1073741824) :
    Calls Tryd.prog 65 #[v, .int .i64 n] w fun e w' => ∃ v', e = .returned v' ∧ Xk w' B g v' (lessE f t n es) ∧ w.grownBy w' (some g) := by
  obtain ⟨R, k, cap, a, h1, h2, h3, h4, rfl, h6⟩ := h
  obtain rfl := h6 (by simp)
  have hk : R[k]? = some (f, t, []) := by
    have := congrArg (fun l => l[0]?) h4
    simpa using this
  have hkl : k < R.length := (List.getElem?_eq_some_iff.1 hk).1
  have hlen : R.length = k + es.length + 1 := by
    have := congrArg List.length h4
    simp at this
    omega
  have c0 : w.cell? ⟨g, k * 3, none⟩ = some (.int .i64 f) := by
    rw [World.ownsRow.cellAt h1 _ (by omega)]; exact (c3_get hk).1
  have c1 : w.cell? ⟨g, k * 3 + 1, none⟩ = some (.int .i64 t) := by
    rw [World.ownsRow.cellAt h1 _ (by omega)]; exact (c3_get hk).2.1
  have fz := fun j => World.ownsRow.frozenAt h1 j
  obtain ⟨s1, s2⟩ := World.ownsRow.stored h1 (k * 3) (.int .i64 (f + n))
  rw [c3_set hk] at s1
  have HO : Hid (OwnE (w.setCell ⟨g, k * 3, none⟩ (.int .i64 (f + n))) B (.slice (some ⟨g, 0, none⟩) (R.set k (f + n, t, [])).length cap) (R.set k (f + n, t, []))) := by
    show OwnE _ _ _ _
    unfold OwnE
    rw [List.length_set]
    exact s1
  have HG := Hid.mk7 s2
  have H4 := Hid.mk7 (drop_set7 R k (f, t, []) (f + n, t, []) es h4)
  have H5 := Hid.mk7 (drop_succ7 _ k (f + n, t, []) es H4.out)
  have HL : Hid ((R.set k (f + n, t, [])).length = R.length) := by show _ = _; simp
  have z0 : (w.setCell ⟨g, k * 3, none⟩ (.int .i64 (f + n))).cell? ⟨g, k * 3, none⟩ = some (.int .i64 (f + n)) := by
    have hk2 : (R.set k (f + n, t, []))[k]? = some (f + n, t, []) := by rw [List.getElem?_set_self hkl]
    rw [World.ownsRow.cellAt HO.out _ (by rw [HL.out]; omega)]; exact (c3_get hk2).1
  have z1 : (w.setCell ⟨g, k * 3, none⟩ (.int .i64 (f + n))).cell? ⟨g, k * 3 + 1, none⟩ = some (.int .i64 t) := by
    have hk2 : (R.set k (f + n, t, []))[k]? = some (f + n, t, []) := by rw [List.getElem?_set_self hkl]
    rw [World.ownsRow.cellAt HO.out _ (by rw [HL.out]; omega)]; exact (c3_get hk2).2.1
  have hcl : es.length + 1 ≤ cap - k := by omega
  have hck : cap - k - 1 = cap - (k + 1) := by omega
  clear h1 s1 s2 hk h4 h6
  rw [List.length_cons]
  obtain ⟨N, hN⟩ : ∃ N, N = es.length + 1 := ⟨_, rfl⟩
  have HN := Hid.mk7 hN
  rw [← hN] at hcl ⊢
  have hp : 0 < N := by omega
  have hp2 : N ≤ 1073741825 := by omega
  clear hN
  by_cases he : f + n = t
  · unfold lessE
    rw [if_pos he]
    have HE := Hid.mk7 he
    have d2 : (f + n == t) = true := by simpa using he
    have d3 : decide (f + n = t) = true := decide_eq_true he
    clear he
    go_enter Tryd.func65, Tryd.ntmps65
    go_upto_region 2 with fail
    generalize w.setCell ⟨g, k * 3, none⟩ (.int .i64 (f + n)) = W at *
    go_quiet (fail)
    have HO2 : Hid (OwnE (W.drewN nq) B (.slice (some ⟨g, 0, none⟩) (R.set k (f + n, t, [])).length cap) (R.set k (f + n, t, []))) := HO.out
    have HG2 : Hid (w.grownBy (W.drewN nq) (some g)) := grown_trans HG.out (grown_drew nq _)
    clear HO HG z0 z1 c0 c1 fz
    generalize W.drewN nq = W2 at *
    go_wp2
    · go_ret
      have hN := HN.out
      refine ⟨_, rfl, xk_mk (k := k + 1) HO2.out ?_ ?_ H5.out ?_ ?_, HG2.out⟩
      · rw [HL.out]; exact h2
      · rw [HL.out]; omega
      · rw [hN]; rfl
      · intro hne
        cases es with
        | nil => exact absurd rfl hne
        | cons r es => simp only [List.length_cons] at hN; omega
    · go_ret
      have hN := HN.out
      refine ⟨_, rfl, xk_mk (k := k + 1) HO2.out ?_ ?_ H5.out ?_ ?_, HG2.out⟩
      · rw [HL.out]; exact h2
      · rw [HL.out]; omega
      · rw [hN]; rfl
      · intro _
        rw [show (k + 1) * 3 = k * 3 + 3 from by omega]
  · unfold lessE
    rw [if_neg he]
    have d2 : (f + n == t) = false := by simpa using he
    have d3 : decide (f + n = t) = false := decide_eq_false he
    go_enter Tryd.func65, Tryd.ntmps65
    go_upto_region 2 with fail
    generalize w.setCell ⟨g, k * 3, none⟩ (.int .i64 (f + n)) = W at *
    go_quiet (fail)
    have HO2 : Hid (OwnE (W.drewN nq) B (.slice (some ⟨g, 0, none⟩) (R.set k (f + n, t, [])).length cap) (R.set k (f + n, t, []))) := HO.out
    have HG2 : Hid (w.grownBy (W.drewN nq) (some g)) := grown_trans HG.out (grown_drew nq _)
    clear HO HG z0 z1 c0 c1 fz
    generalize W.drewN nq = W2 at *
    go_wp2
    go_ret
    have hN := HN.out
    refine ⟨_, rfl, xk_mk (k := k) HO2.out ?_ ?_ H4.out ?_ ?_, HG2.out⟩
    · rw [HL.out]; exact h2
    · rw [HL.out]; omega
    · rw [hN]; rfl
    · intro _; rfl
/-- A row of changes of one's own. -/
def OwnC (w : World) (B : Nat) (v : Value) (es : List El) : Prop := w.ownsRow B 56 3 v es.length (c3 es)
theorem Tryd.info_ch : (Tryd.prog.info? 56).map (fun i => (i.zero, i.size, i.bytes)) = some (some (.agg #[.int .i64 0, .int .i64 0, .string ⟨#[]⟩]), 3, 32) := by kernel_rfl
theorem OwnC.row {w : World} {B : Nat} {v : Value} {es : List El} (h : OwnC w B v es) : ElAt w v es := by
  rcases h.2 with ⟨h1, h2⟩ | ⟨g, cap, cur, h1, _, h3, h4, _⟩
  · obtain rfl : es = [] := List.eq_nil_of_length_eq_zero h2
    rw [h1]; exact ElAt.nil w
  · refine ⟨some ⟨g, 0, none⟩, cap, h1, h4, (fun e => by cases e), fun i r hr => ⟨g, 0, rfl, ?_⟩⟩
    have hg := World.ownsRow.cells h (g := g) (by rw [h1]; rfl)
    obtain ⟨e1, e2, e3⟩ := c3_get hr
    have q1 := hg _ _ e1
    have q2 := hg _ _ e2
    have q3 := hg _ _ e3
    rw [addr_add7] at q1 q2 q3
    rw [Nat.zero_add] at *
    exact ⟨q1, q2, q3⟩
theorem OwnC.nil (w : World) (B : Nat) : OwnC w B (.slice none 0 0) [] := World.ownsRow_nil _ _ _ _
theorem OwnC.alloc {w : World} {B : Nat} {v : Value} {es : List El} (h : OwnC w B v es) (o : Obj) : OwnC (w.alloc o) B v es := World.ownsRow.alloc h o
theorem OwnC.lt {w : World} {B : Nat} {v : Value} {es : List El} (h : OwnC w B v es) {g : Nat} (hg : v.ownBlock = some g) : B ≤ g ∧ g < w.heap.size := World.ownsRow.lt h g hg
theorem OwnC.kept {w w' : World} {row : Option Nat} {B : Nat} {v : Value} {es : List El} (h : OwnC w B v es) (hg : w.grownBy w' row) (hne : v.ownBlock = none ∨ v.ownBlock ≠ row) : OwnC w' B v es := World.ownsRow.kept h hg hne
theorem OwnC.later {w w' : World} {B : Nat} {v : Value} {es : List El} (h : OwnC w B v es) (hb : Below w.heap.size w w') : OwnC w' B v es := by
  refine World.ownsRow.kept (row := none) h (grown_below hb none) ?_
  cases hv : v.ownBlock <;> simp
theorem own_shapeC {w : World} {B : Nat} {v : Value} {es : List El} (h : OwnC w B v es) : ∃ a cap, v = .slice a es.length cap ∧ es.length ≤ cap := by
  rcases h.2 with ⟨h1, h2⟩ | ⟨g, cap, cur, h1, _, _, h4, _⟩
  · exact ⟨none, 0, by rw [h1, h2], by omega⟩
  · exact ⟨_, _, h1, h4⟩
end Go.Proofs.YtalolaajcmndeaaDoor
