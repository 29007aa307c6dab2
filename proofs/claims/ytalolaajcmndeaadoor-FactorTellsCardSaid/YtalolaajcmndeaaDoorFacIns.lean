/- factor's isText, add, runsBehind, elemsBehind. factor's Inserted, Deleted, inserts. -/
import Derived.Test.YtalolaajcmndeaaDoorFacSpl
import Derived.Test.YtalolaajcmndeaaDoorAlgTog
import Derived.Test.YtalolaajcmndeaaDoorDelKeep
namespace Go.Proofs.YtalolaajcmndeaaDoor
open Go.RowKit Go.Sort
set_option linter.unusedSimpArgs false
set_option linter.unusedVariables false

set_option maxHeartbeats 400000 in
set_option maxRecDepth 100000 in
theorem fadd_zero (v : Value) (c : Int) (w : World) : Calls Tryd.prog 41 #[v, .int .i64 0, .int .i64 c] w fun e w' => e = .returned v ∧ w' = w := by
  go_enter Tryd.func41, Tryd.ntmps41
  go_wp2
  go_ret
  exact ⟨rfl, rfl⟩
set_option maxHeartbeats 400000 in
set_option maxRecDepth 100000 in
theorem fadd_same_calls (B : Nat) (v : Value) (rs : List Sg) (m n c : Int) (w : World) (hm : 0 ≤ m) (hm2 : m ≤ 1099511627776) (hn : 1 ≤ n) (hn2 : n ≤ 1099511627776) (hl : rs.length ≤ 1099511627776) (hown : Own w B v (rs ++ [(m, c)])) :
    Calls Tryd.prog 41 #[v, .int .i64 n, .int .i64 c] w fun e w' => e = .returned v ∧ Own w' B v (rs ++ [(m + n, c)]) ∧ w.grownBy w' v.ownBlock := by
  have hlen : (rs ++ [(m, c)]).length = rs.length + 1 := by simp
  obtain ⟨a, cap, rfl, hcap, hg⟩ := own_shape hown
  obtain ⟨g, rfl⟩ := hg (by simp)
  rw [hlen] at hcap
  have hO : w.ownsRow B 79 2 (.slice (some ⟨g, 0, none⟩) (rs.length + 1) cap) (rs.length + 1) (cs (rs ++ [(m, c)])) := by
    have := hown
    unfold Own at this
    rw [hlen] at this
    exact this
  rw [hlen]
  have hget : (rs ++ [(m, c)])[rs.length]? = some (m, c) := by simp
  have c0 : w.cell? ⟨g, rs.length * 2, none⟩ = some (.int .i64 m) := by
    rw [hO.cellAt _ (by omega)]; exact (cs_get hget).1
  have c1 : w.cell? ⟨g, rs.length * 2 + 1, none⟩ = some (.int .i64 c) := by
    rw [hO.cellAt _ (by omega)]; exact (cs_get hget).2
  have fz := fun j => hO.frozenAt j
  have HO := Hid.mk7 hO
  clear hown hO hlen hget hg
  have hz0n : (n == 0) = false := by simp; omega
  have hz1n : decide (n = 0) = false := by simp; omega
  go_enter Tryd.func41, Tryd.ntmps41
  go_wp2
  obtain ⟨h1, h2⟩ := HO.out.stored (rs.length * 2) (.int .i64 (m + n))
  have e : (cs (rs ++ [(m, c)])).set (rs.length * 2) (.int .i64 (m + n)) = cs (rs ++ [(m + n, c)]) := by
    rw [cs_append, cs_append, List.set_append_right _ _ (by rw [cs_length]; omega), cs_length, cs_one, cs_one]
    simp
  rw [e] at h1
  go_ret
  refine ⟨rfl, ?_, h2⟩
  unfold Own
  rw [List.length_append]
  exact h1
set_option maxHeartbeats 400000 in
set_option maxRecDepth 100000 in
theorem fadd_push_nil (B : Nat) (v : Value) (n c : Int) (w : World) (hB : B ≤ w.heap.size) (hn : 1 ≤ n) (hown : Own w B v []) :
    Calls Tryd.prog 41 #[v, .int .i64 n, .int .i64 c] w fun e w' => ∃ v', e = .returned v' ∧ Own w' B v' [(n, c)] ∧ w.grownBy w' v.ownBlock := by
  obtain ⟨i0, hi, hz0, hz1, hz2⟩ := info_parts Tryd.info_seg
  obtain ⟨a, cap, rfl, _, _⟩ := own_shape hown
  have HO2 : Hid (w.ownsRow B 79 2 (.slice a 0 cap) 0 []) := hown
  clear hown
  have hz0n : (n == 0) = false := by simp; omega
  have hz1n : decide (n = 0) = false := by simp; omega
  go_enter Tryd.func41, Tryd.ntmps41
  go_wp2_with (at_builtin; refine wpList_append_own _ rfl _ _ 46 rfl B 79 i0 (.agg #[.int .i64 0, .int .i64 0]) 2 16 Tryd.underlying46 hi hz0 hz1 hz2 rfl (by decide) _ _ _ rfl (World.ownsRow.alloc HO2.out _) ⟨_, 0, none⟩ 1 1 [.int .i64 n, .int .i64 c] rfl rfl (two_new7 _ _ _ _) (fun u hu => by simp at hu; rcases hu with rfl | rfl <;> rfl) (by decide) (by decide) (by simp; omega) ?_)
  intro v' w3 hown' hgrow _
  go_wp2
  go_ret
  exact ⟨v', rfl, hown', grown_trans (World.grownBy_alloc _ _ _) hgrow⟩
set_option maxHeartbeats 400000 in
set_option maxRecDepth 100000 in
theorem fadd_push_cons (B : Nat) (v : Value) (rs : List Sg) (m d n c : Int) (w : World) (hB : B ≤ w.heap.size) (hl : rs.length ≤ 1099511627776) (hn : 1 ≤ n) (hdc : d ≠ c) (hown : Own w B v (rs ++ [(m, d)])) :
    Calls Tryd.prog 41 #[v, .int .i64 n, .int .i64 c] w fun e w' => ∃ v', e = .returned v' ∧ Own w' B v' (rs ++ [(m, d)] ++ [(n, c)]) ∧ w.grownBy w' v.ownBlock := by
  obtain ⟨i0, hi, hz0, hz1, hz2⟩ := info_parts Tryd.info_seg
  have hlen : (rs ++ [(m, d)]).length = rs.length + 1 := by simp
  obtain ⟨a, cap, rfl, hcap, hg⟩ := own_shape hown
  obtain ⟨g, rfl⟩ := hg (by simp)
  rw [hlen] at hcap
  have hO : w.ownsRow B 79 2 (.slice (some ⟨g, 0, none⟩) (rs.length + 1) cap) (rs.length + 1) (cs (rs ++ [(m, d)])) := by
    have := hown
    unfold Own at this
    rw [hlen] at this
    exact this
  rw [hlen]
  have hget : (rs ++ [(m, d)])[rs.length]? = some (m, d) := by simp
  have c1 : w.cell? ⟨g, rs.length * 2 + 1, none⟩ = some (.int .i64 d) := by
    rw [hO.cellAt _ (by omega)]; exact (cs_get hget).2
  have hd0 : (d == c) = false := by simpa using hdc
  have hd1 : decide (d = c) = false := by simpa using hdc
  have hgl : g < w.heap.size := (hown.lt g rfl).2
  have HO2 := Hid.mk7 hO
  clear hown hO hget hlen hg hdc
  have hz0n : (n == 0) = false := by simp; omega
  have hz1n : decide (n = 0) = false := by simp; omega
  go_enter Tryd.func41, Tryd.ntmps41
  go_wp2_with (at_builtin; refine wpList_append_own _ rfl _ _ 46 rfl B 79 i0 (.agg #[.int .i64 0, .int .i64 0]) 2 16 Tryd.underlying46 hi hz0 hz1 hz2 rfl (by decide) _ _ _ rfl (World.ownsRow.alloc HO2.out _) ⟨_, 0, none⟩ 1 1 [.int .i64 n, .int .i64 c] rfl rfl (two_new7 _ _ _ _) (fun u hu => by simp at hu; rcases hu with rfl | rfl <;> rfl) (by unfold maxLen; omega) (by omega) (by simp; omega) ?_)
  intro v' w3 hown' hgrow _
  go_wp2
  go_ret
  refine ⟨v', rfl, ?_, grown_trans (World.grownBy_alloc _ _ _) hgrow⟩
  unfold Own
  rw [cs_append (rs ++ [(m, d)]), cs_one]
  simpa using hown'
/-- factor's add: on a row of counts. -/
theorem fadd_any (B : Nat) (v : Value) (A : List Int) (n c : Int) (w : World) (hB : B ≤ w.heap.size) (hl : A.length ≤ 1073741824) (hn : 0 ≤ n) (hn2 : n ≤ 1073741824) (hown : Own w B v (rle A)) :
    Calls Tryd.prog 41 #[v, .int .i64 n, .int .i64 c] w fun e w' => ∃ v', e = .returned v' ∧ Own w' B v' (rle (A ++ List.replicate n.toNat c)) ∧ w.grownBy w' v.ownBlock := by
  by_cases hzz : n = 0
  · subst hzz
    refine (fadd_zero v c w).mono ?_
    rintro e w' ⟨rfl, rfl⟩
    refine ⟨v, rfl, ?_, ⟨rfl, rfl, rfl, Nat.le_refl _, fun _ _ _ => rfl⟩⟩
    simpa using hown
  have hrl := rle_len A
  rcases List.eq_nil_or_concat (rle A) with hr | ⟨rs, ⟨m, d⟩, hr⟩
  · rw [add_other (by rw [hr]; simp) (by omega), hr]
    rw [hr] at hown
    exact fadd_push_nil B v n c w hB (by omega) hown
  · rw [List.concat_eq_append] at hr
    have hm : (m, d) ∈ rle A := by rw [hr]; simp
    have hm1 := rle_pos hm
    simp only at hm1
    rw [hr] at hown hrl
    rw [List.length_append] at hrl
    have hx : m.toNat ≤ A.length := by
      have e := congrArg List.length (congrArg xp hr)
      rw [xp_rle, xp_append, xp_one, List.length_append, List.length_replicate] at e
      simp only at e
      omega
    by_cases hd : d = c
    · subst hd
      rw [add_same hr (by omega)]
      refine (fadd_same_calls B v rs m n d w (by omega) (by omega) (by omega) (by omega) (by omega) hown).mono ?_
      rintro e w' ⟨rfl, h1, h2⟩
      exact ⟨v, rfl, h1, h2⟩
    · rw [add_other (by rw [hr]; simp; exact fun e => hd e.symm) (by omega), hr]
      exact fadd_push_cons B v rs m d n c w hB (by omega) (by omega) hd hown

set_option maxHeartbeats 800000 in
set_option maxRecDepth 100000 in
theorem rbehind_any {w : World} {B g : Nat} {v : Value} {rs : List Sg} (m c n : Int) (h : Tk w B g v ((m, c) :: rs)) (hn : 1 ≤ n) (hnm : n ≤ m) (hm : m ≤ 1073741824) (hl : rs.length ≤ 1073741824) :
    Calls Tryd.prog 66 #[v, .int .i64 n] w fun e w' => ∃ v', e = .returned v' ∧ Tk w' B g v' (less m c n rs) ∧ w.grownBy w' (some g) := by
  obtain ⟨R, k, cap, a, h1, h2, h3, h4, rfl, h6⟩ := h
  obtain rfl := h6 (by simp)
  have hk : R[k]? = some (m, c) := by
    have := congrArg (fun l => l[0]?) h4
    simpa using this
  have hkl : k < R.length := (List.getElem?_eq_some_iff.1 hk).1
  have hlen : R.length = k + rs.length + 1 := by
    have := congrArg List.length h4
    simp at this
    omega
  have c0 : w.cell? ⟨g, k * 2, none⟩ = some (.int .i64 m) := by
    rw [World.ownsRow.cellAt h1 _ (by omega)]; exact (cs_get hk).1
  have fz := fun j => World.ownsRow.frozenAt h1 j
  obtain ⟨s1, s2⟩ := World.ownsRow.stored h1 (k * 2) (.int .i64 (m - n))
  rw [cs_set hk] at s1
  have HO : Hid (Own (w.setCell ⟨g, k * 2, none⟩ (.int .i64 (m - n))) B (.slice (some ⟨g, 0, none⟩) (R.set k (m - n, c)).length cap) (R.set k (m - n, c))) := by
    show Own _ _ _ _
    unfold Own
    rw [List.length_set]
    exact s1
  have HG := Hid.mk7 s2
  have H4 := Hid.mk7 (drop_set7 R k (m, c) (m - n, c) rs h4)
  have H5 := Hid.mk7 (drop_succ7 _ k (m - n, c) rs H4.out)
  have HL : Hid ((R.set k (m - n, c)).length = R.length) := by show _ = _; simp
  have hcl : rs.length + 1 ≤ cap - k := by omega
  have hck : cap - k - 1 = cap - (k + 1) := by omega
  clear h1 s1 s2 hk h4 h6
  rw [List.length_cons]
  obtain ⟨N, hN⟩ : ∃ N, N = rs.length + 1 := ⟨_, rfl⟩
  have HN := Hid.mk7 hN
  rw [← hN] at hcl ⊢
  have hp : 0 < N := by omega
  have hp2 : N ≤ 1073741825 := by omega
  clear hN
  by_cases he : m = n
  · subst he
    unfold less
    rw [if_pos rfl]
    rw [Int.sub_self] at HO HG H4 H5 HL
    go_enter Tryd.func66, Tryd.ntmps66
    go_wp2
    · go_ret
      have hN := HN.out
      refine ⟨_, rfl, tk_mk (k := k + 1) HO.out ?_ ?_ H5.out ?_ ?_, HG.out⟩
      · rw [HL.out]; exact h2
      · rw [HL.out]; omega
      · rw [hN]; rfl
      · intro hne
        cases rs with
        | nil => exact absurd rfl hne
        | cons r rs => simp only [List.length_cons] at hN; omega
    · go_ret
      have hN := HN.out
      refine ⟨_, rfl, tk_mk (k := k + 1) HO.out ?_ ?_ H5.out ?_ ?_, HG.out⟩
      · rw [HL.out]; exact h2
      · rw [HL.out]; omega
      · rw [hN]; rfl
      · intro _
        rw [show (k + 1) * 2 = k * 2 + 2 from by omega]
  · unfold less
    rw [if_neg he]
    have d2 : (m - n == 0) = false := by simp; omega
    go_enter Tryd.func66, Tryd.ntmps66
    go_wp2
    go_ret
    have hN := HN.out
    refine ⟨_, rfl, tk_mk (k := k) HO.out ?_ ?_ H4.out ?_ ?_, HG.out⟩
    · rw [HL.out]; exact h2
    · rw [HL.out]; omega
    · rw [hN]; rfl
    · intro _; rfl
set_option maxHeartbeats 400000 in
set_option maxRecDepth 100000 in
theorem isText_any (f t : Int) (s : ByteArray) (w : World) : Calls Tryd.prog 42 #[.agg #[.int .i64 f, .int .i64 t, .string s]] w fun e w' => e = .returned (.bool (decide (s.size ≠ 0))) ∧ Below w.heap.size w w' := by
  have b1 := below_newE (Below.refl w.heap.size w) (.cells #[.int .i64 f, .int .i64 t, .string s] 70)
  by_cases h2 : s.size = 0
  · have hd : decide (s.size ≠ 0) = false := by simpa using h2
    rw [hd]
    obtain rfl := eq_of_size h2
    clear h2 hd
    go_enter Tryd.func42, Tryd.ntmps42
    go_wp2
    go_ret
    exact ⟨rfl, b1⟩
  · have hd : decide (s.size ≠ 0) = true := by simpa using h2
    rw [hd]
    obtain ⟨h3, h4⟩ := size_of_ne h2
    clear h2 hd
    go_enter Tryd.func42, Tryd.ntmps42
    go_wp2
    go_ret
    exact ⟨rfl, b1⟩
/-- What is left of a row of elements of one's own; the block is g. -/
def Xk (w : World) (B g : Nat) (v : Value) (es : List El) : Prop :=
  ∃ R k cap a, OwnE w B (.slice (some ⟨g, 0, none⟩) R.length cap) R ∧ R.length ≤ cap ∧ k ≤ R.length ∧ R.drop k = es ∧ v = .slice a es.length (cap - k) ∧ (es ≠ [] → a = some ⟨g, k * 3, none⟩)
theorem Xk.shape {w : World} {B g : Nat} {v : Value} {es : List El} (h : Xk w B g v es) : ∃ a cap, v = .slice a es.length cap := by
  obtain ⟨R, k, cap, a, _, _, _, _, e, _⟩ := h
  exact ⟨_, _, e⟩
theorem Xk.kept {w w' : World} {B g : Nat} {v : Value} {es : List El} (h : Xk w B g v es) {row : Option Nat} (hg : w.grownBy w' row) (hne : some g ≠ row) : Xk w' B g v es := by
  obtain ⟨R, k, cap, a, h1, h2⟩ := h
  exact ⟨R, k, cap, a, World.ownsRow.kept h1 hg (Or.inr hne), h2⟩
theorem Xk.lt {w : World} {B g : Nat} {v : Value} {es : List El} (h : Xk w B g v es) : B ≤ g ∧ g < w.heap.size := by
  obtain ⟨R, k, cap, a, h1, h2⟩ := h
  exact h1.lt rfl
theorem Xk.cells {w : World} {B g : Nat} {a : Option Addr} {n cap : Nat} {r : El} {es : List El} (h : Xk w B g (.slice a n cap) (r :: es)) : ∃ off, a = some ⟨g, off, none⟩ ∧ n = es.length + 1 ∧ 1 ≤ cap ∧ n ≤ cap ∧ w.cell? ⟨g, off, none⟩ = some (.int .i64 r.1) ∧ w.cell? ⟨g, off + 1, none⟩ = some (.int .i64 r.2.1) ∧ w.cell? ⟨g, off + 2, none⟩ = some (.string (cacc r.2.2)) := by
  obtain ⟨R, k, cap, a, h1, h2, h3, h4, h5, h6⟩ := h
  cases h5
  have hk : R[k]? = some r := by
    have := congrArg (fun l => l[0]?) h4
    simpa using this
  have hkl : k < R.length := (List.getElem?_eq_some_iff.1 hk).1
  have hlen : R.length = k + es.length + 1 := by
    have := congrArg List.length h4
    simp at this
    omega
  refine ⟨k * 3, h6 (by simp), by simp, by omega, by simp; omega, ?_, ?_, ?_⟩
  · rw [World.ownsRow.cellAt h1 _ (by omega)]; exact (c3_get hk).1
  · rw [World.ownsRow.cellAt h1 _ (by omega)]; exact (c3_get hk).2.1
  · rw [World.ownsRow.cellAt h1 _ (by omega)]; exact (c3_get hk).2.2
/-- The rest behind the first one. -/
theorem Xk.tail {w : World} {B g cap n : Nat} {off : Nat} {r : El} {es : List El} (h : Xk w B g (.slice (some ⟨g, off, none⟩) n cap) (r :: es)) {a' : Option Addr} {n' cap' : Nat} (hn : n' = es.length) (hc : cap' = cap - 1) (ha : es ≠ [] → a' = some ⟨g, off + 3, none⟩) : Xk w B g (.slice a' n' cap') es := by
  obtain ⟨R, k, cap0, a, h1, h2, h3, h4, h5, h6⟩ := h
  have h6 := h6 (by simp)
  cases h5
  cases h6
  have hlen : R.length = k + es.length + 1 := by
    have := congrArg List.length h4
    simp at this
    omega
  refine ⟨R, k + 1, cap0, a', h1, h2, by omega, drop_succ7 _ _ _ _ h4, ?_, ?_⟩
  · rw [hn, hc]; congr 1
  · intro hne; rw [ha hne]; congr 2; omega
theorem xk_mk {w : World} {B g n cap k : Nat} {a : Option Addr} {R es : List El} (h1 : OwnE w B (.slice (some ⟨g, 0, none⟩) R.length cap) R) (h2 : R.length ≤ cap) (h3 : k ≤ R.length) (h4 : R.drop k = es) (hn : n = es.length) (ha : es ≠ [] → a = some ⟨g, k * 3, none⟩) : Xk w B g (.slice a n (cap - k)) es :=
  ⟨R, k, cap, a, h1, h2, h3, h4, by rw [hn], ha⟩
/-- n places of the first copy are gone. -/
def lessE (f t n : Int) (es : List El) : List El := if f + n = t then es else (f + n, t, []) :: es
theorem c3_set {R : List El} {k : Nat} {r : El} {x : Int} (h : R[k]? = some r) : (c3 R).set (k * 3) (.int .i64 x) = c3 (R.set k (x, r.2)) := by
  induction R generalizing k with
  | nil => simp at h
  | cons q R ih =>
    cases k with
    | zero => simp at h; subst h; simp [c3_cons]
    | succ k =>
      rw [c3_cons, List.set_cons_succ, c3_cons, show (k + 1) * 3 = k * 3 + 1 + 1 + 1 from by omega, List.set_cons_succ, List.set_cons_succ, List.set_cons_succ, ih (by simpa using h)]
set_option maxHeartbeats 1600000 in
set_option maxRecDepth 100000 in
theorem ebehind_any {w : World} {B g : Nat} {v : Value} {es : List El} (f t n : Int) (h : Xk w B g v ((f, t, []) :: es)) (h0 : 0 ≤ f) (hn : 1 ≤ n) (hnm : f + n ≤ t) (hm : t ≤ 1073741824) (hl : es.length ≤ 1073741824) :
    Calls Tryd.prog 65 #[v, .int .i64 n] w fun e w' => ∃ v', e = .returned v' ∧ Xk w' B g v' (lessE f t n es) ∧ w.grownBy w' (some g) := by
  obtain ⟨R, k, cap, a, h1, h2, h3, h4, rfl, h6⟩ := h
  obtain rfl := h6 (by simp)
  have hk : R[k]? = some (f, t, []) := by
    have := congrArg (fun l => l[0]?) h4
    simpa using this
  have hkl : k < R.length := (List.getElem?_eq_some_iff.1 hk).1
  have hlen : R.length = k + es.length + 1 := by
    have := congrArg List.length h4
    simp at this
    omega
  have c0 : w.cell? ⟨g, k * 3, none⟩ = some (.int .i64 f) := by
    rw [World.ownsRow.cellAt h1 _ (by omega)]; exact (c3_get hk).1
  have c1 : w.cell? ⟨g, k * 3 + 1, none⟩ = some (.int .i64 t) := by
    rw [World.ownsRow.cellAt h1 _ (by omega)]; exact (c3_get hk).2.1
  have fz := fun j => World.ownsRow.frozenAt h1 j
  obtain ⟨s1, s2⟩ := World.ownsRow.stored h1 (k * 3) (.int .i64 (f + n))
  rw [c3_set hk] at s1
  have HO : Hid (OwnE (w.setCell ⟨g, k * 3, none⟩ (.int .i64 (f + n))) B (.slice (some ⟨g, 0, none⟩) (R.set k (f + n, t, [])).length cap) (R.set k (f + n, t, []))) := by
    show OwnE _ _ _ _
    unfold OwnE
    rw [List.length_set]
    exact s1
  have HG := Hid.mk7 s2
  have H4 := Hid.mk7 (drop_set7 R k (f, t, []) (f + n, t, []) es h4)
  have H5 := Hid.mk7 (drop_succ7 _ k (f + n, t, []) es H4.out)
  have HL : Hid ((R.set k (f + n, t, [])).length = R.length) := by show _ = _; simp
  have z0 : (w.setCell ⟨g, k * 3, none⟩ (.int .i64 (f + n))).cell? ⟨g, k * 3, none⟩ = some (.int .i64 (f + n)) := by
    have hk2 : (R.set k (f + n, t, []))[k]? = some (f + n, t, []) := by rw [List.getElem?_set_self hkl]
    rw [World.ownsRow.cellAt HO.out _ (by rw [HL.out]; omega)]; exact (c3_get hk2).1
  have z1 : (w.setCell ⟨g, k * 3, none⟩ (.int .i64 (f + n))).cell? ⟨g, k * 3 + 1, none⟩ = some (.int .i64 t) := by
    have hk2 : (R.set k (f + n, t, []))[k]? = some (f + n, t, []) := by rw [List.getElem?_set_self hkl]
    rw [World.ownsRow.cellAt HO.out _ (by rw [HL.out]; omega)]; exact (c3_get hk2).2.1
  have hcl : es.length + 1 ≤ cap - k := by omega
  have hck : cap - k - 1 = cap - (k + 1) := by omega
  clear h1 s1 s2 hk h4 h6
  rw [List.length_cons]
  obtain ⟨N, hN⟩ : ∃ N, N = es.length + 1 := ⟨_, rfl⟩
  have HN := Hid.mk7 hN
  rw [← hN] at hcl ⊢
  have hp : 0 < N := by omega
  have hp2 : N ≤ 1073741825 := by omega
  clear hN
  by_cases he : f + n = t
  · unfold lessE
    rw [if_pos he]
    have HE := Hid.mk7 he
    have d2 : (f + n == t) = true := by simpa using he
    have d3 : decide (f + n = t) = true := decide_eq_true he
    clear he
    go_enter Tryd.func65, Tryd.ntmps65
    go_upto_region 2 with fail
    generalize w.setCell ⟨g, k * 3, none⟩ (.int .i64 (f + n)) = W at *
    go_quiet (fail)
    have HO2 : Hid (OwnE (W.drewN nq) B (.slice (some ⟨g, 0, none⟩) (R.set k (f + n, t, [])).length cap) (R.set k (f + n, t, []))) := HO.out
    have HG2 : Hid (w.grownBy (W.drewN nq) (some g)) := grown_trans HG.out (grown_drew nq _)
    clear HO HG z0 z1 c0 c1 fz
    generalize W.drewN nq = W2 at *
    go_wp2
    · go_ret
      have hN := HN.out
      refine ⟨_, rfl, xk_mk (k := k + 1) HO2.out ?_ ?_ H5.out ?_ ?_, HG2.out⟩
      · rw [HL.out]; exact h2
      · rw [HL.out]; omega
      · rw [hN]; rfl
      · intro hne
        cases es with
        | nil => exact absurd rfl hne
        | cons r es => simp only [List.length_cons] at hN; omega
    · go_ret
      have hN := HN.out
      refine ⟨_, rfl, xk_mk (k := k + 1) HO2.out ?_ ?_ H5.out ?_ ?_, HG2.out⟩
      · rw [HL.out]; exact h2
      · rw [HL.out]; omega
      · rw [hN]; rfl
      · intro _
        rw [show (k + 1) * 3 = k * 3 + 3 from by omega]
  · unfold lessE
    rw [if_neg he]
    have d2 : (f + n == t) = false := by simpa using he
    have d3 : decide (f + n = t) = false := decide_eq_false he
    go_enter Tryd.func65, Tryd.ntmps65
    go_upto_region 2 with fail
    generalize w.setCell ⟨g, k * 3, none⟩ (.int .i64 (f + n)) = W at *
    go_quiet (fail)
    have HO2 : Hid (OwnE (W.drewN nq) B (.slice (some ⟨g, 0, none⟩) (R.set k (f + n, t, [])).length cap) (R.set k (f + n, t, []))) := HO.out
    have HG2 : Hid (w.grownBy (W.drewN nq) (some g)) := grown_trans HG.out (grown_drew nq _)
    clear HO HG z0 z1 c0 c1 fz
    generalize W.drewN nq = W2 at *
    go_wp2
    go_ret
    have hN := HN.out
    refine ⟨_, rfl, xk_mk (k := k) HO2.out ?_ ?_ H4.out ?_ ?_, HG2.out⟩
    · rw [HL.out]; exact h2
    · rw [HL.out]; omega
    · rw [hN]; rfl
    · intro _; rfl
/-- A row of changes of one's own. -/
def OwnC (w : World) (B : Nat) (v : Value) (es : List El) : Prop := w.ownsRow B 56 3 v es.length (c3 es)
theorem Tryd.info_ch : (Tryd.prog.info? 56).map (fun i => (i.zero, i.size, i.bytes)) = some (some (.agg #[.int .i64 0, .int .i64 0, .string ⟨#[]⟩]), 3, 32) := by kernel_rfl
theorem OwnC.row {w : World} {B : Nat} {v : Value} {es : List El} (h : OwnC w B v es) : ElAt w v es := by
  rcases h.2 with ⟨h1, h2⟩ | ⟨g, cap, cur, h1, _, h3, h4, _⟩
  · obtain rfl : es = [] := List.eq_nil_of_length_eq_zero h2
    rw [h1]; exact ElAt.nil w
  · refine ⟨some ⟨g, 0, none⟩, cap, h1, h4, (fun e => by cases e), fun i r hr => ⟨g, 0, rfl, ?_⟩⟩
    have hg := World.ownsRow.cells h (g := g) (by rw [h1]; rfl)
    obtain ⟨e1, e2, e3⟩ := c3_get hr
    have q1 := hg _ _ e1
    have q2 := hg _ _ e2
    have q3 := hg _ _ e3
    rw [addr_add7] at q1 q2 q3
    rw [Nat.zero_add] at *
    exact ⟨q1, q2, q3⟩
theorem OwnC.nil (w : World) (B : Nat) : OwnC w B (.slice none 0 0) [] := World.ownsRow_nil _ _ _ _
theorem OwnC.alloc {w : World} {B : Nat} {v : Value} {es : List El} (h : OwnC w B v es) (o : Obj) : OwnC (w.alloc o) B v es := World.ownsRow.alloc h o
theorem OwnC.lt {w : World} {B : Nat} {v : Value} {es : List El} (h : OwnC w B v es) {g : Nat} (hg : v.ownBlock = some g) : B ≤ g ∧ g < w.heap.size := World.ownsRow.lt h g hg
theorem OwnC.kept {w w' : World} {row : Option Nat} {B : Nat} {v : Value} {es : List El} (h : OwnC w B v es) (hg : w.grownBy w' row) (hne : v.ownBlock = none ∨ v.ownBlock ≠ row) : OwnC w' B v es := World.ownsRow.kept h hg hne
theorem OwnC.later {w w' : World} {B : Nat} {v : Value} {es : List El} (h : OwnC w B v es) (hb : Below w.heap.size w w') : OwnC w' B v es := by
  refine World.ownsRow.kept (row := none) h (grown_below hb none) ?_
  cases hv : v.ownBlock <;> simp
theorem own_shapeC {w : World} {B : Nat} {v : Value} {es : List El} (h : OwnC w B v es) : ∃ a cap, v = .slice a es.length cap ∧ es.length ≤ cap := by
  rcases h.2 with ⟨h1, h2⟩ | ⟨g, cap, cur, h1, _, _, h4, _⟩
  · exact ⟨none, 0, by rw [h1, h2], by omega⟩
  · exact ⟨_, _, h1, h4⟩
end Go.Proofs.YtalolaajcmndeaaDoor
namespace Go.Proofs.YtalolaajcmndeaaDoor
open Go.RowKit Go.Sort
set_option linter.unusedSimpArgs false
set_option linter.unusedVariables false

theorem Re.grownF {w w' : World} {row : Option Nat} {g : Nat} {x y z : Value} (h : Re w g x y z) (hg : w.grownBy w' row) (hne : some g ≠ row) : Re w' g x y z := (hg.block g h.lt hne).trans h
theorem Tab.nuF {w : World} {tb : Nat × Nat} (h : Tab w tb) (o : Obj) : Tab (w.alloc o) tb := h.later ((Below.refl _ _).alloc (Nat.le_refl _) o)
/-- Blocks of other types lie apart. -/
theorem own_re {w : World} {B : Nat} {v : Value} {rs : List Sg} {g : Nat} {x y z : Value} (h : Own w B v rs) (r : Re w g x y z) : some g ≠ v.ownBlock := fun e => by
  rcases h.2 with ⟨h1, _⟩ | ⟨g', cap, cur, h1, _, h3, _⟩
  · rw [h1] at e; cases e
  · rw [h1] at e
    obtain rfl : g = g' := Option.some.inj e
    unfold Re at r
    rw [r] at h3
    have := congrArg (fun o => match o with | some (Obj.cells _ t _) => t | _ => 0) h3
    simp at this
theorem own_blk {w : World} {B : Nat} {v : Value} {rs : List Sg} (h : Own w B v rs) : some w.heap.size ≠ v.ownBlock := fun e => by
  have := (h.lt _ e.symm).2
  omega
theorem Own.allocF {w : World} {B : Nat} {v : Value} {rs : List Sg} (h : Own w B v rs) (o : Obj) : Own (w.alloc o) B v rs := World.ownsRow.alloc h o
/-- What Inserted's loop hands on. -/
structure In12 (es : List El) (W wr : World) (k : Nat) (rv : Value) (A : List Int) : Prop where
  own : Own wr W.heap.size rv (rle A)
  eq : insL es = A ++ insL (es.drop k)
  be : Below W.heap.size W wr
theorem In12.len {es : List El} {W wr : World} {k : Nat} {rv : Value} {A : List Int} (h : In12 es W wr k rv A) (ho : Ok8 (insL es)) : A.length ≤ 20000 := by
  have h1 := congrArg List.length h.eq
  have h2 := ho.1
  rw [List.length_append] at h1
  omega
structure De12 (base : Int) (es : List El) (W wr : World) (k : Nat) (rv : Value) (en : Int) (A : List Int) : Prop where
  own : Own wr W.heap.size rv (rle A)
  eq : gon base 0 es = A ++ gon base en (es.drop k)
  nm : ∃ q, Nm base en q (es.drop k)
  en : 0 ≤ en ∧ en ≤ base
  be : Below W.heap.size W wr
theorem De12.len {base : Int} {es : List El} {W wr : World} {k : Nat} {rv : Value} {en : Int} {A : List Int} (h : De12 base es W wr k rv en A) (ho : Ok8 (gon base 0 es)) : A.length ≤ 20000 := by
  have h1 := congrArg List.length h.eq
  have h2 := ho.1
  rw [List.length_append] at h1
  omega
theorem of_few {w : World} {v : Value} {O : List Int} (h : SgAt w v (rle O)) (ho : Ok8 O) (hr : (rle O).length ≤ 200) : Calls Tryd.prog 19 #[v] w fun e w' => ∃ p, e = .returned (.tuple #[p, .int .i64 0]) ∧ Sub w' p O ∧ Below w.heap.size w w' := by
  refine (of_any8 h ho).mono ?_
  rintro e w' ⟨⟨hn, _⟩ | ⟨_, p, he, hs⟩, b⟩
  · omega
  · exact ⟨p, he, hs, b⟩
set_option maxHeartbeats 1000000 in
set_option maxRecDepth 100000 in
theorem inserted_no {w : World} {v : Value} {es : List El} (base : Int) (tb : Nat × Nat) (hi : isB base es = false) (hsm : Sm es 20000) (h : ElAt w v es) (hT : Tab w tb) :
    Calls Tryd.prog 11 #[.agg #[.int .i64 base, v]] w fun e w' => e = .returned (.tuple #[.pointer none, .int .i64 12]) ∧ Below w.heap.size w w' := by
  have BB := Hid.mk7 (below_newE (Below.refl w.heap.size w) (.cells #[.int .i64 base, v] 24))
  have RDH := Rd.new w (.int .i64 base) v
  have HIS := Hid.mk7 (is_v hi hsm (h.alloc (.cells #[.int .i64 base, v] 24)) (hT.nuF (.cells #[.int .i64 base, v] 24)))
  have r0 := RDH.c0
  have r1 := RDH.c1
  clear h hT RDH
  go_enter Tryd.func11, Tryd.ntmps11
  go_wp2_with fail
  refine HIS.out.mono ?_
  rintro e w1 ⟨rfl, b1⟩
  have hb := BB.out.trans (b1.mono BB.out.size)
  clear r0 r1 HIS BB b1
  go_wp2
  go_ret2
  exact ⟨rfl, hb⟩
set_option maxHeartbeats 1000000 in
set_option maxRecDepth 100000 in
theorem deleted_no {w : World} {v : Value} {es : List El} (base : Int) (tb : Nat × Nat) (hi : isB base es = false) (hsm : Sm es 20000) (h : ElAt w v es) (hT : Tab w tb) :
    Calls Tryd.prog 12 #[.agg #[.int .i64 base, v]] w fun e w' => e = .returned (.tuple #[.pointer none, .int .i64 12]) ∧ Below w.heap.size w w' := by
  have BB := Hid.mk7 (below_newE (Below.refl w.heap.size w) (.cells #[.int .i64 base, v] 24))
  have RDH := Rd.new w (.int .i64 base) v
  have HIS := Hid.mk7 (is_v hi hsm (h.alloc (.cells #[.int .i64 base, v] 24)) (hT.nuF (.cells #[.int .i64 base, v] 24)))
  have r0 := RDH.c0
  have r1 := RDH.c1
  clear h hT RDH
  go_enter Tryd.func12, Tryd.ntmps12
  go_wp2_with fail
  refine HIS.out.mono ?_
  rintro e w1 ⟨rfl, b1⟩
  have hb := BB.out.trans (b1.mono BB.out.size)
  clear r0 r1 HIS BB b1
  go_wp2
  go_ret2
  exact ⟨rfl, hb⟩
set_option maxHeartbeats 4000000 in
set_option maxRecDepth 100000 in
theorem inserted_yes {w : World} {v : Value} {es : List El} (base : Int) (tb : Nat × Nat) (hi : isB base es = true) (h : ElAt w v es) (hT : Tab w tb) :
    Calls Tryd.prog 11 #[.agg #[.int .i64 base, v]] w fun e w' => ∃ p, e = .returned (.tuple #[p, .int .i64 0]) ∧ Sub w' p (insL es) ∧ Below w.heap.size w w' := by
  have hd := dl_of hi
  have BB := Hid.mk7 (below_newE (Below.refl w.heap.size w) (.cells #[.int .i64 base, v] 24))
  have RDH := Rd.new w (.int .i64 base) v
  have HV := Hid.mk7 (h.alloc (.cells #[.int .i64 base, v] 24))
  have HIS := Hid.mk7 (is_v hi hd.sm (h.alloc (.cells #[.int .i64 base, v] 24)) (hT.nuF (.cells #[.int .i64 base, v] 24)))
  have HOK := Hid.mk7 (ins_ok8 hi)
  have HRL : Hid ((rle (insL es)).length ≤ 200) := by show _ ≤ _; have := insL_rle es; have := hd.len; omega
  have HBD := Hid.mk7 hd.bd
  have HSM := Hid.mk7 hd.sm
  have r0 := RDH.c0
  have r1 := RDH.c1
  have hlen := hd.len
  clear hd h hT hi
  go_enter Tryd.func11, Tryd.ntmps11
  go_wp2_with fail
  refine HIS.out.mono ?_
  rintro e w1 ⟨rfl, b1⟩
  have hb1 := BB.out.trans (b1.mono BB.out.size)
  obtain ⟨a, cap, rfl, hcap, _, hcells⟩ := HV.out.later b1
  have HC := Hid.mk7 hcells
  have s1 := (RDH.later b1).c1
  clear r0 r1 HIS BB b1 HV RDH hcells
  go_wp2
  go_loopw [4, 13] (fun rv iv wr => ∃ (k : Nat) (A : List Int), k ≤ es.length ∧ iv = .int .i64 (k : Nat) ∧ Hid (In12 es w1 wr k rv A)) (fun _ iv _ => es.length - (intOf iv).toNat)
  case atStart => exact ⟨0, [], Nat.zero_le _, rfl, ⟨Own.nil _ _, rfl, Below.refl _ _⟩⟩
  case round =>
    obtain ⟨k, A, hk, rfl, HE⟩ := hrel
    have hb := HE.out.be
    have hsz := hb.size
    have hA := HE.out.len HOK.out
    clear s1
    by_cases hlt : k < es.length
    · obtain ⟨⟨f, t, T⟩, hr⟩ : ∃ r, es[k]? = some r := ⟨es[k], List.getElem?_eq_getElem hlt⟩
      obtain ⟨g, off, rfl, q0, q1, q2⟩ := HC.out k _ hr
      have c0 := cell_later7 hb (Nat.le_refl _) q0
      have c1 := cell_later7 hb (Nat.le_refl _) q1
      have c2 := cell_later7 hb (Nat.le_refl _) q2
      simp only at c0 c1 c2
      have hdb := HBD.out _ (List.mem_of_getElem? hr)
      have hds := HSM.out _ (List.mem_of_getElem? hr)
      simp only at hdb hds
      have HQ := Hid.mk7 (insL_step hr)
      have RC := Hid.mk7 (Re.new wr (.int .i64 f) (.int .i64 t) (.string (cacc T)))
      have HO := Hid.mk7 (HE.out.own.allocF (.cells #[.int .i64 f, .int .i64 t, .string (cacc T)] 70))
      have HNE := Hid.mk7 (own_blk HE.out.own)
      have HBX := Hid.mk7 (hb.alloc hsz (.cells #[.int .i64 f, .int .i64 t, .string (cacc T)] 70))
      have hcs : (cacc T).size = T.length := cacc_size T
      clear q0 q1 q2 hr
      generalize cacc T = s at *
      go_upto_region 7 with fail
      generalize hz : wr.heap.size = z at *
      generalize wr.alloc (.cells #[.int .i64 f, .int .i64 t, .string s] 70) = W at *
      have d0 := RC.out.c0
      have d1 := RC.out.c1
      clear c0 c1 c2
      go_wp2_with fail
      refine (fadd_any w1.heap.size u4 A (t - f) 0 W HBX.out.size (by omega) (by omega) (by omega) HO.out).mono ?_
      rintro e w2 ⟨rv2, rfl, o2, g2⟩
      have R2 := RC.out.grownF g2 HNE.out
      have O2 := Hid.mk7 o2
      have B2 := Hid.mk7 (HBX.out.grown g2 HBX.out.size (fun j hj => (HO.out.lt j hj).1))
      have e2 := R2.c2
      have hl2 : (A ++ List.replicate (t - f).toNat 0).length ≤ 100000 := by simp; omega
      obtain ⟨A2, HA2⟩ : ∃ x, Hid (A ++ List.replicate (t - f).toNat 0 = x) := ⟨_, Hid.mk7 rfl⟩
      rw [HA2.out] at O2 hl2
      clear g2 o2 R2 d0 d1 HO HBX RC
      go_wp2_with fail
      refine (fadd_any w1.heap.size rv2 A2 (T.length : Nat) 1 w2 B2.out.size (by omega) (by omega) (by omega) O2.out).mono ?_
      rintro e w3 ⟨rv3, rfl, o3, g3⟩
      have HE3 : Hid (In12 es w1 w3 (k + 1) rv3 (A2 ++ List.replicate (T.length : Int).toNat 1)) := by
        refine ⟨o3, ?_, B2.out.grown g3 B2.out.size (fun j hj => (O2.out.lt j hj).1)⟩
        rw [HE.out.eq, HQ.out, ← HA2.out]
        simp
      clear o3 g3 O2 B2 HE HQ HA2 e2
      go_wp2
      go_roundw
      case rel => exact ⟨k + 1, _, by omega, by go_num, HE3⟩
      case measure => simp [intOf]; omega
    · obtain rfl : k = es.length := by omega
      have HQ : Hid (insL es = A) := by
        show _ = _
        rw [HE.out.eq, List.drop_length]; simp [insL]
      have HOF := Hid.mk7 (of_few (O := insL es) (by rw [HQ.out]; exact HE.out.own.row) HOK.out HRL.out)
      clear HE HQ
      go_wp2_with fail
      refine HOF.out.mono ?_
      rintro e w2 ⟨p, rfl, hs, b2⟩
      have HS := Hid.mk7 hs
      have hb3 := hb1.trans ((hb.trans (b2.mono hsz)).mono hb1.size)
      clear hs b2 HOF hb
      go_wp2
      go_ret2
      exact ⟨p, rfl, HS.out, hb3⟩
set_option maxHeartbeats 4000000 in
set_option maxRecDepth 100000 in
theorem deleted_yes {w : World} {v : Value} {es : List El} (base : Int) (tb : Nat × Nat) (hi : isB base es = true) (h : ElAt w v es) (hT : Tab w tb) :
    Calls Tryd.prog 12 #[.agg #[.int .i64 base, v]] w fun e w' => ∃ p, e = .returned (.tuple #[p, .int .i64 0]) ∧ Sub w' p (gon base 0 es) ∧ Below w.heap.size w w' := by
  have hd := dl_of hi
  have BB := Hid.mk7 (below_newE (Below.refl w.heap.size w) (.cells #[.int .i64 base, v] 24))
  have RDH := Hid.mk7 (Rd.new w (.int .i64 base) v)
  have HV := Hid.mk7 (h.alloc (.cells #[.int .i64 base, v] 24))
  have HIS := Hid.mk7 (is_v hi hd.sm (h.alloc (.cells #[.int .i64 base, v] 24)) (hT.nuF (.cells #[.int .i64 base, v] 24)))
  have HOK := Hid.mk7 (gon_ok8 hi)
  have HRL : Hid ((rle (gon base 0 es)).length ≤ 200) := by show _ ≤ _; have := gon_rle (base := base) es 0; have := hd.len; omega
  have HSM := Hid.mk7 hd.sm
  have HNM := Hid.mk7 hd.nm
  have r0 := RDH.out.c0
  have r1 := RDH.out.c1
  have hlen := hd.len
  have hb00 := hd.b0
  have hb01 := hd.b1
  clear hd h hT hi
  go_enter Tryd.func12, Tryd.ntmps12
  go_wp2_with fail
  refine HIS.out.mono ?_
  rintro e w1 ⟨rfl, b1⟩
  have hb1 := BB.out.trans (b1.mono BB.out.size)
  obtain ⟨a, cap, rfl, hcap, _, hcells⟩ := HV.out.later b1
  have HC := Hid.mk7 hcells
  have RD1 := Hid.mk7 (RDH.out.later b1)
  have s0 := RD1.out.c0
  have s1 := RD1.out.c1
  clear r0 r1 HIS BB b1 HV RDH hcells
  go_wp2
  go_loopw [4, 5, 14] (fun rv nv iv wr => ∃ (k : Nat) (en : Int) (A : List Int), k ≤ es.length ∧ iv = .int .i64 (k : Nat) ∧ nv = .int .i64 en ∧ Hid (De12 base es w1 wr k rv en A)) (fun _ _ iv _ => es.length - (intOf iv).toNat)
  case atStart => exact ⟨0, 0, [], Nat.zero_le _, rfl, rfl, ⟨Own.nil _ _, rfl, ⟨0, HNM.out⟩, ⟨by omega, by omega⟩, Below.refl _ _⟩⟩
  case round =>
    obtain ⟨k, en, A, hk, rfl, rfl, HE⟩ := hrel
    have hb := HE.out.be
    have hsz := hb.size
    have hA := HE.out.len HOK.out
    have hen := HE.out.en
    clear s0 s1
    by_cases hlt : k < es.length
    · obtain ⟨⟨f, t, T⟩, hr⟩ : ∃ r, es[k]? = some r := ⟨es[k], List.getElem?_eq_getElem hlt⟩
      obtain ⟨g, off, rfl, q0, q1, q2⟩ := HC.out k _ hr
      have c0 := cell_later7 hb (Nat.le_refl _) q0
      have c1 := cell_later7 hb (Nat.le_refl _) q1
      have c2 := cell_later7 hb (Nat.le_refl _) q2
      simp only at c0 c1 c2
      have RC := Hid.mk7 (Re.new wr (.int .i64 f) (.int .i64 t) (.string (cacc T)))
      have HO := Hid.mk7 (HE.out.own.allocF (.cells #[.int .i64 f, .int .i64 t, .string (cacc T)] 70))
      have HNE := Hid.mk7 (own_blk HE.out.own)
      have HBX := Hid.mk7 (hb.alloc hsz (.cells #[.int .i64 f, .int .i64 t, .string (cacc T)] 70))
      have hcs : (cacc T).size = T.length := cacc_size T
      have HR := Hid.mk7 hr
      clear q0 q1 q2 hr
      by_cases hT0 : T = []
      · subst hT0
        obtain ⟨q, hnm⟩ := HE.out.nm
        rw [drop_consE HR.out, Nm, if_pos rfl] at hnm
        obtain ⟨n1, _, n3, n4, n5⟩ := hnm
        have HN5 := Hid.mk7 n5
        have HQ := Hid.mk7 (gon_copy (base := base) (en := en) HR.out)
        have hss : decide ((cacc []).size ≠ 0) = false := by rw [hcs]; rfl
        have HIT := Hid.mk7 (isText_any f t (cacc []))
        rw [hss] at HIT
        clear n5 hss hcs HR
        generalize cacc ([] : List UInt8) = s at *
        go_upto_region 8 with fail
        generalize hz : wr.heap.size = z at *
        generalize wr.alloc (.cells #[.int .i64 f, .int .i64 t, .string s] 70) = W at *
        have d0 := RC.out.c0
        have d1 := RC.out.c1
        have d2 := RC.out.c2
        clear c0 c1 c2
        go_wp2_with fail
        refine (HIT.out W).mono ?_
        rintro e w2 ⟨rfl, b2⟩
        have R2 := Hid.mk7 (RC.out.later b2)
        have O2 := Hid.mk7 (HO.out.later b2)
        have B2 := Hid.mk7 (HBX.out.trans (b2.mono HBX.out.size))
        have hzl := RC.out.lt
        have HNE2 : Hid (some z ≠ u4.ownBlock) := HNE.out
        clear d0 d1 d2 RC HO HBX b2 HIT HNE
        have d0 := R2.out.c0
        go_wp2_with fail
        refine (fadd_any w1.heap.size u4 A (f - en) 1 w2 B2.out.size (by omega) (by omega) (by omega) O2.out).mono ?_
        rintro e w3 ⟨rv3, rfl, o3, g3⟩
        have R3 := Hid.mk7 (R2.out.grownF g3 HNE2.out)
        have O3 := Hid.mk7 o3
        have B3 := Hid.mk7 (B2.out.grown g3 B2.out.size (fun j hj => (O2.out.lt j hj).1))
        have HNE3 := Hid.mk7 (own_re O3.out R3.out)
        clear d0 o3 g3 O2 B2 R2
        have d0 := R3.out.c0
        have d1 := R3.out.c1
        have hl2 : (A ++ List.replicate (f - en).toNat 1).length ≤ 100000 := by simp; omega
        obtain ⟨A2, HA2⟩ : ∃ x, Hid (A ++ List.replicate (f - en).toNat 1 = x) := ⟨_, Hid.mk7 rfl⟩
        rw [HA2.out] at O3 hl2
        go_wp2_with fail
        refine (fadd_any w1.heap.size rv3 A2 (t - f) 0 w3 B3.out.size (by omega) (by omega) (by omega) O3.out).mono ?_
        rintro e w4 ⟨rv4, rfl, o4, g4⟩
        have R4 := R3.out.grownF g4 HNE3.out
        have HE4 : Hid (De12 base es w1 w4 (k + 1) rv4 t (A2 ++ List.replicate (t - f).toNat 0)) := by
          refine ⟨o4, ?_, ⟨2, HN5.out⟩, ⟨by omega, n4⟩, B3.out.grown g4 B3.out.size (fun j hj => (O3.out.lt j hj).1)⟩
          rw [HE.out.eq, HQ.out, ← HA2.out]
          simp
        clear d0 d1 o4 g4 O3 B3 R3 HE HQ HA2 HNE2 HNE3
        have d1 := R4.c1
        go_wp2
        go_roundw
        case rel => exact ⟨k + 1, t, _, by omega, by go_num, rfl, HE4⟩
        case measure => simp [intOf]; omega
      · obtain ⟨q, hnm⟩ := HE.out.nm
        rw [drop_consE HR.out, Nm, if_neg hT0] at hnm
        obtain ⟨n1, n2, n3, n4⟩ := hnm
        have HN4 := Hid.mk7 n4
        have HQ := Hid.mk7 (gon_text (base := base) (en := en) HR.out hT0)
        have hss : decide ((cacc T).size ≠ 0) = true := by rw [hcs]; simp; exact hT0
        have HIT := Hid.mk7 (isText_any f t (cacc T))
        rw [hss] at HIT
        clear n4 hss hcs HR hT0 n1 n2 n3
        generalize cacc T = s at *
        go_upto_region 8 with fail
        generalize hz : wr.heap.size = z at *
        generalize wr.alloc (.cells #[.int .i64 f, .int .i64 t, .string s] 70) = W at *
        have d0 := RC.out.c0
        have d1 := RC.out.c1
        have d2 := RC.out.c2
        clear c0 c1 c2
        go_wp2_with fail
        refine (HIT.out W).mono ?_
        rintro e w2 ⟨rfl, b2⟩
        have HE2 : Hid (De12 base es w1 w2 (k + 1) u4 en A) := by
          refine ⟨HO.out.later b2, ?_, ⟨1, HN4.out⟩, hen, HBX.out.trans (b2.mono HBX.out.size)⟩
          rw [HE.out.eq, HQ.out]
        clear d0 d1 d2 RC HO HBX b2 HIT HNE HE HQ
        go_wp2
        go_roundw
        case rel => exact ⟨k + 1, en, _, by omega, by go_num, rfl, HE2⟩
        case measure => simp [intOf]; omega
    · obtain rfl : k = es.length := by omega
      have HQ : Hid (gon base 0 es = A ++ List.replicate (base - en).toNat 1) := by
        show _ = _
        rw [HE.out.eq, List.drop_length]; simp [gon]
      have RD2 := (RD1.out.later hb)
      have e0 := RD2.c0
      have O1 := Hid.mk7 HE.out.own
      clear HE
      go_wp2_with fail
      refine (fadd_any w1.heap.size u4 A (base - en) 1 wr hsz (by omega) (by omega) (by omega) O1.out).mono ?_
      rintro e w2 ⟨rv2, rfl, o2, g2⟩
      rw [← HQ.out] at o2
      have B2 := Hid.mk7 (hb.grown g2 hsz (fun j hj => (O1.out.lt j hj).1))
      have HOF := Hid.mk7 (of_few (O := gon base 0 es) o2.row HOK.out HRL.out)
      clear o2 g2 HQ O1 RD2 e0 hb
      go_wp2_with fail
      refine HOF.out.mono ?_
      rintro e w3 ⟨p, rfl, hs, b3⟩
      have HS := Hid.mk7 hs
      have hb3 := hb1.trans ((B2.out.trans (b3.mono B2.out.size)).mono hb1.size)
      clear hs b3 HOF B2
      go_wp2
      go_ret2
      exact ⟨p, rfl, HS.out, hb3⟩
end Go.Proofs.YtalolaajcmndeaaDoor
