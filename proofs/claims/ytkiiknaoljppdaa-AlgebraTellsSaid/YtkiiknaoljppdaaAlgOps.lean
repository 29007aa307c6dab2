/- algebra's Union, Minus, Xor, Shrink, Not. -/
import Derived.Test.YtkiiknaoljppdaaAlgTog
namespace Go.Proofs.Ytkiiknaoljppdaa
open Go.RowKit Go.Sort
set_option linter.unusedSimpArgs false
set_option linter.unusedVariables false

def uF (a b : Int) : Int := min (a + b) 100
def mF (a b : Int) : Int := max (a - b) 0
def xF (a b : Int) : Int := if decide (0 < a) != decide (0 < b) then 1 else 0
def nF (a _b : Int) : Int := if a = 0 then 1 else 0
def sF (a b : Int) : Int := if 0 < b then -1 else a
theorem uF_in (a b : Int) (ha : In8 a) (hb : In8 b) : uF a b = -1 ∨ In8 (uF a b) := by unfold uF In8 at *; omega
theorem mF_in (a b : Int) (ha : In8 a) (hb : In8 b) : mF a b = -1 ∨ In8 (mF a b) := by unfold mF In8 at *; omega
theorem xF_in (a b : Int) (ha : In8 a) (hb : In8 b) : xF a b = -1 ∨ In8 (xF a b) := by unfold xF In8 at *; split <;> omega
theorem nF_in (a b : Int) (ha : In8 a) (hb : In8 b) : nF a b = -1 ∨ In8 (nF a b) := by unfold nF In8 at *; split <;> omega
theorem sF_in (a b : Int) (ha : In8 a) (hb : In8 b) : sF a b = -1 ∨ In8 (sF a b) := by unfold sF In8 at *; split <;> omega
theorem ret_i8 {a b : Int} (h : a = b) : Ending.returned (.int .i64 a) = Ending.returned (.int .i64 b) := by rw [h]
set_option maxHeartbeats 400000 in
theorem union1_any (W : World) (a b : Int) (ha : In8 a) (hb : In8 b) : Calls Try.prog 35 #[.int .i64 a, .int .i64 b] W fun e w' => e = .returned (.int .i64 (uF a b)) ∧ w' = W := by
  obtain ⟨a0, a1⟩ := ha
  obtain ⟨b0, b1⟩ := hb
  go_enter Try.func35, Try.ntmps35
  go_wp2
  all_goals go_ret
  all_goals exact ⟨ret_i8 (by unfold uF; omega), rfl⟩
set_option maxHeartbeats 400000 in
theorem minus1_any (W : World) (a b : Int) (ha : In8 a) (hb : In8 b) : Calls Try.prog 37 #[.int .i64 a, .int .i64 b] W fun e w' => e = .returned (.int .i64 (mF a b)) ∧ w' = W := by
  obtain ⟨a0, a1⟩ := ha
  obtain ⟨b0, b1⟩ := hb
  go_enter Try.func37, Try.ntmps37
  go_wp2
  all_goals go_ret
  all_goals exact ⟨ret_i8 (by unfold mF; omega), rfl⟩
set_option maxHeartbeats 400000 in
theorem shrink1_any (W : World) (a b : Int) (ha : In8 a) (hb : In8 b) : Calls Try.prog 44 #[.int .i64 a, .int .i64 b] W fun e w' => e = .returned (.int .i64 (sF a b)) ∧ w' = W := by
  obtain ⟨a0, a1⟩ := ha
  obtain ⟨b0, b1⟩ := hb
  by_cases h : 0 < b
  · go_enter Try.func44, Try.ntmps44
    go_wp2
    go_ret
    exact ⟨ret_i8 (by unfold sF; rw [if_pos h]), rfl⟩
  · go_enter Try.func44, Try.ntmps44
    go_wp2
    go_ret
    exact ⟨ret_i8 (by unfold sF; rw [if_neg (by omega)]), rfl⟩
set_option maxHeartbeats 400000 in
theorem not1_any (W : World) (a b : Int) (ha : In8 a) (hb : In8 b) : Calls Try.prog 46 #[.int .i64 a, .int .i64 b] W fun e w' => e = .returned (.int .i64 (nF a b)) ∧ w' = W := by
  by_cases h : a = 0
  · have d : (a == 0) = true := by simpa using h
    have HE : Hid (nF a b = 1) := if_pos h
    clear h
    go_enter Try.func46, Try.ntmps46
    go_wp2_with fail
    refine (once_any true W).mono ?_
    rintro e w1 ⟨rfl, rfl⟩
    go_wp2
    go_ret
    exact ⟨ret_i8 HE.out.symm, rfl⟩
  · have d : (a == 0) = false := by simpa using h
    have HE : Hid (nF a b = 0) := if_neg h
    clear h
    go_enter Try.func46, Try.ntmps46
    go_wp2_with fail
    refine (once_any false W).mono ?_
    rintro e w1 ⟨rfl, rfl⟩
    go_wp2
    go_ret
    exact ⟨ret_i8 HE.out.symm, rfl⟩
set_option maxHeartbeats 400000 in
theorem xor1_any (W : World) (a b : Int) (ha : In8 a) (hb : In8 b) : Calls Try.prog 38 #[.int .i64 a, .int .i64 b] W fun e w' => e = .returned (.int .i64 (xF a b)) ∧ w' = W := by
  have HE : Hid (xF a b = if decide (0 < a) != decide (0 < b) then 1 else 0) := rfl
  have HO := Hid.mk7 fun x W => once_any x W
  rcases (show (0 < a ∧ 0 < b) ∨ (0 < a ∧ b ≤ 0) ∨ (a ≤ 0 ∧ 0 < b) ∨ (a ≤ 0 ∧ b ≤ 0) from by omega) with ⟨ka, kb⟩ | ⟨ka, kb⟩ | ⟨ka, kb⟩ | ⟨ka, kb⟩
  · go_enter Try.func38, Try.ntmps38
    go_wp2_with fail
    refine (HO.out _ W).mono ?_
    rintro e w1 ⟨rfl, rfl⟩
    go_wp2
    go_ret
    exact ⟨ret_i8 (by rw [HE.out]; simp [ka, kb]), rfl⟩
  · go_enter Try.func38, Try.ntmps38
    go_wp2_with fail
    refine (HO.out _ W).mono ?_
    rintro e w1 ⟨rfl, rfl⟩
    go_wp2
    go_ret
    exact ⟨ret_i8 (by rw [HE.out]; simp [ka, Int.not_lt.2 kb]), rfl⟩
  · go_enter Try.func38, Try.ntmps38
    go_wp2_with fail
    refine (HO.out _ W).mono ?_
    rintro e w1 ⟨rfl, rfl⟩
    go_wp2
    go_ret
    exact ⟨ret_i8 (by rw [HE.out]; simp [Int.not_lt.2 ka, kb]), rfl⟩
  · go_enter Try.func38, Try.ntmps38
    go_wp2_with fail
    refine (HO.out _ W).mono ?_
    rintro e w1 ⟨rfl, rfl⟩
    go_wp2
    go_ret
    exact ⟨ret_i8 (by rw [HE.out]; simp [Int.not_lt.2 ka, Int.not_lt.2 kb]), rfl⟩
theorem enter_union (args : Array Value) (W : World) : Sem.run Try.prog (callFunc 35 args) W = .ok (.enter 35 args) W := by rfl
theorem enter_minus (args : Array Value) (W : World) : Sem.run Try.prog (callFunc 37 args) W = .ok (.enter 37 args) W := by rfl
theorem enter_xor (args : Array Value) (W : World) : Sem.run Try.prog (callFunc 38 args) W = .ok (.enter 38 args) W := by rfl
theorem enter_shrink (args : Array Value) (W : World) : Sem.run Try.prog (callFunc 44 args) W = .ok (.enter 44 args) W := by rfl
theorem enter_not (args : Array Value) (W : World) : Sem.run Try.prog (callFunc 46 args) W = .ok (.enter 46 args) W := by rfl
set_option maxHeartbeats 800000 in
theorem union_len {w : World} {p q : Value} {L M : List Int} (hp : Sub w p L) (hq : Sub w q M) (hL : Ok8 L) (hM : Ok8 M) (hne : L.length ≠ M.length) :
    Calls Try.prog 13 #[p, q] w fun e w' => e = .returned (.tuple #[.pointer none, .int .i64 80]) ∧ Below w.heap.size w w' := by
  have hmf : ∀ (fn : Fn) (first cap : Array Value) (w : World), (Instr.makeFunc fn first cap).run Try.prog w = .ok (.func fn first cap) w := fun _ _ _ _ => rfl
  have HC := Hid.mk7 fun t => together_len (t := t) hp hq hL.1 hM.1 hne
  clear hp hq hne hL hM
  go_enter Try.func13, Try.ntmps13
  go_wp2_with fail
  refine (HC.out _).mono ?_
  rintro e w1 ⟨rfl, b1⟩
  go_wp2
  go_ret2
  exact ⟨rfl, b1⟩
set_option maxHeartbeats 800000 in
theorem union_any {w : World} {p q : Value} {L M : List Int} (hp : Sub w p L) (hq : Sub w q M) (hL : Ok8 L) (hM : Ok8 M) (hlen : L.length = M.length) :
    Calls Try.prog 13 #[p, q] w fun e w' => Out8 (tog uF L M) e w' ∧ Below w.heap.size w w' := by
  have hmf : ∀ (fn : Fn) (first cap : Array Value) (w : World), (Instr.makeFunc fn first cap).run Try.prog w = .ok (.func fn first cap) w := fun _ _ _ _ => rfl
  have HC := Hid.mk7 (together_any uF 35 hp hq hL hM hlen uF_in enter_union union1_any)
  clear hp hq hlen hL hM
  go_enter Try.func13, Try.ntmps13
  go_wp2_with fail
  refine HC.out.mono ?_
  rintro e w1 ⟨ho, b1⟩
  rcases ho with ⟨hm, rfl⟩ | ⟨hm, pr, rfl, hs⟩
  · go_wp2
    go_ret2
    exact ⟨Or.inl ⟨hm, rfl⟩, b1⟩
  · have HS := Hid.mk7 hs
    clear hs
    go_wp2
    go_ret2
    exact ⟨Or.inr ⟨hm, pr, rfl, HS.out⟩, b1⟩
set_option maxHeartbeats 800000 in
theorem minus_len {w : World} {p q : Value} {L M : List Int} (hp : Sub w p L) (hq : Sub w q M) (hL : Ok8 L) (hM : Ok8 M) (hne : L.length ≠ M.length) :
    Calls Try.prog 16 #[p, q] w fun e w' => e = .returned (.tuple #[.pointer none, .int .i64 80]) ∧ Below w.heap.size w w' := by
  have hmf : ∀ (fn : Fn) (first cap : Array Value) (w : World), (Instr.makeFunc fn first cap).run Try.prog w = .ok (.func fn first cap) w := fun _ _ _ _ => rfl
  have HC := Hid.mk7 fun t => together_len (t := t) hp hq hL.1 hM.1 hne
  clear hp hq hne hL hM
  go_enter Try.func16, Try.ntmps16
  go_wp2_with fail
  refine (HC.out _).mono ?_
  rintro e w1 ⟨rfl, b1⟩
  go_wp2
  go_ret2
  exact ⟨rfl, b1⟩
set_option maxHeartbeats 800000 in
theorem minus_any {w : World} {p q : Value} {L M : List Int} (hp : Sub w p L) (hq : Sub w q M) (hL : Ok8 L) (hM : Ok8 M) (hlen : L.length = M.length) :
    Calls Try.prog 16 #[p, q] w fun e w' => Out8 (tog mF L M) e w' ∧ Below w.heap.size w w' := by
  have hmf : ∀ (fn : Fn) (first cap : Array Value) (w : World), (Instr.makeFunc fn first cap).run Try.prog w = .ok (.func fn first cap) w := fun _ _ _ _ => rfl
  have HC := Hid.mk7 (together_any mF 37 hp hq hL hM hlen mF_in enter_minus minus1_any)
  clear hp hq hlen hL hM
  go_enter Try.func16, Try.ntmps16
  go_wp2_with fail
  refine HC.out.mono ?_
  rintro e w1 ⟨ho, b1⟩
  rcases ho with ⟨hm, rfl⟩ | ⟨hm, pr, rfl, hs⟩
  · go_wp2
    go_ret2
    exact ⟨Or.inl ⟨hm, rfl⟩, b1⟩
  · have HS := Hid.mk7 hs
    clear hs
    go_wp2
    go_ret2
    exact ⟨Or.inr ⟨hm, pr, rfl, HS.out⟩, b1⟩
set_option maxHeartbeats 800000 in
theorem xor_len {w : World} {p q : Value} {L M : List Int} (hp : Sub w p L) (hq : Sub w q M) (hL : Ok8 L) (hM : Ok8 M) (hne : L.length ≠ M.length) :
    Calls Try.prog 17 #[p, q] w fun e w' => e = .returned (.tuple #[.pointer none, .int .i64 80]) ∧ Below w.heap.size w w' := by
  have hmf : ∀ (fn : Fn) (first cap : Array Value) (w : World), (Instr.makeFunc fn first cap).run Try.prog w = .ok (.func fn first cap) w := fun _ _ _ _ => rfl
  have HC := Hid.mk7 fun t => together_len (t := t) hp hq hL.1 hM.1 hne
  clear hp hq hne hL hM
  go_enter Try.func17, Try.ntmps17
  go_wp2_with fail
  refine (HC.out _).mono ?_
  rintro e w1 ⟨rfl, b1⟩
  go_wp2
  go_ret2
  exact ⟨rfl, b1⟩
set_option maxHeartbeats 800000 in
theorem xor_any {w : World} {p q : Value} {L M : List Int} (hp : Sub w p L) (hq : Sub w q M) (hL : Ok8 L) (hM : Ok8 M) (hlen : L.length = M.length) :
    Calls Try.prog 17 #[p, q] w fun e w' => Out8 (tog xF L M) e w' ∧ Below w.heap.size w w' := by
  have hmf : ∀ (fn : Fn) (first cap : Array Value) (w : World), (Instr.makeFunc fn first cap).run Try.prog w = .ok (.func fn first cap) w := fun _ _ _ _ => rfl
  have HC := Hid.mk7 (together_any xF 38 hp hq hL hM hlen xF_in enter_xor xor1_any)
  clear hp hq hlen hL hM
  go_enter Try.func17, Try.ntmps17
  go_wp2_with fail
  refine HC.out.mono ?_
  rintro e w1 ⟨ho, b1⟩
  rcases ho with ⟨hm, rfl⟩ | ⟨hm, pr, rfl, hs⟩
  · go_wp2
    go_ret2
    exact ⟨Or.inl ⟨hm, rfl⟩, b1⟩
  · have HS := Hid.mk7 hs
    clear hs
    go_wp2
    go_ret2
    exact ⟨Or.inr ⟨hm, pr, rfl, HS.out⟩, b1⟩
set_option maxHeartbeats 800000 in
theorem shrink_len {w : World} {p q : Value} {L M : List Int} (hp : Sub w p L) (hq : Sub w q M) (hL : Ok8 L) (hM : Ok8 M) (hne : L.length ≠ M.length) :
    Calls Try.prog 20 #[p, q] w fun e w' => e = .returned (.tuple #[.pointer none, .int .i64 80]) ∧ Below w.heap.size w w' := by
  have hmf : ∀ (fn : Fn) (first cap : Array Value) (w : World), (Instr.makeFunc fn first cap).run Try.prog w = .ok (.func fn first cap) w := fun _ _ _ _ => rfl
  have HC := Hid.mk7 fun t => together_len (t := t) hp hq hL.1 hM.1 hne
  clear hp hq hne hL hM
  go_enter Try.func20, Try.ntmps20
  go_wp2_with fail
  refine (HC.out _).mono ?_
  rintro e w1 ⟨rfl, b1⟩
  go_wp2
  go_ret2
  exact ⟨rfl, b1⟩
set_option maxHeartbeats 800000 in
theorem shrink_any {w : World} {p q : Value} {L M : List Int} (hp : Sub w p L) (hq : Sub w q M) (hL : Ok8 L) (hM : Ok8 M) (hlen : L.length = M.length) :
    Calls Try.prog 20 #[p, q] w fun e w' => Out8 (tog sF L M) e w' ∧ Below w.heap.size w w' := by
  have hmf : ∀ (fn : Fn) (first cap : Array Value) (w : World), (Instr.makeFunc fn first cap).run Try.prog w = .ok (.func fn first cap) w := fun _ _ _ _ => rfl
  have HC := Hid.mk7 (together_any sF 44 hp hq hL hM hlen sF_in enter_shrink shrink1_any)
  clear hp hq hlen hL hM
  go_enter Try.func20, Try.ntmps20
  go_wp2_with fail
  refine HC.out.mono ?_
  rintro e w1 ⟨ho, b1⟩
  rcases ho with ⟨hm, rfl⟩ | ⟨hm, pr, rfl, hs⟩
  · go_wp2
    go_ret2
    exact ⟨Or.inl ⟨hm, rfl⟩, b1⟩
  · have HS := Hid.mk7 hs
    clear hs
    go_wp2
    go_ret2
    exact ⟨Or.inr ⟨hm, pr, rfl, HS.out⟩, b1⟩
theorem rle_map_len (g : Int → Int) : ∀ L : List Int, (rle (L.map g)).length ≤ (rle L).length ∧ ∀ r, (rle L).head? = some r → ∃ n, (rle (L.map g)).head? = some (n, g r.2)
  | [] => ⟨Nat.le_refl _, fun r h => by simp [rle] at h⟩
  | c :: L => by
    obtain ⟨h1, h2⟩ := rle_map_len g L
    show (pushF (g c) (rle (L.map g))).length ≤ (pushF c (rle L)).length ∧ ∀ r, (pushF c (rle L)).head? = some r → ∃ n, (pushF (g c) (rle (L.map g))).head? = some (n, g r.2)
    cases hr : rle L with
    | nil =>
      have hL : L = [] := by rw [← xp_rle L, hr]; rfl
      subst hL
      refine ⟨by simp [rle, pushF], fun r h => ?_⟩
      simp [pushF] at h
      subst h
      exact ⟨1, by simp [rle, pushF]⟩
    | cons q qs =>
      rw [hr] at h1 h2
      obtain ⟨n, hn⟩ := h2 q rfl
      obtain ⟨ps, hps⟩ : ∃ ps, rle (L.map g) = (n, g q.2) :: ps := by
        cases hx : rle (L.map g) with
        | nil => rw [hx] at hn; simp at hn
        | cons a ps => rw [hx] at hn; simp at hn; subst hn; exact ⟨ps, rfl⟩
      rw [hps, pushF_cons, pushF_cons]
      rw [hps] at h1
      simp only [List.length_cons] at h1
      by_cases e : q.2 = c
      · rw [if_pos e, if_pos (by rw [e])]
        refine ⟨by simp; omega, fun r h => ?_⟩
        simp at h
        subst h
        exact ⟨_, rfl⟩
      · rw [if_neg e]
        constructor
        · split <;> simp <;> omega
        · intro r h
          simp at h
          subst h
          split
          · exact ⟨_, rfl⟩
          · exact ⟨_, rfl⟩
theorem zip_self (f : Int → Int → Int) (L : List Int) : List.zipWith f L L = L.map fun a => f a a := by induction L with | nil => rfl | cons a L ih => simp [ih]
/-- Where nothing is left out. -/
theorem tog_zip {f : Int → Int → Int} {L M : List Int} (h : ∀ a ∈ L, ∀ b ∈ M, f a b ≠ -1) : tog f L M = List.zipWith f L M := by
  unfold tog
  rw [List.filter_eq_self]
  intro c hc
  obtain ⟨i, hi, e⟩ := List.mem_iff_getElem.1 hc
  rw [List.getElem_zipWith] at e
  rw [← e]
  simpa using h _ (List.getElem_mem _) _ (List.getElem_mem _)
def notL (L : List Int) : List Int := L.map fun a => if a = 0 then 1 else 0
theorem tog_not (L : List Int) : tog nF L L = notL L := by
  rw [tog_zip fun a _ b _ => by unfold nF; split <;> simp, zip_self]; rfl
theorem ok8_not {L : List Int} (h : Ok8 L) : Ok8 (notL L) := ⟨by unfold notL; simpa using h.1, fun c hc => by
  unfold notL at hc
  obtain ⟨a, _, rfl⟩ := List.mem_map.1 hc
  split <;> decide⟩
set_option maxHeartbeats 800000 in
theorem not_any {w : World} {p : Value} {L : List Int} (hp : Sub w p L) (hL : Ok8 L) (hr : (rle L).length ≤ 200) :
    Calls Try.prog 25 #[p] w fun e w' => ∃ q, e = .returned q ∧ Sub w' q (notL L) ∧ Below w.heap.size w w' := by
  have hmf : ∀ (fn : Fn) (first cap : Array Value) (w : World), (Instr.makeFunc fn first cap).run Try.prog w = .ok (.func fn first cap) w := fun _ _ _ _ => rfl
  have HC := Hid.mk7 (together_any nF 46 hp hp hL hL rfl nF_in enter_not not1_any)
  rw [tog_not] at HC
  have HR : Hid ((rle (notL L)).length ≤ 200) := Nat.le_trans (rle_map_len _ L).1 hr
  clear hp hL hr
  go_enter Try.func25, Try.ntmps25
  go_wp2_with fail
  refine HC.out.mono ?_
  rintro e w1 ⟨ho, b1⟩
  rcases ho with ⟨hm, rfl⟩ | ⟨hm, pr, rfl, hs⟩
  · exact absurd HR.out (by omega)
  · have HS := Hid.mk7 hs
    clear hs
    go_wp2
    go_ret
    exact ⟨pr, rfl, HS.out, b1⟩
end Go.Proofs.Ytkiiknaoljppdaa
