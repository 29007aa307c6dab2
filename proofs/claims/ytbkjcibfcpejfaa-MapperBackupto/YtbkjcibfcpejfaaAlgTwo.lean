/- Two rows of one's own that grow side by side: append, and where its row lies behind it. -/
import Derived.Test.YtbkjcibfcpejfaaAlgHelp
import Derived.Deep.RegionLaw
namespace Go.Proofs.Ytbkjcibfcpejfaa
open Go.RowKit Go.Sort
set_option linter.unusedSimpArgs false
set_option linter.unusedVariables false

theorem append_block {P : Program} (w : World) (base : Nat) (t ty e : TypeId) (i : TypeInfo) (z : Value) (size bytes : Nat) (ht : P.underlying t = some (.slice e)) (hi : P.info? e = some i) (hz : i.zero = some z)
    (hsize : i.size = size) (hby : i.bytes = bytes)
    (v : Value) (n : Nat) (xs : List Value) (hown : w.ownsRow base e size v n xs)
    (a : Addr) (m c : Nat) (news : List Value) (hl : news.length = m * size) (hnews : ∀ j u, news[j]? = some u → w.cell? (a.add j) = some u) (h1 : ∀ u ∈ news, u.oneCell' = true)
    (h63 : n + m ≤ maxLen) (hbytes : (n + m) * bytes ≤ 140737488355328) (hm : 0 < m) {v' : Value} {w' : World} (hr : (Builtin.append_ #[t, t] ty #[v, .slice (some a) m c]).run P w = .ok v' w') :
    v'.ownBlock = v.ownBlock ∨ v'.ownBlock = some w.heap.size := by
  subst hsize
  subst hby
  have hsmall : n + m ≤ 9223372036854775807 := by simp only [maxLen] at h63; omega
  rcases hown.2 with ⟨rfl, rfl⟩ | ⟨g, cap, cur, rfl, hbg, hg, hnc, hcm, hcs, htake⟩
  · have hq := run_append_nil (P := P) w t ty e i z ht hi hz a m c news hl hnews (by omega) (by omega) (by have hb := hbytes; simp only [Nat.zero_add] at hb; omega)
    have := hr.symm.trans hq
    cases this
    exact Or.inr rfl
  · by_cases hroom : n + m ≤ cap
    · have hfit : n * i.size + news.length ≤ cur.size := by rw [hl, hcs, ← Nat.add_mul]; exact Nat.mul_le_mul_right _ hroom
      have hq := run_append_room (P := P) w t ty e i ht hi g n cap cur hg a m c news hl hnews h1 hroom hfit
      have := hr.symm.trans hq
      cases this
      exact Or.inl rfl
    · have hq := run_append_grow (P := P) w t ty e i z ht hi hz ⟨g, 0, none⟩ n cap xs hown.1 (hown.cells (g := g) rfl) a m c news hl hnews (by omega) (by omega) (growslice_fits (by omega) hbytes)
      have := hr.symm.trans hq
      cases this
      exact Or.inr rfl
/-- append onto a row of numbers of one's own: its row lies where it lay, or is new. -/
theorem wp_append_int {w : World} {o : Oper} {a : Act} {K : Act → World → Prop} {Q : Exit → Act → World → Prop} (s x : Operand)
    (ho : o.op = .call { callee := .builtin .append, args := #[s, x], argTypes := #[24, 24] }) (B : Nat) (v : Value) (X : List Int) (hs : a.eval s = v) (hown : OwnI w B v X) (ad : Addr) (c : Int) (hx : a.eval x = .slice (some ad) 1 1)
    (hc : w.cell? ad = some (.int .i64 c)) (hsp : ad.spot = none) (hX : X.length ≤ 1073741824) (hB : B ≤ w.heap.size)
    (h : ∀ v' w', OwnI w' B v' (X ++ [c]) → w.grownBy w' v.ownBlock → (v'.ownBlock = v.ownBlock ∨ v'.ownBlock = some w.heap.size) → K (a.put o.dst v') w') : o.wp Try.prog a w K Q := by
  obtain ⟨i0, hi, hz0, hz1, hz2⟩ := info_parts Try.info_int7
  have hnews : ∀ (j : Nat) (u : Value), ([.int .i64 c] : List Value)[j]? = some u → w.cell? (ad.add j) = some u := by
    intro j u hu
    match j, hu with
    | 0, hu =>
      simp at hu
      subst hu
      obtain ⟨b, off, spot⟩ := ad
      simp only at hsp
      subst hsp
      rw [addr_add7]
      exact hc
  have h1 : ∀ u ∈ ([.int .i64 c] : List Value), u.oneCell' = true := fun u hu => by simp at hu; subst hu; rfl
  have hown' : w.ownsRow B 3 1 v X.length (X.map (Value.int .i64)) := hown
  have h63 : X.length + 1 ≤ maxLen := by unfold maxLen; omega
  obtain ⟨v', w', hr, r1, r2, _⟩ := run_append_own (P := Try.prog) w B 24 o.type 3 i0 (.int .i64 0) 1 8 Try.underlying24 hi hz0 hz1 hz2 rfl (by decide) v X.length (X.map (Value.int .i64)) hown' ad 1 1 [.int .i64 c] rfl hnews h1 h63 (by omega) hB
  have hb := append_block (P := Try.prog) w B 24 o.type 3 i0 (.int .i64 0) 1 8 Try.underlying24 hi hz0 hz1 hz2 v X.length (X.map (Value.int .i64)) hown' ad 1 1 [.int .i64 c] rfl hnews h1 h63 (by omega) (by omega) hr
  unfold Oper.wp execOp
  simp only [ho, resolve, invoke, builtin, Sem.run_bind, Sem.run_pure, Result.andThen_ok, List.map_toArray, List.map_cons, List.map_nil, hs, hx, hr]
  exact h v' w' (ownI_push rfl r1) r2 hb
theorem wpList_append_int {w : World} {ops : Array Oper} {rest : List Oper} {o : Oper} {a : Act} {Q : Exit → Act → World → Prop} (hgd : o.guard = none) (s x : Operand)
    (ho : o.op = .call { callee := .builtin .append, args := #[s, x], argTypes := #[24, 24] }) (B : Nat) (v : Value) (X : List Int) (hs : a.eval s = v) (hown : OwnI w B v X) (ad : Addr) (c : Int) (hx : a.eval x = .slice (some ad) 1 1)
    (hc : w.cell? ad = some (.int .i64 c)) (hsp : ad.spot = none) (hX : X.length ≤ 1073741824) (hB : B ≤ w.heap.size)
    (h : ∀ v' w', OwnI w' B v' (X ++ [c]) → w.grownBy w' v.ownBlock → (v'.ownBlock = v.ownBlock ∨ v'.ownBlock = some w.heap.size) → wpList Try.prog ops Q rest (a.put o.dst v') w') : wpList Try.prog ops Q (o :: rest) a w :=
  wpList_plain hgd fun K hK => wp_append_int s x ho B v X hs hown ad c hx hc hsp hX hB fun v' w' h1 h2 h3 => hK _ _ (h v' w' h1 h2 h3)
theorem step_append_int {w : World} {ops : Array Oper} {o : Oper} {a : Act} {K : Act → World → Prop} {Q : Exit → Act → World → Prop} {E : Prop} (hgd : o.guard = none) (s x : Operand)
    (ho : o.op = .call { callee := .builtin .append, args := #[s, x], argTypes := #[24, 24] }) (B : Nat) (v : Value) (X : List Int) (hs : a.eval s = v) (hown : OwnI w B v X) (ad : Addr) (c : Int) (hx : a.eval x = .slice (some ad) 1 1)
    (hc : w.cell? ad = some (.int .i64 c)) (hsp : ad.spot = none) (hX : X.length ≤ 1073741824) (hB : B ≤ w.heap.size)
    (h : ∀ v' w', OwnI w' B v' (X ++ [c]) → w.grownBy w' v.ownBlock → (v'.ownBlock = v.ownBlock ∨ v'.ownBlock = some w.heap.size) → K (a.put o.dst v') w') :
    if Region.wanted o (yielded ops a.tmps) = true then Oper.wp Try.prog o a w K Q else E := by
  rw [if_pos (by simp [Region.wanted, hgd])]
  exact wp_append_int s x ho B v X hs hown ad c hx hc hsp hX hB h
/-- Two rows of one's own, apart. -/
def Two (w : World) (B : Nat) (u v : Value) (X Y : List Int) : Prop := OwnI w B u X ∧ OwnI w B v Y ∧ (u.ownBlock = none ∨ u.ownBlock ≠ v.ownBlock)
theorem Two.nil (w : World) (B : Nat) : Two w B (.slice none 0 0) (.slice none 0 0) [] [] := ⟨OwnI.nil _ _, OwnI.nil _ _, Or.inl rfl⟩
theorem ownI_lt {w : World} {B : Nat} {v : Value} {X : List Int} (h : OwnI w B v X) {g : Nat} (hg : v.ownBlock = some g) : B ≤ g ∧ g < w.heap.size := World.ownsRow.lt h g hg
theorem Two.later {w w' : World} {B : Nat} {u v : Value} {X Y : List Int} (h : Two w B u v X Y) (hb : Below w.heap.size w w') : Two w' B u v X Y := ⟨h.1.later hb, h.2.1.later hb, h.2.2⟩
/-- The first one grew. -/
theorem Two.left {w w' : World} {B : Nat} {u v u' : Value} {X Y X' : List Int} (h : Two w B u v X Y) (ho : OwnI w' B u' X') (hg : w.grownBy w' u.ownBlock) (hb : u'.ownBlock = u.ownBlock ∨ u'.ownBlock = some w.heap.size) : Two w' B u' v X' Y := by
  obtain ⟨h1, h2, h3⟩ := h
  refine ⟨ho, World.ownsRow.kept h2 hg ?_, ?_⟩
  · rcases h3 with h3 | h3
    · by_cases hv : v.ownBlock = none
      · exact Or.inl hv
      · exact Or.inr (by rw [h3]; exact hv)
    · exact Or.inr (Ne.symm h3)
  · rcases hb with hb | hb
    · rw [hb]; exact h3
    · refine Or.inr fun e => ?_
      have := (ownI_lt h2 (e ▸ hb)).2
      omega
theorem Two.swap {w : World} {B : Nat} {u v : Value} {X Y : List Int} (h : Two w B u v X Y) : Two w B v u Y X := by
  refine ⟨h.2.1, h.1, ?_⟩
  rcases h.2.2 with h3 | h3
  · by_cases hv : v.ownBlock = none
    · exact Or.inl hv
    · exact Or.inr (by rw [h3]; exact hv)
  · exact Or.inr (Ne.symm h3)
theorem Two.right {w w' : World} {B : Nat} {u v v' : Value} {X Y Y' : List Int} (h : Two w B u v X Y) (ho : OwnI w' B v' Y') (hg : w.grownBy w' v.ownBlock) (hb : v'.ownBlock = v.ownBlock ∨ v'.ownBlock = some w.heap.size) : Two w' B u v' X Y' :=
  (h.swap.left ho hg hb).swap
end Go.Proofs.Ytbkjcibfcpejfaa
