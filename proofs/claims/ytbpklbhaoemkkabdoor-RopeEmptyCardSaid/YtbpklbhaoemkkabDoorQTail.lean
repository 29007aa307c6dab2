/- A region that draws its order, whose last operation waits for all others: where it is put aside, and all others only read (callees may make memory), one walk in the order of the text is enough; the last operation is walked behind it. -/
import Derived.Test.YtbpklbhaoemkkabDoorRows
import Derived.Deep.Quiet
import Derived.Lib.QuietBelow
namespace Go.Proofs.YtbpklbhaoemkkabDoor
open Go Go.Sort
set_option linter.unusedSimpArgs false
set_option linter.unusedVariables false

/-- The operation, put aside: it hands on a value that nobody asks for. -/
def idle (z : Oper) : Oper := { z with op := .move (.const (.bool true)) }
/-- A row of operations, the last one put aside. -/
def mute : List Oper → List Oper
  | [] => []
  | [z] => [idle z]
  | o :: p :: r => o :: mute (p :: r)
def lastOf : List Oper → List Oper
  | [] => []
  | [z] => [z]
  | _ :: p :: r => lastOf (p :: r)
theorem mute_split : ∀ l : List Oper, l ≠ [] → ∃ h z, l = h ++ [z] ∧ mute l = h ++ [idle z] ∧ lastOf l = [z]
  | [], hn => absurd rfl hn
  | [z], _ => ⟨[], z, rfl, rfl, rfl⟩
  | o :: p :: r, _ => by
    obtain ⟨h, z, e1, e2, e3⟩ := mute_split (p :: r) (by simp)
    exact ⟨o :: h, z, by rw [e1]; rfl, by show o :: mute (p :: r) = _; rw [e2]; rfl, e3⟩

/-- What is asked of a region: its last operation stands under no guard, leaves nothing, waits for every other one; whatever waits, waits for what stands ahead of it. -/
def lastB (l : List Oper) : Bool :=
  match lastOf l with
  | [z] => z.guard.isNone && z.dst.isNone && ((List.range (l.length - 1)).all fun i => (z.after.any fun e => Region.binds .any e && e.on == i) || (z.after.any fun e => Region.binds .any e && match l[e.on]? with | some o => (o.after.any fun e2 => Region.binds .any e2 && e2.on == i) | none => false)) &&
      ((List.range l.length).all fun i => match l[i]? with | some o => o.after.all fun e => !Region.binds .any e || decide (e.on < i) | none => true)
  | _ => false

theorem first_false (p : Nat → Bool) : ∀ n, p n = false → ∃ i, i ≤ n ∧ p i = false ∧ ∀ j, j < i → p j = true := by
  intro n
  induction n using Nat.strongRecOn with
  | _ n ih =>
    intro hn
    rcases Classical.em (∃ j, j < n ∧ p j = false) with ⟨j, hj, hp⟩ | hno
    · obtain ⟨i, hi, h⟩ := ih j hj hp
      exact ⟨i, by omega, h⟩
    · exact ⟨n, Nat.le_refl _, hn, fun j hj => by cases hp : p j with | true => rfl | false => exact absurd ⟨j, hj, hp⟩ hno⟩

theorem marked {listed : Array Bool} {i : Nat} (hi : i < listed.size) (h : listed.getD i true = true) : listed.getD i false = true := by
  simp [hi] at h ⊢; exact h

section
variable {P : Program} {C : World → Prop} {h : List Oper} {z : Oper}

theorem at_head (y : Oper) {i : Nat} (hi : i < h.length) : (h ++ [y]).toArray[i]? = h[i]? := by
  rw [List.getElem?_toArray, List.getElem?_append_left hi]
theorem at_last (y : Oper) : (h ++ [y]).toArray[h.length]? = some y := by simp
theorem at_none (y : Oper) {i : Nat} (hi : h.length < i) : (h ++ [y]).toArray[i]? = none := by
  rw [List.getElem?_toArray]
  exact List.getElem?_eq_none (by simp; omega)

/-- Any property that doesn't look at what an operation does is the same of both rows. -/
theorem same_of {α : Type} (f : Oper → α) (hf : f (idle z) = f z) (i : Nat) : ((h ++ [idle z]).toArray[i]?).map f = ((h ++ [z]).toArray[i]?).map f := by
  rcases Nat.lt_trichotomy i h.length with hi | hi | hi
  · rw [at_head _ hi, at_head _ hi]
  · subst hi; rw [at_last, at_last]; simp [hf]
  · rw [at_none _ hi, at_none _ hi]
theorem ready_same (listed : Array Bool) : Region.ready .any (h ++ [idle z]).toArray listed = Region.ready .any (h ++ [z]).toArray listed := by
  unfold Region.ready
  have hs : (h ++ [idle z]).toArray.size = (h ++ [z]).toArray.size := by simp
  rw [hs]
  congr 1
  funext i
  rw [same_of (fun o : Oper => o.after.all fun e => !Region.binds .any e || listed.getD e.on false) rfl i]
theorem yielded_same : yielded (h ++ [idle z]).toArray = yielded (h ++ [z]).toArray := by
  funext tmps j
  unfold yielded
  have := same_of (h := h) (z := z) (fun o : Oper => o.dst) rfl j
  rw [show ((h ++ [idle z]).toArray[j]?).bind (·.dst) = (((h ++ [idle z]).toArray[j]?).map (·.dst)).bind id from by cases (h ++ [idle z]).toArray[j]? <;> rfl, this]
  congr 1
  cases (h ++ [z]).toArray[j]? <;> rfl

theorem getD_set_up {listed : Array Bool} {i k : Nat} (h : listed.getD k false = true) : (listed.setIfInBounds i true).getD k false = true := by
  by_cases e : i = k
  · subst e
    have hk : i < listed.size := by
      rcases Nat.lt_or_ge i listed.size with h1 | h1
      · exact h1
      · simp [h1] at h
    simp [hk]
  · rw [getD_set_ne false e]; exact h
/-- Whatever is listed waited for nothing that isn't. -/
def Closed (ops : Array Oper) (listed : Array Bool) : Prop := ∀ j o, ops[j]? = some o → listed.getD j false = true → ∀ e ∈ o.after, Region.binds .any e = true → listed.getD e.on false = true
/-- Whatever order, from here on: from the row with its last operation put aside to the row itself. -/
theorem any_of_muted {Q : Exit → Act → World → Prop} (hg : z.guard = none) (hd : z.dst = none) (hw : ∀ i, i < h.length → (∃ e ∈ z.after, Region.binds .any e = true ∧ e.on = i) ∨ ∃ e ∈ z.after, Region.binds .any e = true ∧ ∃ o, (h ++ [z]).toArray[e.on]? = some o ∧ ∃ e2 ∈ o.after, Region.binds .any e2 = true ∧ e2.on = i)
    (hb : ∀ i o, (h ++ [z]).toArray[i]? = some o → ∀ e ∈ o.after, Region.binds .any e = true → e.on < i) :
    ∀ (f : Nat) (listed : Array Bool) (a : Act) (w : World), listed.size = h.length + 1 → listed.getD h.length true = false → C w → Closed (h ++ [z]).toArray listed →
      wpAnyQ P .any (h ++ [idle z]).toArray C (fun a' => ∀ w', C w' → wpList P (h ++ [z]).toArray Q [z] a' w') f listed a → wpAny P .any (h ++ [z]).toArray Q f listed a w := by
  have live : ∀ listed : Array Bool, listed.size = h.length + 1 → listed.getD h.length true = false → Region.ready .any (h ++ [z]).toArray listed ≠ [] := by
    intro listed hs hl e
    obtain ⟨i, hi, h1, h2⟩ := first_false (fun i => listed.getD i true) h.length hl
    obtain ⟨o, ho⟩ : ∃ o, (h ++ [z]).toArray[i]? = some o := by
      rcases Nat.lt_or_ge i h.length with hlt | hge
      · exact ⟨h[i], by rw [at_head _ hlt, List.getElem?_eq_getElem hlt]⟩
      · obtain rfl : i = h.length := by omega
        exact ⟨z, at_last z⟩
    have : i ∈ Region.ready .any (h ++ [z]).toArray listed := mem_ready.2 ⟨h1, o, ho, fun ed he hbd => by
      have hlt := hb i o ho ed he hbd
      exact marked (by omega) (h2 ed.on hlt)⟩
    rw [e] at this
    cases this
  intro f
  induction f with
  | zero =>
    intro listed a w hs hl _ _ H
    have := H.1
    rw [ready_same] at this
    exact absurd this (live listed hs hl)
  | succ f ih =>
    intro listed a w hs hl hC hcl H
    refine ⟨fun e => absurd e (live listed hs hl), fun i hi => ?_⟩
    have Hi := H.2 i (by rw [ready_same]; exact hi)
    by_cases hin : i = h.length
    · subst hin
      obtain ⟨_, o, ho, hall⟩ := mem_ready.1 hi
      obtain rfl : z = o := Option.some.inj ((at_last z).symm.trans ho)
      have done : Region.ready .any (h ++ [z]).toArray (listed.setIfInBounds h.length true) = [] := by
        refine List.eq_nil_iff_forall_not_mem.2 fun j hj => ?_
        obtain ⟨h0, o', ho', _⟩ := mem_ready.1 hj
        have hjl : j < h.length + 1 := by
          have := (Array.getElem?_eq_some_iff.1 ho').1
          simpa using this
        by_cases hjn : h.length = j
        · rw [← hjn] at h0
          simp [hs] at h0
        · rw [getD_set_ne true hjn] at h0
          have h1 : listed.getD j false = true := by
            rcases hw j (by omega) with ⟨e, he, hbd, hon⟩ | ⟨e, he, hbd, o2, ho2, e2, he2, hbd2, hon2⟩
            · rw [← hon]; exact hall e he hbd
            · rw [← hon2]; exact hcl _ _ ho2 (hall e he hbd) e2 he2 hbd2
          have hjs : j < listed.size := by omega
          simp [hjs] at h0 h1
          rw [h0] at h1
          cases h1
      have HQ : ∀ w', C w' → wpList P (h ++ [z]).toArray Q [z] a w' := by
        unfold qOp at Hi
        rw [at_last] at Hi
        have hwant : Region.wanted (idle z) (yielded (h ++ [idle z]).toArray a.tmps) = true := by
          unfold Region.wanted
          rw [show (idle z).guard = none from hg]
        simp only [hwant, if_true] at Hi
        obtain ⟨v, _, Hn⟩ := Hi
        have hput : a.put (idle z).dst v = a := by rw [show (idle z).dst = none from hd]; rfl
        rw [hput] at Hn
        cases f with
        | zero => exact Hn.2
        | succ f => exact Hn.1 (by rw [ready_same]; exact done)
      have Hz : wpOp P (h ++ [z]).toArray Q h.length (wpList P (h ++ [z]).toArray Q []) a w := by
        unfold wpOp
        rw [at_last]
        exact HQ w hC
      refine wpOp_mono (fun a' w' hq => ?_) Hz
      cases f with
      | zero => exact ⟨done, hq⟩
      | succ f => exact ⟨fun _ => hq, fun j hj => by rw [done] at hj; cases hj⟩
    · have hil : i < h.length := by
        obtain ⟨_, o, ho, _⟩ := mem_ready.1 hi
        have := (Array.getElem?_eq_some_iff.1 ho).1
        simp at this
        omega
      have Hi' : qOp P (h ++ [z]).toArray C i (wpAnyQ P .any (h ++ [idle z]).toArray C (fun a' => ∀ w', C w' → wpList P (h ++ [z]).toArray Q [z] a' w') f (listed.setIfInBounds i true)) a := by
        unfold qOp at Hi ⊢
        rw [at_head _ hil] at Hi ⊢
        rw [yielded_same] at Hi
        exact Hi
      have hcl2 : Closed (h ++ [z]).toArray (listed.setIfInBounds i true) := by
        intro j o ho hj e he hbd
        by_cases hji : i = j
        · subst hji
          obtain ⟨_, o', ho', hall⟩ := mem_ready.1 hi
          obtain rfl : o' = o := Option.some.inj (ho'.symm.trans ho)
          exact getD_set_up (hall e he hbd)
        · rw [getD_set_ne false hji] at hj
          exact getD_set_up (hcl j o ho hj e he hbd)
      exact wpOp_of_qOp hC (fun a' w' hw' H' => ih _ a' w' (by simpa using hs) (by rw [getD_set_ne true (by omega)]; exact hl) hw' hcl2 H') Hi'
end

/-- One walk in the order of the text; behind it, in every world of the class, the last operation. -/
theorem wp_region_last {P : Program} {C : World → Prop} {id : Nat} {Q : Exit → Act → World → Prop} {a : Act} {w : World} {l : List Oper} (hm : P.follows .mixedOrders = true) (hB : Region.lexB .any (mute l).toArray = true) (hL : lastB l = true)
    (hC : C { w with drawn := w.drawn + 1 })
    (hq : wpQuiet P (mute l).toArray C (fun a' => ∀ w', C w' → wpList P l.toArray Q (lastOf l) a' w') (mute l) a) : (Code.region id l.toArray true).wp P Q a w := by
  have hne : l ≠ [] := by intro e; subst e; cases hL
  obtain ⟨h, z, e1, e2, e3⟩ := mute_split l hne
  unfold lastB at hL
  rw [e3] at hL
  simp only [Bool.and_eq_true, Option.isNone_iff_eq_none] at hL
  obtain ⟨⟨⟨hg, hd⟩, hw⟩, hb⟩ := hL
  rw [e2] at hB hq
  rw [e3] at hq
  subst e1
  simp only [Region.lexB, Bool.and_eq_true] at hB
  refine wp_region_any hm ?_
  have H := wpAnyQ_lex (P := P) (C := C) (md := .any) hB.1 (h ++ [idle z]) 0 (Array.replicate (h ++ [idle z]).toArray.size false) a (by simp) (by simpa using hB.2) hq
  have hs : (h ++ [idle z]).toArray.size = (h ++ [z]).toArray.size := by simp
  rw [hs, show (h ++ [idle z]).length = (h ++ [z]).toArray.size by simp] at H
  refine any_of_muted hg hd (fun i hi => ?_) (fun i o ho e he hbd => ?_) _ _ _ _ (by simp) (by simp) hC (fun j o _ hj => by rw [show (Array.replicate (h ++ [z]).toArray.size false).getD j false = false from by unfold Array.getD; split <;> simp] at hj; cases hj) H
  · have := List.all_eq_true.1 hw i (List.mem_range.2 (by simp; exact hi))
    rw [Bool.or_eq_true] at this
    rcases this with this | this
    · obtain ⟨e, he, hh⟩ := Array.any_eq_true'.1 this
      simp only [Bool.and_eq_true, beq_iff_eq] at hh
      exact Or.inl ⟨e, he, hh.1, hh.2⟩
    · obtain ⟨e, he, hh⟩ := Array.any_eq_true'.1 this
      rw [Bool.and_eq_true] at hh
      obtain ⟨h1, h2⟩ := hh
      cases ho : (h ++ [z])[e.on]? with
      | none => rw [ho] at h2; cases h2
      | some o =>
        rw [ho] at h2
        obtain ⟨e2, he2, hh2⟩ := Array.any_eq_true'.1 h2
        simp only [Bool.and_eq_true, beq_iff_eq] at hh2
        exact Or.inr ⟨e, he, h1, o, by rw [List.getElem?_toArray]; exact ho, e2, he2, hh2.1, hh2.2⟩
  · have hi : i < (h ++ [z]).length := by
      have := (Array.getElem?_eq_some_iff.1 ho).1
      simpa using this
    have := List.all_eq_true.1 hb i (List.mem_range.2 hi)
    rw [List.getElem?_toArray] at ho
    rw [ho] at this
    have h2 := Array.all_eq_true_iff_forall_mem.1 this e he
    simpa [hbd] using h2

/-- At the class 'of what lay there nothing has turned'. -/
theorem wp_region_below_last {P : Program} {id : Nat} {Q : Exit → Act → World → Prop} {a : Act} {w : World} {l : List Oper} (hm : P.follows .mixedOrders = true) (hB : Region.lexB .any (mute l).toArray = true) (hL : lastB l = true)
    (hq : wpQuiet P (mute l).toArray (fun w' => ∃ p : Regrown, w' = grow (redrawn w p.d) p.os) (fun a' => ∀ w', (∃ p : Regrown, w' = grow (redrawn w p.d) p.os) → wpList P l.toArray Q (lastOf l) a' w') (mute l) a) : (Code.region id l.toArray true).wp P Q a w :=
  wp_region_last (C := fun w' => ∃ p : Regrown, w' = grow (redrawn w p.d) p.os) hm hB hL ⟨⟨w.drawn + 1, #[]⟩, by rw [grow_empty]; rfl⟩ hq
end Go.Proofs.YtbpklbhaoemkkabDoor
