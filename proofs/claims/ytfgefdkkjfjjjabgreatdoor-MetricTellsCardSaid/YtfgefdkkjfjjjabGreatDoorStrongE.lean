/- The rules of counting where all tables lie as the library has them; what a rope counts. -/
import Derived.Test.YtfgefdkkjfjjjabGreatDoorMetMath
import Derived.Test.YtfgefdkkjfjjjabGreatDoorRpE
namespace Go.Proofs.YtfgefdkkjfjjjabGreatDoor
open Go.RowKit Go.Sort
set_option linter.unusedSimpArgs false
set_option linter.unusedVariables false

/-- A count of pieces, together. -/
def ksum (f : List Int → Int) (ls : List ByteArray) : Int := (ls.map fun s => f (pts s.data.toList)).sum
theorem ksum_append (f : List Int → Int) (a b : List ByteArray) : ksum f (a ++ b) = ksum f a + ksum f b := by unfold ksum; rw [List.map_append, List.sum_append]
theorem ksum_cat (f : List Int → Int) (h0 : f [] = 0) (hf : ∀ a b, f (a ++ b) = f a + f b) : ∀ (ls : List ByteArray), (∀ s ∈ ls, vld s.data.toList = true) → ksum f ls = f (pts (cat ls))
  | [], _ => by rw [cat_nil, pts_nil, h0]; rfl
  | s :: ls, h => by
    have e : ksum f (s :: ls) = f (pts s.data.toList) + ksum f ls := by unfold ksum; simp
    rw [e, cat_cons, pts_append (h s (by simp)), hf, ksum_cat f h0 hf ls (fun x hx => h x (by simp [hx]))]
theorem kB_size {s : ByteArray} (h : vld s.data.toList = true) : kB (pts s.data.toList) = (s.size : Nat) := by
  unfold kB
  rw [flat_pts' h, bytes_length]

/-- The rules. -/
def strongE (tb : Nat × Nat) : Env where
  KR := fun ls x0 x1 x2 x3 => x0 = wrap64 ((ls.map ByteArray.size).sum : Nat) ∧ x1 = wrap64 (ksum kP ls) ∧ x2 = wrap64 (ksum kU ls) ∧ x3 = wrap64 (ksum kL ls)
  Tb := fun w => Tabs w tb
  D := fun s => s.size ≤ 1000000 ∧ vld s.data.toList = true
  zero := by simp [wrap64, ksum]
  plus := by
    intro a b x0 x1 x2 x3 y0 y1 y2 y3 h1 h2
    obtain ⟨rfl, rfl, rfl, rfl⟩ := h1
    obtain ⟨rfl, rfl, rfl, rfl⟩ := h2
    rw [List.map_append, List.sum_append, ksum_append, ksum_append, ksum_append]
    unfold wrap64
    refine ⟨?_, ?_, ?_, ?_⟩ <;> omega
  bytes := fun h => h.1
  later := fun h hb => h.later hb
  of := fun s hD W hW => (of_any s W tb (by have := hD.1; omega) hW).mono fun e w' ⟨he, hb⟩ => ⟨_, _, _, _, he, by
    have h1 := k_range (pts s.data.toList)
    have h2 := pts_length s.data.toList
    rw [bytes_length] at h2
    have h3 := hD.1
    have h4 := kB_size hD.2
    have h5 : kP (pts s.data.toList) ≤ 1000000 := by unfold kP; omega
    have z : ∀ f, ksum f [s] = f (pts s.data.toList) := fun f => by simp [ksum]
    show _ = wrap64 (([s].map ByteArray.size).sum : Nat) ∧ _
    rw [z, z, z, show ([s].map ByteArray.size).sum = s.size from by simp]
    unfold wrap64
    refine ⟨?_, ?_, ?_, ?_⟩ <;> omega, hb⟩
theorem strong_tab (tb : Nat × Nat) (W : World) (h : (strongE tb).Tb W) : Tab W tb := (show Tabs W tb from h).own
theorem strong_Dt (tb : Nat × Nat) {t : List UInt8} (hl : t.length ≤ 1000000) : Dt (strongE tb) t := by
  intro a b c e _ hv _ s hs
  show s.size ≤ 1000000 ∧ vld s.data.toList = true
  refine ⟨?_, by rw [hs]; exact hv⟩
  rw [← bytes_length, hs]
  have := congrArg List.length e
  simp at this
  omega

/-- A rope of a text, in a world where all tables lie; the text is Valid. -/
theorem rpa_valid {E : Env} {w : World} {r : Value} {T : List UInt8} (h : RpA E w r T) : vld T = true := by
  obtain ⟨g, ls, _, ⟨u, _, _, hI⟩, rfl⟩ := h
  exact cat_valid hI.1
/-- Counts. -/
theorem rpa_counts (tb : Nat × Nat) {r : Value} {T : List UInt8} {w : World} (h : RpA (strongE tb) w r T) (hz : T.length ≤ 100000) :
    Calls Tryz.prog 46 #[r] w fun e w' => e = .returned (.agg #[.int .i64 (T.length : Nat), .int .i64 (kP (pts T)), .int .i64 (kU (pts T)), .int .i64 (kL (pts T))]) ∧ Below w.heap.size w w' := by
  obtain ⟨g, ls, _, ⟨u, h1, h2, hI⟩, rfl⟩ := h
  obtain ⟨x0, x1, x2, x3, hk, hs⟩ := h2.sum
  have hv : ∀ s ∈ ls, vld s.data.toList = true := fun s hs => (hI.1 s hs).1
  have hc := counts_any (strongE tb) r u ls x0 x1 x2 x3 w h1 h2 hs
  have e0 : x0 = ((cat ls).length : Nat) := by rw [cat_length] at hz ⊢; exact KR_bytes hk hz
  obtain ⟨_, e1, e2, e3⟩ := (show x0 = wrap64 ((ls.map ByteArray.size).sum : Nat) ∧ x1 = wrap64 (ksum kP ls) ∧ x2 = wrap64 (ksum kU ls) ∧ x3 = wrap64 (ksum kL ls) from hk)
  rw [ksum_cat kP rfl kP_append ls hv] at e1
  rw [ksum_cat kU rfl kU_append ls hv] at e2
  rw [ksum_cat kL rfl kL_append ls hv] at e3
  have q1 := k_range (pts (cat ls))
  have q2 := pts_length (cat ls)
  have q3 : kP (pts (cat ls)) ≤ 100000 := by unfold kP; omega
  rw [e0, e1, e2, e3, show wrap64 (kP (pts (cat ls))) = kP (pts (cat ls)) from by unfold wrap64; omega, show wrap64 (kU (pts (cat ls))) = kU (pts (cat ls)) from by unfold wrap64; omega, show wrap64 (kL (pts (cat ls))) = kL (pts (cat ls)) from by unfold wrap64; omega] at hc
  exact hc
end Go.Proofs.YtfgefdkkjfjjjabGreatDoor
