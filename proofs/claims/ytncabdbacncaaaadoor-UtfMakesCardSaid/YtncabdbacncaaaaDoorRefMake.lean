/- The reference's Make, walked. -/
import Derived.Test.YtncabdbacncaaaaDoorRowLib
import Derived.Test.YtncabdbacncaaaaDoorBits
import Derived.Laws.BytesArg
namespace Go.Proofs.YtncabdbacncaaaaDoor
open Go.RowKit Go.Sort

/-- string of a slice of bytes that was just made. -/
theorem conv_bytes (W : World) (xs : List Int) : Sem.run Tryd.prog (convert 39 9 (.slice (some ⟨W.heap.size, 0, none⟩) xs.length xs.length)) (W.alloc (.cells (xs.map (Value.int .u8)).toArray 5)) = .ok (.string (strOfNums xs)) (W.alloc (.cells (xs.map (Value.int .u8)).toArray 5)) :=
  run_convert_bytes_arg _ 39 5 Tryd.underlying39 Tryd.underlying5 W.heap.size 0 xs.length xs.length xs rfl (fun i hi => by
    rw [Nat.zero_add, World.cell?_alloc_new]
    simp [List.getD_eq_getElem?_getD, hi]) 9 Tryd.underlying9

theorem str_enc {xs : List Int} {c : Int} (h : Lib.encodeRuneZ c = xs) : strOfNums xs = ⟨(enc c).toArray⟩ := by
  subst h
  unfold strOfNums enc Lib.encodeRune
  rfl
theorem tor_of {v : Int} (h : (0 ≤ v ∧ v < 55296) ∨ (57344 ≤ v ∧ v ≤ 1114111)) : tor v = v := by unfold tor; rw [if_pos h]

set_option maxHeartbeats 1000000 in
set_option maxRecDepth 100000 in
theorem refmake_one (v : Int) (h0 : 0 ≤ v) (h1 : v < 128) (w : World) :
    Calls Tryd.prog 23 #[.int .i64 v] w fun e w' => e = .returned (.string ⟨(enc (tor v)).toArray⟩) ∧ Below w.heap.size w w' := by
  have hE : Hid ((⟨(enc (tor v)).toArray⟩ : ByteArray) = strOfNums [v % 256]) := by
    show _ = _
    rw [tor_of (by omega), str_enc (c := v) (by rw [Lib.encodeRuneZ_one h0 (by omega)]; congr 1; omega)]
  rw [hE.out]
  have hm : v % 256 = v := by omega
  have hcv := conv_bytes w [v % 256]
  rw [hm] at hcv ⊢
  simp only [List.map_cons, List.map_nil, List.length_cons, List.length_nil] at hcv
  clear hE hm
  go_enter Tryd.func23, Tryd.ntmps23
  go_wp2
  go_ret
  exact ⟨rfl, (Below.refl _ _).alloc (Nat.le_refl _) _⟩

set_option maxHeartbeats 1000000 in
set_option maxRecDepth 100000 in
theorem refmake_two (v : Int) (h0 : 128 ≤ v) (h1 : v < 2048) (w : World) :
    Calls Tryd.prog 23 #[.int .i64 v] w fun e w' => e = .returned (.string ⟨(enc (tor v)).toArray⟩) ∧ Below w.heap.size w w' := by
  have hE : Hid ((⟨(enc (tor v)).toArray⟩ : ByteArray) = strOfNums [192 + v / 64, 128 + v % 64]) := by
    show _ = _
    rw [tor_of (by omega), str_enc (c := v) (by rw [Lib.encodeRuneZ_two h0 (by omega)])]
  rw [hE.out]
  have q1 := i64_or192 (v / 64) (by omega) (by omega)
  have q2 := i64_and63 v (by omega) (by omega)
  have q3 := i64_or6 128 (v % 64) (by omega) (by omega) (by omega) (by omega) (by omega)
  have m1 : (192 + v / 64) % 256 = 192 + v / 64 := by omega
  have m2 : (128 + v % 64) % 256 = 128 + v % 64 := by omega
  have hcv := conv_bytes w [192 + v / 64, 128 + v % 64]
  simp only [List.map_cons, List.map_nil, List.length_cons, List.length_nil] at hcv
  clear hE
  go_enter Tryd.func23, Tryd.ntmps23
  go_wp2
  go_ret
  exact ⟨rfl, (Below.refl _ _).alloc (Nat.le_refl _) _⟩

set_option maxHeartbeats 1000000 in
set_option maxRecDepth 100000 in
theorem refmake_three (v : Int) (h0 : 2048 ≤ v) (h1 : v < 65536) (hs : v < 55296 ∨ 57344 ≤ v) (w : World) :
    Calls Tryd.prog 23 #[.int .i64 v] w fun e w' => e = .returned (.string ⟨(enc (tor v)).toArray⟩) ∧ Below w.heap.size w w' := by
  have hE : Hid ((⟨(enc (tor v)).toArray⟩ : ByteArray) = strOfNums [224 + v / 4096, 128 + v / 64 % 64, 128 + v % 64]) := by
    show _ = _
    rw [tor_of (by omega), str_enc (c := v) (by rw [Lib.encodeRuneZ_three (by omega)])]
  rw [hE.out]
  have q1 := i64_or224 (v / 4096) (by omega) (by omega)
  have q2 := i64_and63 v (by omega) (by omega)
  have q4 := i64_and63 (v / 64) (by omega) (by omega)
  have q3 := i64_or6 128 (v % 64) (by omega) (by omega) (by omega) (by omega) (by omega)
  have q5 := i64_or6 128 (v / 64 % 64) (by omega) (by omega) (by omega) (by omega) (by omega)
  have m1 : (224 + v / 4096) % 256 = 224 + v / 4096 := by omega
  have m2 : (128 + v / 64 % 64) % 256 = 128 + v / 64 % 64 := by omega
  have m3 : (128 + v % 64) % 256 = 128 + v % 64 := by omega
  have hcv := conv_bytes w [224 + v / 4096, 128 + v / 64 % 64, 128 + v % 64]
  simp only [List.map_cons, List.map_nil, List.length_cons, List.length_nil] at hcv
  clear hE
  rcases hs with hs | hs
  all_goals
    go_enter Tryd.func23, Tryd.ntmps23
    go_wp2
    go_ret
    exact ⟨rfl, (Below.refl _ _).alloc (Nat.le_refl _) _⟩

set_option maxHeartbeats 1000000 in
set_option maxRecDepth 100000 in
theorem refmake_four (v : Int) (h0 : 65536 ≤ v) (h1 : v ≤ 1114111) (w : World) :
    Calls Tryd.prog 23 #[.int .i64 v] w fun e w' => e = .returned (.string ⟨(enc (tor v)).toArray⟩) ∧ Below w.heap.size w w' := by
  have hE : Hid ((⟨(enc (tor v)).toArray⟩ : ByteArray) = strOfNums [240 + v / 262144, 128 + v / 4096 % 64, 128 + v / 64 % 64, 128 + v % 64]) := by
    show _ = _
    rw [tor_of (by omega), str_enc (c := v) (by rw [Lib.encodeRuneZ_four h0 h1])]
  rw [hE.out]
  have q1 := i64_or240 (v / 262144) (by omega) (by omega)
  have q2 := i64_and63 v (by omega) (by omega)
  have q4 := i64_and63 (v / 64) (by omega) (by omega)
  have q6 := i64_and63 (v / 4096) (by omega) (by omega)
  have q3 := i64_or6 128 (v % 64) (by omega) (by omega) (by omega) (by omega) (by omega)
  have q5 := i64_or6 128 (v / 64 % 64) (by omega) (by omega) (by omega) (by omega) (by omega)
  have q7 := i64_or6 128 (v / 4096 % 64) (by omega) (by omega) (by omega) (by omega) (by omega)
  have m1 : (240 + v / 262144) % 256 = 240 + v / 262144 := by omega
  have m4 : (128 + v / 4096 % 64) % 256 = 128 + v / 4096 % 64 := by omega
  have m2 : (128 + v / 64 % 64) % 256 = 128 + v / 64 % 64 := by omega
  have m3 : (128 + v % 64) % 256 = 128 + v % 64 := by omega
  have hcv := conv_bytes w [240 + v / 262144, 128 + v / 4096 % 64, 128 + v / 64 % 64, 128 + v % 64]
  simp only [List.map_cons, List.map_nil, List.length_cons, List.length_nil] at hcv
  clear hE
  go_enter Tryd.func23, Tryd.ntmps23
  go_wp2
  go_ret
  exact ⟨rfl, (Below.refl _ _).alloc (Nat.le_refl _) _⟩

set_option maxHeartbeats 1000000 in
set_option maxRecDepth 100000 in
theorem refmake_bad (v : Int) (h : v < 0 ∨ (55296 ≤ v ∧ v < 57344) ∨ 1114111 < v) (w : World) :
    Calls Tryd.prog 23 #[.int .i64 v] w fun e w' => e = .returned (.string ⟨(enc (tor v)).toArray⟩) ∧ Below w.heap.size w w' := by
  have hE : Hid ((⟨(enc (tor v)).toArray⟩ : ByteArray) = ⟨#[239, 191, 189]⟩) := by
    show _ = _
    have : tor v = 65533 := by unfold tor; rw [if_neg (by omega)]
    rw [this]
    decide +kernel
  rw [hE.out]
  clear hE
  rcases h with h | ⟨h, h'⟩ | h
  all_goals
    go_enter Tryd.func23, Tryd.ntmps23
    go_wp2
    go_ret
    exact ⟨rfl, Below.refl _ _⟩

theorem refmake_any (v : Int) (w : World) :
    Calls Tryd.prog 23 #[.int .i64 v] w fun e w' => e = .returned (.string ⟨(enc (tor v)).toArray⟩) ∧ Below w.heap.size w w' := by
  by_cases hb : v < 0 ∨ (55296 ≤ v ∧ v < 57344) ∨ 1114111 < v
  · exact refmake_bad v hb w
  · by_cases h1 : v < 128
    · exact refmake_one v (by omega) h1 w
    · by_cases h2 : v < 2048
      · exact refmake_two v (by omega) h2 w
      · by_cases h3 : v < 65536
        · exact refmake_three v (by omega) h3 (by omega) w
        · exact refmake_four v (by omega) (by omega) w
end Go.Proofs.YtncabdbacncaaaaDoor
