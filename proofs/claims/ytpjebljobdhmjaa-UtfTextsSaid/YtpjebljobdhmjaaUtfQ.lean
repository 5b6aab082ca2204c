/-
  Walks: what is wrong with a text, and how long its longest whole beginning is; the document's examples.
-/
import Derived.Test.YtpjebljobdhmjaaRows
import Derived.Test.YtpjebljobdhmjaaUtfP
namespace Go.Proofs.Ytpjebljobdhmjaa
open Go.RowKit

/-- The last place up to k that goes. -/
def goesUp (s : ByteArray) : Nat → Nat
  | 0 => 0
  | k + 1 => if stateAt s (k + 1) = -1 then goesUp s k else k + 1
def goesN (s : ByteArray) : Nat := goesUp s s.size
/-- The last place up to k that is whole. -/
def wholeUp (s : ByteArray) : Nat → Nat
  | 0 => 0
  | k + 1 => if stateAt s (k + 1) = 0 then k + 1 else wholeUp s k
def wholeN (s : ByteArray) : Nat := wholeUp s s.size

theorem stateAt_end (s : ByteArray) (j : Nat) (h : s.size < j) : stateAt s j = -1 :=
  stateAt_fail s (s.size + 1) j (by show (if s.size < s.size then _ else -1) = -1; rw [if_neg (by omega)]) h

theorem goesUp_is (s : ByteArray) (k : Nat) : goesUp s k ≤ k ∧ stateAt s (goesUp s k) ≠ -1 ∧ ∀ j, goesUp s k < j → j ≤ k → stateAt s j = -1 := by
  induction k with
  | zero => exact ⟨Nat.le_refl _, by show (0 : Int) ≠ -1; omega, fun j h1 h2 => by have : goesUp s 0 = 0 := rfl; omega⟩
  | succ k ih =>
    unfold goesUp
    split
    · rename_i h
      refine ⟨by omega, ih.2.1, fun j h1 h2 => ?_⟩
      by_cases e : j = k + 1
      · rw [e]; exact h
      · exact ih.2.2 j h1 (by omega)
    · rename_i h
      exact ⟨Nat.le_refl _, h, fun j h1 h2 => by omega⟩

theorem goesN_is (s : ByteArray) : Goes s (goesN s) := by
  obtain ⟨h1, h2, h3⟩ := goesUp_is s s.size
  refine ⟨h1, h2, ?_⟩
  show stateAt s (goesN s + 1) = -1
  by_cases h : goesN s + 1 ≤ s.size
  · exact h3 _ (Nat.lt_succ_self _) h
  · exact stateAt_end s _ (by omega)

theorem wholeUp_is (s : ByteArray) (k : Nat) : wholeUp s k ≤ k ∧ stateAt s (wholeUp s k) = 0 ∧ ∀ j, wholeUp s k < j → j ≤ k → stateAt s j ≠ 0 := by
  induction k with
  | zero => exact ⟨Nat.le_refl _, rfl, fun j h1 h2 => by have : wholeUp s 0 = 0 := rfl; omega⟩
  | succ k ih =>
    unfold wholeUp
    split
    · rename_i h
      exact ⟨Nat.le_refl _, h, fun j h1 h2 => by omega⟩
    · rename_i h
      refine ⟨by omega, ih.2.1, fun j h1 h2 => ?_⟩
      by_cases e : j = k + 1
      · rw [e]; exact h
      · exact ih.2.2 j h1 (by omega)

theorem wholeN_is (s : ByteArray) : Whole s (wholeN s) := by
  obtain ⟨h1, h2, h3⟩ := wholeUp_is s s.size
  refine ⟨h1, h2, fun j hj => ?_⟩
  by_cases h : j ≤ s.size
  · exact h3 j hj h
  · rw [stateAt_end s j (by omega)]; omega

theorem whole_goes (s : ByteArray) : wholeN s ≤ goesN s := by
  have h1 := wholeN_is s
  have h2 := goesN_is s
  refine Classical.byContradiction fun h => ?_
  have := stateAt_fail s (goesN s + 1) (wholeN s) h2.2.2 (by omega)
  rw [h1.2.1] at this
  omega

theorem run0_any (s : ByteArray) (w : World) (hs : s.size ≤ maxLen) : Calls Try.prog 17 #[.int .i64 0, .string s] w (fun e w' => e = .returned (.tuple #[.int .i64 (stateAt s (goesN s)), .int .i64 (goesN s)]) ∧ w = w') := by
  refine (run_any 0 s w hs (by omega)).mono ?_
  rintro e w' ⟨t, n, ⟨h1, h2, h3, h4, _⟩, rfl, rfl⟩
  rw [stFrom_at] at h2 h4
  have hn : n = goesN s := goes_unique s n (goesN s) ⟨h1, by rw [h2]; exact h3, h4⟩ (goesN_is s)
  exact ⟨by rw [← hn, h2], rfl⟩

def validM (s : ByteArray) : Bool := decide (stateAt s s.size = 0)
def badK (s : ByteArray) : Int := if goesN s < s.size then 3 else if stateAt s (goesN s) = 0 then 0 else 12
def badA (s : ByteArray) : Int := if goesN s < s.size then (goesN s : Int) else if stateAt s (goesN s) = 0 then 0 else (goesN s : Int)

theorem badU_any (s : ByteArray) (w : World) (hs : s.size ≤ maxLen) : Calls Try.prog 12 #[.string s] w (Gives (.agg #[.int .i64 (badK s), .int .i64 (badA s)]) w) := by
  apply Gives.of
  have HR := Lib.hid (fun W => run0_any s W hs)
  have hg := (goesN_is s).1
  unfold maxLen at hs
  by_cases h1 : goesN s < s.size
  · have hv : (.agg #[.int .i64 (badK s), .int .i64 (badA s)] : Value) = .agg #[.int .i64 3, .int .i64 (goesN s)] := by unfold badK badA; rw [if_pos h1, if_pos h1]
    rw [hv]
    clear hv
    go_enter Try.func12, Try.ntmps12
    go_wp2_with (go_at_call 17; refine (HR.out _).mono ?_; rintro e w' ⟨rfl, rfl⟩)
    refine bodyPost_ret (v := .agg #[.int .i64 3, .int .i64 (goesN s)]) (by simp (maxDischargeDepth := 8) [results, Try.results12, go_sem]) rfl ⟨rfl, ?_⟩
    (repeat (first | (with_reducible exact Below.refl _ _) | (with_reducible refine later_below _ ?_) | (with_reducible refine alloc_below ?_ _) | (with_reducible refine Below.drew ?_) | (refine Below.setCell ?_ (by first | exact Nat.le_refl _ | (simp; done) | (simp; omega) | omega) _)))
  · by_cases h0 : stateAt s (goesN s) = 0
    · have hv : (.agg #[.int .i64 (badK s), .int .i64 (badA s)] : Value) = .agg #[.int .i64 0, .int .i64 0] := by unfold badK badA; rw [if_neg h1, if_neg h1, if_pos h0, if_pos h0]
      rw [hv]
      clear hv
      rw [h0] at HR
      clear h0
      go_enter Try.func12, Try.ntmps12
      go_wp2_with (go_at_call 17; refine (HR.out _).mono ?_; rintro e w' ⟨rfl, rfl⟩)
      refine bodyPost_ret (v := .agg #[.int .i64 0, .int .i64 0]) (by simp (maxDischargeDepth := 8) [results, Try.results12, go_sem]) rfl ⟨rfl, ?_⟩
      (repeat (first | (with_reducible exact Below.refl _ _) | (with_reducible refine later_below _ ?_) | (with_reducible refine alloc_below ?_ _) | (with_reducible refine Below.drew ?_) | (refine Below.setCell ?_ (by first | exact Nat.le_refl _ | (simp; done) | (simp; omega) | omega) _)))
    · have hv : (.agg #[.int .i64 (badK s), .int .i64 (badA s)] : Value) = .agg #[.int .i64 12, .int .i64 (goesN s)] := by unfold badK badA; rw [if_neg h1, if_neg h1, if_neg h0, if_neg h0]
      rw [hv]
      clear hv
      have h0' : (stateAt s (goesN s) == 0) = false := by simpa using h0
      have h0'' : (stateAt s (goesN s) != 0) = true := by simpa using h0
      clear h0
      go_enter Try.func12, Try.ntmps12
      go_wp2_with (go_at_call 17; refine (HR.out _).mono ?_; rintro e w' ⟨rfl, rfl⟩)
      refine bodyPost_ret (v := .agg #[.int .i64 12, .int .i64 (goesN s)]) (by simp (maxDischargeDepth := 8) [results, Try.results12, go_sem]) rfl ⟨rfl, ?_⟩
      (repeat (first | (with_reducible exact Below.refl _ _) | (with_reducible refine later_below _ ?_) | (with_reducible refine alloc_below ?_ _) | (with_reducible refine Below.drew ?_) | (refine Below.setCell ?_ (by first | exact Nat.le_refl _ | (simp; done) | (simp; omega) | omega) _)))

theorem validM_goes (s : ByteArray) : validM s = true ↔ badK s = 0 := by
  have hg := goesN_is s
  unfold validM badK
  rw [decide_eq_true_eq]
  constructor
  · intro h
    have hn : goesN s = s.size := by
      refine Classical.byContradiction fun hc => ?_
      have := stateAt_fail s (goesN s + 1) s.size hg.2.2 (by have := hg.1; omega)
      omega
    rw [if_neg (by omega), hn, if_pos h]
  · intro h
    split at h
    · omega
    · split at h
      · rename_i h1 h2
        have : goesN s = s.size := by have := hg.1; omega
        rw [← this]; exact h2
      · omega

theorem badA_zero (s : ByteArray) (h : badK s = 0) : badA s = 0 := by
  unfold badK at h
  unfold badA
  split at h
  · omega
  · split at h
    · rename_i h1 h2; rw [if_neg h1, if_pos h2]
    · omega

theorem valid_any (s : ByteArray) (w : World) (hs : s.size ≤ maxLen) : Calls Try.prog 15 #[.string s] w (Gives (.bool (validM s)) w) := by
  apply Gives.of
  have hcell := fun (W : World) (x : Later W) => x.cell
  have HR := Lib.hid (fun W => badU_any s W hs)
  cases h : validM s
  · have hk : ¬ badK s = 0 := fun hc => by rw [(validM_goes s).2 hc] at h; cases h
    have hk' : (badK s == 0) = false := by simpa using hk
    clear h
    go_enter Try.func15, Try.ntmps15
    go_wp2_with (go_at_call 12; (first | (with_reducible refine (later_call _ (HR.out _)).mono ?_) | (with_reducible refine (call_later (HR.out _)).mono ?_)); rintro e w' ⟨rfl, x, rfl⟩)
    go_ret
    refine ⟨rfl, ?_⟩
    (repeat (first | (with_reducible exact Below.refl _ _) | (with_reducible refine later_below _ ?_) | (with_reducible refine alloc_below ?_ _) | (with_reducible refine Below.drew ?_) | (refine Below.setCell ?_ (by first | exact Nat.le_refl _ | (simp; done) | (simp; omega) | omega) _)))
  · have hk := (validM_goes s).1 h
    have ha := badA_zero s hk
    rw [hk, ha] at HR
    clear h hk ha
    go_enter Try.func15, Try.ntmps15
    go_wp2_with (go_at_call 12; (first | (with_reducible refine (later_call _ (HR.out _)).mono ?_) | (with_reducible refine (call_later (HR.out _)).mono ?_)); rintro e w' ⟨rfl, x, rfl⟩)
    go_ret
    refine ⟨rfl, ?_⟩
    (repeat (first | (with_reducible exact Below.refl _ _) | (with_reducible refine later_below _ ?_) | (with_reducible refine alloc_below ?_ _) | (with_reducible refine Below.drew ?_) | (refine Below.setCell ?_ (by first | exact Nat.le_refl _ | (simp; done) | (simp; omega) | omega) _)))

end Go.Proofs.Ytpjebljobdhmjaa
