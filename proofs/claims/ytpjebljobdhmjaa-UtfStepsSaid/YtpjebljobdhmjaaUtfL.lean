/-
  Walks: how long the longest whole beginning is; the document's examples.
-/
import Derived.Test.YtpjebljobdhmjaaRows
import Derived.Test.YtpjebljobdhmjaaUtfQ
namespace Go.Proofs.Ytpjebljobdhmjaa
open Go.RowKit

def onB (b : Int) : Bool := decide (128 ≤ b ∧ b ≤ 191)
theorem on_any (b : Int) (w : World) : Calls Try.prog 22 #[.int .u8 b] w (fun e w' => e = .returned (.bool (onB b)) ∧ w = w') := by
  by_cases h1 : 128 ≤ b
  · by_cases h2 : b ≤ 191
    · have ho : onB b = true := by unfold onB; simp [h1, h2]
      rw [ho]
      clear ho
      go_enter Try.func22, Try.ntmps22
      go_wp2
      go_ret
      exact ⟨rfl, rfl⟩
    · have ho : onB b = false := by unfold onB; simp [h2]
      rw [ho]
      clear ho
      go_enter Try.func22, Try.ntmps22
      go_wp2
      go_ret
      exact ⟨rfl, rfl⟩
  · have ho : onB b = false := by unfold onB; simp [h1]
    rw [ho]
    clear ho
    go_enter Try.func22, Try.ntmps22
    go_wp2
    go_ret
    exact ⟨rfl, rfl⟩

theorem stepI_on (st b : Int) (h0 : st ≠ 0) (h : stepI st b ≠ -1) : onB b = true := by
  unfold onB
  rw [decide_eq_true_eq]
  unfold stepI at h
  rw [if_neg h0] at h
  repeat' split at h
  all_goals omega
theorem stepI_off (b : Int) (_h0 : stepI 0 b ≠ 0) (h : stepI 0 b ≠ -1) : onB b = false := by
  unfold onB
  rw [decide_eq_false_iff_not]
  unfold stepI at h _h0
  rw [if_pos rfl] at h _h0
  split at _h0
  · omega
  · repeat' split at h
    all_goals omega

theorem within_on (s : ByteArray) (j : Nat) (h1 : wholeN s < j) (h2 : j < goesN s) : onB (byt s j) = true := by
  have hw := wholeN_is s
  have hg := goesN_is s
  refine stepI_on (stateAt s j) _ (hw.2.2 j h1) ?_
  have e : stateAt s (j + 1) = stepI (stateAt s j) (byt s j) := by
    show (if j < s.size then _ else -1) = _
    rw [if_pos (by have := hg.1; omega)]
  rw [← e]
  intro hc
  exact hg.2.1 (stateAt_fail s (j + 1) (goesN s) hc (by omega))
theorem within_off (s : ByteArray) (h : wholeN s < goesN s) : onB (byt s (wholeN s)) = false := by
  have hw := wholeN_is s
  have hg := goesN_is s
  have e : stateAt s (wholeN s + 1) = stepI 0 (byt s (wholeN s)) := by
    show (if wholeN s < s.size then _ else -1) = _
    rw [if_pos (by have := hg.1; omega), hw.2.1]
  refine stepI_off _ ?_ ?_
  · rw [← e]; exact hw.2.2 _ (by omega)
  · rw [← e]
    intro hc
    exact hg.2.1 (stateAt_fail s (wholeN s + 1) (goesN s) hc (by omega))

set_option maxHeartbeats 1000000 in
theorem longest_any (s : ByteArray) (w : World) (hs : s.size ≤ maxLen) : Calls Try.prog 16 #[.string s] w (fun e w' => e = .returned (.int .i64 (wholeN s)) ∧ w = w') := by
  have HR := Lib.hid (fun W => run0_any s W hs)
  have hg := (goesN_is s).1
  have hwg := whole_goes s
  unfold maxLen at hs
  by_cases h0 : stateAt s (goesN s) = 0
  · have hv : wholeN s = goesN s := by
      refine Classical.byContradiction fun hc => ?_
      exact (wholeN_is s).2.2 (goesN s) (by omega) h0
    rw [hv]
    clear hv
    rw [h0] at HR
    clear h0
    go_enter Try.func16, Try.ntmps16
    go_wp2_with (go_at_call 17; refine (HR.out _).mono ?_; rintro e w' ⟨rfl, rfl⟩)
    go_ret
    exact ⟨rfl, rfl⟩
  · have hlt : wholeN s < goesN s := by
      refine Classical.byContradiction fun hc => ?_
      have : wholeN s = goesN s := by omega
      rw [← this] at h0
      exact h0 (wholeN_is s).2.1
    have h0' : (stateAt s (goesN s) == 0) = false := by simpa using h0
    clear h0
    have HO := Lib.hid (within_off s hlt)
    have HI := Lib.hid (within_on s)
    go_enter Try.func16, Try.ntmps16
    go_wp2_with (go_at_call 17; refine (HR.out _).mono ?_; rintro e w' ⟨rfl, rfl⟩)
    go_loop [4] (fun n => ∃ j : Nat, wholeN s ≤ j ∧ j < goesN s ∧ n = .int .i64 j) (fun n => (intOf n).toNat)
    case atStart => exact ⟨goesN s - 1, by omega, by omega, by rw [show (((goesN s - 1 : Nat)) : Int) = (goesN s : Int) - 1 by omega]⟩
    case round =>
      obtain ⟨j, hj1, hj2, rfl⟩ := hrel
      have e0 := byt_eq s j (by omega)
      by_cases hj : wholeN s < j
      · have ho := HI.out j hj hj2
        have HC := Lib.hid (fun W => ho ▸ on_any (byt s j) W)
        clear ho
        go_wp2_with (go_at_call 22; refine (HC.out _).mono ?_; rintro e w' ⟨rfl, rfl⟩)
        go_round
        case rel => exact ⟨j - 1, by omega, by omega, by rw [show (((j - 1 : Nat)) : Int) = (j : Int) - 1 by omega]⟩
        case measure => simp [intOf]; omega
      · have hj' : j = wholeN s := by omega
        subst hj'
        have ho := HO.out
        have HC := Lib.hid (fun W => ho ▸ on_any (byt s (wholeN s)) W)
        clear ho
        go_wp2_with (go_at_call 22; refine (HC.out _).mono ?_; rintro e w' ⟨rfl, rfl⟩)
        go_ret
        exact ⟨rfl, rfl⟩

theorem ex1 (w : World) : Calls Try.prog 7 #[.int .i64 0, .int .u8 226] w (fun e w' => e = .returned (.tuple #[.int .i64 2, .bool true]) ∧ w = w') := step_any 0 226 w (by omega) (by omega)
theorem ex2 (w : World) : Calls Try.prog 7 #[.int .i64 2, .int .u8 130] w (fun e w' => e = .returned (.tuple #[.int .i64 1, .bool true]) ∧ w = w') := step_any 2 130 w (by omega) (by omega)
theorem ex3 (w : World) : Calls Try.prog 7 #[.int .i64 1, .int .u8 172] w (fun e w' => e = .returned (.tuple #[.int .i64 0, .bool true]) ∧ w = w') := step_any 1 172 w (by omega) (by omega)
theorem exK : badK ⟨#[226, 40]⟩ = 3 := by decide +kernel
theorem exA : badA ⟨#[226, 40]⟩ = 1 := by decide +kernel
theorem ex4 (w : World) : Calls Try.prog 12 #[.string ⟨#[226, 40]⟩] w (Gives (.agg #[.int .i64 3, .int .i64 1]) w) := by
  have h := badU_any ⟨#[226, 40]⟩ w (by unfold maxLen; decide)
  rw [exK, exA] at h
  exact h

theorem awake_any (w : World) : Calls Try.prog 10 #[] w (Gives (.bool true) w) := by
  apply Gives.of
  have hcell := fun (W : World) (x : Later W) => x.cell
  go_enter Try.func10, Try.ntmps10
  go_wp2_with (first | (go_at_call 7; ((with_reducible refine (ex1 _).mono ?_)); rintro e w' ⟨rfl, rfl⟩) | (go_at_call 7; ((with_reducible refine (ex2 _).mono ?_)); rintro e w' ⟨rfl, rfl⟩) | (go_at_call 7; ((with_reducible refine (ex3 _).mono ?_)); rintro e w' ⟨rfl, rfl⟩) | (go_at_call 12; (first | (with_reducible refine (later_call _ (ex4 _)).mono ?_) | (with_reducible refine (call_later (ex4 _)).mono ?_)); rintro e w' ⟨rfl, x, rfl⟩))
  go_ret
  refine ⟨rfl, ?_⟩
  (repeat (first | (with_reducible exact Below.refl _ _) | (with_reducible refine later_below _ ?_) | (with_reducible refine alloc_below ?_ _) | (with_reducible refine Below.drew ?_) | (refine Below.setCell ?_ (by first | exact Nat.le_refl _ | (simp; done) | (simp; omega) | omega) _)))

end Go.Proofs.Ytpjebljobdhmjaa
