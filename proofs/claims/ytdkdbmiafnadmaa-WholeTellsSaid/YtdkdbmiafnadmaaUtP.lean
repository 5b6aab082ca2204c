/-
  Walks: the program's UTF-8, byte by byte.
-/
import Derived.Test.YtdkdbmiafnadmaaRows
import Derived.Test.YtdkdbmiafnadmaaUtB
namespace Go.Proofs.Ytdkdbmiafnadmaa.Utf
open Go.RowKit

def okI (st b : Int) : Bool := decide (stepI st b ≠ -1)
def nxI (st b : Int) : Int := if stepI st b = -1 then 0 else stepI st b

theorem ret_ib {a b : Int} {c d : Bool} (h : a = b) (h' : c = d) : Ending.returned (.tuple #[.int .i64 a, .bool c]) = .returned (.tuple #[.int .i64 b, .bool d]) := by rw [h, h']
theorem ret_ii {a b c d : Int} (h : a = b) (h' : c = d) : Ending.returned (.tuple #[.int .i64 a, .int .i64 c]) = .returned (.tuple #[.int .i64 b, .int .i64 d]) := by rw [h, h']

theorem first_any (b : Int) (w : World) (h : 0 ≤ b ∧ b ≤ 255) : Calls Try.prog 65 #[.int .u8 b] w (fun e w' => e = .returned (.tuple #[.int .i64 (nxI 0 b), .bool (okI 0 b)]) ∧ w = w') := by
  have HS := Lib.hid (step0 b)
  go_enter Try.func65, Try.ntmps65
  go_wp2
  all_goals go_ret2
  all_goals
    refine ⟨?_, rfl⟩
    simp only [beq_iff_eq, beq_eq_false_iff_ne, ne_eq] at *
    have hs := HS.out
    refine ret_ib ?_ ?_
    · unfold nxI; split <;> omega
    · unfold okI
      first
      | (refine (decide_eq_true (p := stepI 0 b ≠ -1) ?_).symm; omega)
      | (refine (decide_eq_false (p := stepI 0 b ≠ -1) ?_).symm; omega)

def lowI (st : Int) : Int := if st = 1 ∨ st = 2 ∨ st = 3 then 128 else if st = 4 then 160 else if st = 5 then 128 else if st = 6 then 144 else if st = 7 then 128 else 1
def highI (st : Int) : Int := if st = 1 ∨ st = 2 ∨ st = 3 then 191 else if st = 4 then 191 else if st = 5 then 159 else if st = 6 then 191 else if st = 7 then 143 else 0
def nextI (st : Int) : Int := if st = 1 then 0 else if st = 2 then 1 else if st = 3 then 2 else if st = 4 ∨ st = 5 then 1 else if st = 6 ∨ st = 7 then 2 else 0

theorem wanted_any (st : Int) (w : World) (hs : 1 ≤ st ∧ st ≤ 7) : Calls Try.prog 66 #[.int .i64 st] w (fun e w' => e = .returned (.tuple #[.int .u8 (lowI st), .int .u8 (highI st), .int .i64 (nextI st)]) ∧ w = w') := by
  have h7 : st = 1 ∨ st = 2 ∨ st = 3 ∨ st = 4 ∨ st = 5 ∨ st = 6 ∨ st = 7 := by omega
  clear hs
  rcases h7 with rfl | rfl | rfl | rfl | rfl | rfl | rfl
  all_goals
    go_enter Try.func66, Try.ntmps66
    go_wp2
    exact bodyPost_ret (by simp [results, Try.results66, go_sem, lowI, highI, nextI]) rfl ⟨rfl, rfl⟩

theorem step_any (st b : Int) (w : World) (h : 0 ≤ b ∧ b ≤ 255) (hs : 0 ≤ st ∧ st ≤ 7) : Calls Try.prog 59 #[.int .i64 st, .int .u8 b] w (fun e w' => e = .returned (.tuple #[.int .i64 (nxI st b), .bool (okI st b)]) ∧ w = w') := by
  by_cases h0 : st = 0
  · subst h0
    go_enter Try.func59, Try.ntmps59
    go_wp2_with (go_at_call 65; refine (first_any _ _ h).mono ?_; rintro e w' ⟨rfl, rfl⟩)
    go_ret2
    exact ⟨rfl, rfl⟩
  · have hk : (b < lowI st ∨ highI st < b) ↔ stepI st b = -1 := by
      unfold lowI highI stepI
      repeat' split
      all_goals omega
    have hn : ¬ stepI st b = -1 → stepI st b = nextI st := by
      unfold nextI stepI
      repeat' split
      all_goals omega
    by_cases hf : stepI st b = -1
    · have e : Ending.returned (.tuple #[.int .i64 (nxI st b), .bool (okI st b)]) = .returned (.tuple #[.int .i64 0, .bool false]) := by unfold nxI okI; rw [hf]; rfl
      have hor := hk.2 hf
      rw [e]
      clear e hk hn hf
      by_cases h1 : b < lowI st
      · clear hor
        go_enter Try.func59, Try.ntmps59
        go_wp2_with (go_at_call 66; refine (wanted_any _ _ (by omega)).mono ?_; rintro e w' ⟨rfl, rfl⟩)
        go_ret2
        exact ⟨rfl, rfl⟩
      · have h2 : highI st < b := by omega
        clear hor
        go_enter Try.func59, Try.ntmps59
        go_wp2_with (go_at_call 66; refine (wanted_any _ _ (by omega)).mono ?_; rintro e w' ⟨rfl, rfl⟩)
        go_ret2
        exact ⟨rfl, rfl⟩
    · have e : Ending.returned (.tuple #[.int .i64 (nxI st b), .bool (okI st b)]) = .returned (.tuple #[.int .i64 (nextI st), .bool true]) := by
        unfold nxI okI; rw [if_neg hf, hn hf, decide_eq_true (by rw [← hn hf]; exact hf)]
      have h1 : ¬ b < lowI st := fun h => hf (hk.1 (.inl h))
      have h2 : ¬ highI st < b := fun h => hf (hk.1 (.inr h))
      rw [e]
      clear e hk hn hf
      go_enter Try.func59, Try.ntmps59
      go_wp2_with (go_at_call 66; refine (wanted_any _ _ (by omega)).mono ?_; rintro e w' ⟨rfl, rfl⟩)
      go_ret2
      exact ⟨rfl, rfl⟩

/-- The state behind i bytes from a state on, or -1. -/
def stFrom (st : Int) (s : ByteArray) : Nat → Int
  | 0 => st
  | i + 1 => if i < s.size then stepI (stFrom st s i) (byt s i) else -1

theorem stFrom_at (s : ByteArray) (i : Nat) : stFrom 0 s i = stateAt s i := by
  induction i with
  | zero => rfl
  | succ i ih => unfold stFrom stateAt; rw [ih]

theorem stFrom_range (st : Int) (s : ByteArray) (h : -1 ≤ st ∧ st ≤ 7) (i : Nat) : -1 ≤ stFrom st s i ∧ stFrom st s i ≤ 7 := by
  induction i with
  | zero => exact h
  | succ i ih =>
    unfold stFrom
    split
    · exact stepI_range _ _ ih
    · omega

end Go.Proofs.Ytdkdbmiafnadmaa.Utf
