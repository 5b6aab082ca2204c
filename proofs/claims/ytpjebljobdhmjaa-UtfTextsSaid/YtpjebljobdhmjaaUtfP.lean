/-
  Walks: the program's UTF-8, byte by byte.
-/
import Derived.Test.YtpjebljobdhmjaaRows
import Derived.Test.YtpjebljobdhmjaaUtfB
namespace Go.Proofs.Ytpjebljobdhmjaa
open Go.RowKit

def okI (st b : Int) : Bool := decide (stepI st b ≠ -1)
def nxI (st b : Int) : Int := if stepI st b = -1 then 0 else stepI st b

theorem ret_ib {a b : Int} {c d : Bool} (h : a = b) (h' : c = d) : Ending.returned (.tuple #[.int .i64 a, .bool c]) = .returned (.tuple #[.int .i64 b, .bool d]) := by rw [h, h']
theorem ret_ii {a b c d : Int} (h : a = b) (h' : c = d) : Ending.returned (.tuple #[.int .i64 a, .int .i64 c]) = .returned (.tuple #[.int .i64 b, .int .i64 d]) := by rw [h, h']

theorem first_any (b : Int) (w : World) (h : 0 ≤ b ∧ b ≤ 255) : Calls Try.prog 18 #[.int .u8 b] w (fun e w' => e = .returned (.tuple #[.int .i64 (nxI 0 b), .bool (okI 0 b)]) ∧ w = w') := by
  have HS := Lib.hid (step0 b)
  go_enter Try.func18, Try.ntmps18
  go_wp2
  all_goals go_ret2
  all_goals
    refine ⟨?_, rfl⟩
    simp only [beq_iff_eq, beq_eq_false_iff_ne, ne_eq] at *
    have hs := HS.out
    refine ret_ib ?_ ?_
    · unfold nxI; split <;> omega
    · unfold okI
      first
      | (refine (decide_eq_true (p := stepI 0 b ≠ -1) ?_).symm; omega)
      | (refine (decide_eq_false (p := stepI 0 b ≠ -1) ?_).symm; omega)

def lowI (st : Int) : Int := if st = 1 ∨ st = 2 ∨ st = 3 then 128 else if st = 4 then 160 else if st = 5 then 128 else if st = 6 then 144 else if st = 7 then 128 else 1
def highI (st : Int) : Int := if st = 1 ∨ st = 2 ∨ st = 3 then 191 else if st = 4 then 191 else if st = 5 then 159 else if st = 6 then 191 else if st = 7 then 143 else 0
def nextI (st : Int) : Int := if st = 1 then 0 else if st = 2 then 1 else if st = 3 then 2 else if st = 4 ∨ st = 5 then 1 else if st = 6 ∨ st = 7 then 2 else 0

theorem wanted_any (st : Int) (w : World) (hs : 1 ≤ st ∧ st ≤ 7) : Calls Try.prog 19 #[.int .i64 st] w (fun e w' => e = .returned (.tuple #[.int .u8 (lowI st), .int .u8 (highI st), .int .i64 (nextI st)]) ∧ w = w') := by
  have h7 : st = 1 ∨ st = 2 ∨ st = 3 ∨ st = 4 ∨ st = 5 ∨ st = 6 ∨ st = 7 := by omega
  clear hs
  rcases h7 with rfl | rfl | rfl | rfl | rfl | rfl | rfl
  all_goals
    go_enter Try.func19, Try.ntmps19
    go_wp2
    exact bodyPost_ret (by simp [results, Try.results19, go_sem, lowI, highI, nextI]) rfl ⟨rfl, rfl⟩

theorem step_any (st b : Int) (w : World) (h : 0 ≤ b ∧ b ≤ 255) (hs : 0 ≤ st ∧ st ≤ 7) : Calls Try.prog 7 #[.int .i64 st, .int .u8 b] w (fun e w' => e = .returned (.tuple #[.int .i64 (nxI st b), .bool (okI st b)]) ∧ w = w') := by
  by_cases h0 : st = 0
  · subst h0
    go_enter Try.func7, Try.ntmps7
    go_wp2_with (go_at_call 18; refine (first_any _ _ h).mono ?_; rintro e w' ⟨rfl, rfl⟩)
    go_ret2
    exact ⟨rfl, rfl⟩
  · have hk : (b < lowI st ∨ highI st < b) ↔ stepI st b = -1 := by
      unfold lowI highI stepI
      repeat' split
      all_goals omega
    have hn : ¬ stepI st b = -1 → stepI st b = nextI st := by
      unfold nextI stepI
      repeat' split
      all_goals omega
    by_cases hf : stepI st b = -1
    · have e : Ending.returned (.tuple #[.int .i64 (nxI st b), .bool (okI st b)]) = .returned (.tuple #[.int .i64 0, .bool false]) := by unfold nxI okI; rw [hf]; rfl
      have hor := hk.2 hf
      rw [e]
      clear e hk hn hf
      by_cases h1 : b < lowI st
      · clear hor
        go_enter Try.func7, Try.ntmps7
        go_wp2_with (go_at_call 19; refine (wanted_any _ _ (by omega)).mono ?_; rintro e w' ⟨rfl, rfl⟩)
        go_ret2
        exact ⟨rfl, rfl⟩
      · have h2 : highI st < b := by omega
        clear hor
        go_enter Try.func7, Try.ntmps7
        go_wp2_with (go_at_call 19; refine (wanted_any _ _ (by omega)).mono ?_; rintro e w' ⟨rfl, rfl⟩)
        go_ret2
        exact ⟨rfl, rfl⟩
    · have e : Ending.returned (.tuple #[.int .i64 (nxI st b), .bool (okI st b)]) = .returned (.tuple #[.int .i64 (nextI st), .bool true]) := by
        unfold nxI okI; rw [if_neg hf, hn hf, decide_eq_true (by rw [← hn hf]; exact hf)]
      have h1 : ¬ b < lowI st := fun h => hf (hk.1 (.inl h))
      have h2 : ¬ highI st < b := fun h => hf (hk.1 (.inr h))
      rw [e]
      clear e hk hn hf
      go_enter Try.func7, Try.ntmps7
      go_wp2_with (go_at_call 19; refine (wanted_any _ _ (by omega)).mono ?_; rintro e w' ⟨rfl, rfl⟩)
      go_ret2
      exact ⟨rfl, rfl⟩

/-- The state behind i bytes from a state on, or -1. -/
def stFrom (st : Int) (s : ByteArray) : Nat → Int
  | 0 => st
  | i + 1 => if i < s.size then stepI (stFrom st s i) (byt s i) else -1

theorem stFrom_at (s : ByteArray) (i : Nat) : stFrom 0 s i = stateAt s i := by
  induction i with
  | zero => rfl
  | succ i ih => unfold stFrom stateAt; rw [ih]

theorem stFrom_range (st : Int) (s : ByteArray) (h : -1 ≤ st ∧ st ≤ 7) (i : Nat) : -1 ≤ stFrom st s i ∧ stFrom st s i ≤ 7 := by
  induction i with
  | zero => exact h
  | succ i ih =>
    unfold stFrom
    split
    · exact stepI_range _ _ ih
    · omega

/-- What Run says: n bytes go on, and t is the state behind them. -/
def RunSays (st : Int) (s : ByteArray) (t : Int) (n : Nat) : Prop := n ≤ s.size ∧ stFrom st s n = t ∧ t ≠ -1 ∧ stFrom st s (n + 1) = -1 ∧ 0 ≤ t ∧ t ≤ 7

def RunPost (st : Int) (s : ByteArray) (w : World) (e : Ending) (w' : World) : Prop := ∃ (t : Int) (n : Nat), RunSays st s t n ∧ e = .returned (.tuple #[.int .i64 t, .int .i64 n]) ∧ w = w'

set_option maxHeartbeats 1000000 in
theorem run_any (st : Int) (s : ByteArray) (w : World) (hs : s.size ≤ maxLen) (hst : 0 ≤ st ∧ st ≤ 7) : Calls Try.prog 17 #[.int .i64 st, .string s] w (RunPost st s w) := by
  unfold maxLen at hs
  go_enter Try.func17, Try.ntmps17
  go_wp2
  go_loop [0, 5] (fun t n => ∃ (k : Nat) (u : Int), k ≤ s.size ∧ n = .int .i64 k ∧ t = .int .i64 u ∧ stFrom st s k = u ∧ 0 ≤ u ∧ u ≤ 7) (fun _ n => s.size - (intOf n).toNat)
  case atStart => exact ⟨0, st, by omega, rfl, rfl, rfl, by omega, by omega⟩
  case round =>
    obtain ⟨k, u, hk, rfl, rfl, hu, hu0, hu7⟩ := hrel
    have HU := Lib.hid hu
    clear hu
    by_cases hlt : k < s.size
    · have e0 := byt_eq s k hlt
      have r0 := byt_range s k
      have hsu : stFrom st s (k + 1) = stepI u (byt s k) := by
        show (if k < s.size then _ else -1) = _
        rw [if_pos hlt, HU.out]
      have HSU := Lib.hid hsu
      clear hsu
      by_cases hf : stepI u (byt s k) = -1
      · have ho : okI u (byt s k) = false := by unfold okI; simp [hf]
        have HS := Lib.hid (fun W => ho ▸ step_any u (byt s k) W r0 ⟨hu0, hu7⟩)
        have HF := Lib.hid hf
        clear hf ho
        go_wp2_with (go_at_call 7; refine (HS.out _).mono ?_; rintro e w' ⟨rfl, rfl⟩)
        go_ret2
        exact ⟨u, k, ⟨by omega, HU.out, by omega, by rw [HSU.out, HF.out], hu0, hu7⟩, rfl, rfl⟩
      · have ho : okI u (byt s k) = true := by unfold okI; simp [hf]
        have hnx : nxI u (byt s k) = stepI u (byt s k) := by unfold nxI; rw [if_neg hf]
        have hr := stepI_range u (byt s k) (by omega)
        have HS := Lib.hid (fun W => hnx ▸ ho ▸ step_any u (byt s k) W r0 ⟨hu0, hu7⟩)
        clear ho hnx
        have hr0 : 0 ≤ stepI u (byt s k) := by omega
        go_wp2_with (go_at_call 7; refine (HS.out _).mono ?_; rintro e w' ⟨rfl, rfl⟩)
        go_round
        case rel => exact ⟨k + 1, _, by omega, by go_num, rfl, HSU.out, hr0, by omega⟩
        case measure => simp [intOf]; omega
    · go_wp2
      go_ret2
      exact ⟨u, k, ⟨by omega, HU.out, by omega, by show (if k < s.size then _ else -1) = -1; rw [if_neg hlt], hu0, hu7⟩, rfl, rfl⟩

end Go.Proofs.Ytpjebljobdhmjaa
