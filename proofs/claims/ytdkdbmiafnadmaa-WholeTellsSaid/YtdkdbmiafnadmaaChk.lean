/-
  Walks: is a dialect right, by the program's call; the widest limits.
-/
import Derived.Test.YtdkdbmiafnadmaaRows
import Derived.Test.YtdkdbmiafnadmaaOk
import Derived.Lib.Hide
namespace Go.Proofs.Ytdkdbmiafnadmaa
open Go.RowKit

/-- The word of an end. -/
def endW (n : Int) : ByteArray := if n = 1 then ⟨#[108, 102]⟩ else if n = 2 then ⟨#[99, 114, 108, 102]⟩ else if n = 3 then ⟨#[101, 105, 116, 104, 101, 114]⟩ else ⟨#[]⟩

theorem endWord_same (n : Int) (w : World) : Calls Try.prog 49 #[.int .i64 n] w fun e w' => e = .returned (.string (endW n)) ∧ w = w' := by
  go_enter Try.func49, Try.ntmps49
  go_wp2
  all_goals go_ret
  all_goals (refine ⟨ret_string ?_, rfl⟩; unfold endW; simp_all)

theorem mayMark_same (n : Int) (w : World) : Calls Try.prog 48 #[.int .u8 n] w fun e w' => e = .returned (.bool (markB n)) ∧ w = w' := by
  go_enter Try.func48, Try.ntmps48
  go_wp2
  all_goals go_ret
  all_goals (refine ⟨ret_bool ?_, rfl⟩; unfold markB; first | (simp_all; done) | (rw [Bool.eq_iff_iff]; simp_all; done) | (rw [Bool.eq_iff_iff]; simp_all; omega))


def chkE (p q n : Int) : Int := if okB p q n = true then 0 else 1
theorem endW_empty (n : Int) : (endW n).toList = [] ↔ ¬ (n = 1 ∨ n = 2 ∨ n = 3) := by
  rw [ByteArray.toList_eq]
  unfold endW
  by_cases h1 : n = 1
  · simp [h1]
  · by_cases h2 : n = 2
    · simp [h2]
    · by_cases h3 : n = 3
      · simp [h3]
      · simp [h1, h2, h3]

theorem check_any (p q n : Int) (w : World) : Calls Try.prog 36 #[.agg #[.int .u8 p, .int .u8 q, .int .i64 n]] w (Gives (.int .i64 (chkE p q n)) w) := by
  apply Gives.of
  go_enter Try.func36, Try.ntmps36
  go_wp2_with (first | (go_at_call 48; refine (mayMark_same _ _).mono ?_; rintro e w' ⟨rfl, rfl⟩) | (go_at_call 49; refine (endWord_same _ _).mono ?_; rintro e w' ⟨rfl, rfl⟩))
  all_goals go_ret
  all_goals (refine ⟨ret_int ?_, by go_grown⟩; have hn := endW_empty n; unfold chkE okB; simp_all)

theorem chkE_ok {p q n : Int} (h : okB p q n = true) : chkE p q n = 0 := by unfold chkE; rw [if_pos h]
theorem chkE_no {p q n : Int} (h : okB p q n = false) : chkE p q n = 1 := by unfold chkE; rw [if_neg (by simp [h])]
theorem check_ok (p q n : Int) (w : World) (h : okB p q n = true) : Calls Try.prog 36 #[.agg #[.int .u8 p, .int .u8 q, .int .i64 n]] w (Gives (.int .i64 0) w) := chkE_ok h ▸ check_any p q n w
theorem check_no (p q n : Int) (w : World) (h : okB p q n = false) : Calls Try.prog 36 #[.agg #[.int .u8 p, .int .u8 q, .int .i64 n]] w (Gives (.int .i64 1) w) := chkE_no h ▸ check_any p q n w

theorem wide_any (w : World) :
    Calls Try.prog 25 #[] w (Gives (.agg #[.int .i64 2147483648, .int .i64 2147483648, .int .i64 2147483648, .bool false]) w) := by
  apply Gives.of
  go_enter Try.func25, Try.ntmps25
  go_wp2
  go_returns
  exact ⟨rfl, by go_grown⟩


end Go.Proofs.Ytdkdbmiafnadmaa
