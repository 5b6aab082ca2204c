/-
  Walks: a dialect's calls.
-/
import Derived.Test.YtcnahofojjkacaaRows
import Derived.Test.YtcnahofojjkacaaBase
import Derived.Lib.Hide
namespace Go.Proofs.Ytcnahofojjkacaa
open Go.RowKit

def hexDigit (n : Nat) : UInt8 := if n < 10 then UInt8.ofNat (48 + n) else UInt8.ofNat (87 + n)
theorem hexDigit_at : ∀ n : Nat, ∀ h : n < (⟨#[48, 49, 50, 51, 52, 53, 54, 55, 56, 57, 97, 98, 99, 100, 101, 102]⟩ : ByteArray).size, (⟨#[48, 49, 50, 51, 52, 53, 54, 55, 56, 57, 97, 98, 99, 100, 101, 102]⟩ : ByteArray)[n]'h = hexDigit n := by
  have h16 : ∀ n : Fin 16, (#[48, 49, 50, 51, 52, 53, 54, 55, 56, 57, 97, 98, 99, 100, 101, 102] : Array UInt8)[n.val] = hexDigit n.val := by decide
  intro n h
  exact h16 ⟨n, h⟩
def hexT (n : Nat) : ByteArray := ⟨#[hexDigit (n / 16), hexDigit (n % 16)]⟩

theorem hexText_any (n : Nat) (h : n < 256) (w : World) : Calls Try.prog 21 #[.int .u8 n] w (Gives (.string (hexT n)) w) := by
  apply Gives.of
  have h1 : 0 ≤ (n : Int) / 16 ∧ (n : Int) / 16 < 16 := by omega
  have h2 : 0 ≤ (n : Int) % 16 ∧ (n : Int) % 16 < 16 := by omega
  have e15 : bits .and .u8 (n : Int) 15 = (n : Int) % 16 := u8_and15 _ (by omega) (by omega)
  have hcv := fun W => convert_two (P := Try.prog) W 65 9 5 Try.underlying65 Try.underlying5 Try.underlying9
  go_enter Try.func21, Try.ntmps21
  go_wp2
  go_region
  all_goals
    go_wp2
    go_ret
    refine ⟨?_, by go_grown⟩
    rw [hexDigit_at, hexDigit_at]; rfl

/-- The word of an end. -/
def endW (n : Int) : ByteArray := if n = 1 then ⟨#[108, 102]⟩ else if n = 2 then ⟨#[99, 114, 108, 102]⟩ else if n = 3 then ⟨#[101, 105, 116, 104, 101, 114]⟩ else ⟨#[]⟩

theorem endWord_same (n : Int) (w : World) : Calls Try.prog 22 #[.int .i64 n] w fun e w' => e = .returned (.string (endW n)) ∧ w = w' := by
  go_enter Try.func22, Try.ntmps22
  go_wp2
  all_goals go_ret
  all_goals (refine ⟨ret_string ?_, rfl⟩; unfold endW; simp_all)

def markB (n : Int) : Bool := decide (n < 128 ∧ n ≠ 13 ∧ n ≠ 10)

theorem mayMark_same (n : Int) (w : World) : Calls Try.prog 23 #[.int .u8 n] w fun e w' => e = .returned (.bool (markB n)) ∧ w = w' := by
  go_enter Try.func23, Try.ntmps23
  go_wp2
  all_goals go_ret
  all_goals (refine ⟨ret_bool ?_, rfl⟩; unfold markB; first | (simp_all; done) | (rw [Bool.eq_iff_iff]; simp_all; done) | (rw [Bool.eq_iff_iff]; simp_all; omega))


theorem markB_true {n : Int} : markB n = true ↔ (n < 128 ∧ n ≠ 13 ∧ n ≠ 10) := by unfold markB; simp
theorem markB_false {n : Int} : markB n = false ↔ ¬ (n < 128 ∧ n ≠ 13 ∧ n ≠ 10) := by unfold markB; simp

/-- May a dialect be? -/
def okB (p q n : Int) : Bool := markB p && (markB q && (!(p == q) && (n == 1 || (n == 2 || n == 3))))
def chkE (p q n : Int) : Int := if okB p q n = true then 0 else 1
theorem endW_empty (n : Int) : (endW n).toList = [] ↔ ¬ (n = 1 ∨ n = 2 ∨ n = 3) := by
  rw [ByteArray.toList_eq]
  unfold endW
  by_cases h1 : n = 1
  · simp [h1]
  · by_cases h2 : n = 2
    · simp [h2]
    · by_cases h3 : n = 3
      · simp [h3]
      · simp [h1, h2, h3]

theorem check_any (p q n : Int) (w : World) : Calls Try.prog 10 #[.agg #[.int .u8 p, .int .u8 q, .int .i64 n]] w (Gives (.int .i64 (chkE p q n)) w) := by
  apply Gives.of
  go_enter Try.func10, Try.ntmps10
  go_wp2_with (first | (go_at_call 23; refine (mayMark_same _ _).mono ?_; rintro e w' ⟨rfl, rfl⟩) | (go_at_call 22; refine (endWord_same _ _).mono ?_; rintro e w' ⟨rfl, rfl⟩))
  all_goals go_ret
  all_goals (refine ⟨ret_int ?_, by go_grown⟩; have hn := endW_empty n; unfold chkE okB; simp_all)

theorem chkE_ok {p q n : Int} (h : okB p q n = true) : chkE p q n = 0 := by unfold chkE; rw [if_pos h]
theorem chkE_no {p q n : Int} (h : okB p q n = false) : chkE p q n = 1 := by unfold chkE; rw [if_neg (by simp [h])]
theorem check_ok (p q n : Int) (w : World) (h : okB p q n = true) : Calls Try.prog 10 #[.agg #[.int .u8 p, .int .u8 q, .int .i64 n]] w (Gives (.int .i64 0) w) := chkE_ok h ▸ check_any p q n w
theorem check_no (p q n : Int) (w : World) (h : okB p q n = false) : Calls Try.prog 10 #[.agg #[.int .u8 p, .int .u8 q, .int .i64 n]] w (Gives (.int .i64 1) w) := chkE_no h ▸ check_any p q n w

/-- A dialect's text. -/
def dialT (p q : Nat) (n : Int) : ByteArray := hexT p ++ ⟨#[32]⟩ ++ hexT q ++ ⟨#[32]⟩ ++ endW n

theorem text_no (p q n : Int) (w : World) (h : okB p q n = false) : Calls Try.prog 7 #[.agg #[.int .u8 p, .int .u8 q, .int .i64 n]] w (Gives (.tuple #[.string ⟨#[]⟩, .int .i64 1]) w) := by
  apply Gives.of
  have hcell := fun (W : World) (x : Later W) => x.cell
  go_enter Try.func7, Try.ntmps7
  go_wp2_with (go_at_call 10; refine (call_later (check_no _ _ _ _ h)).mono ?_; rintro e w' ⟨rfl, x, rfl⟩)
  go_ret2
  exact ⟨rfl, ((Below.refl _ _).alloc (Nat.le_refl _) _).trans (x.below.mono (by simp))⟩

theorem hexT_size (n : Nat) : (hexT n).size = 2 := rfl
theorem endW_size (n : Int) : (endW n).size ≤ 6 := by
  unfold endW
  split
  · exact (by decide : (⟨#[108, 102]⟩ : ByteArray).size ≤ 6)
  · split
    · exact (by decide : (⟨#[99, 114, 108, 102]⟩ : ByteArray).size ≤ 6)
    · split
      · exact (by decide : (⟨#[101, 105, 116, 104, 101, 114]⟩ : ByteArray).size ≤ 6)
      · exact (by decide : (⟨#[]⟩ : ByteArray).size ≤ 6)

theorem text_ok (p q : Nat) (n : Int) (w : World) (hp : p < 256) (hq : q < 256) (h : okB p q n = true) : Calls Try.prog 7 #[.agg #[.int .u8 p, .int .u8 q, .int .i64 n]] w (Gives (.tuple #[.string (dialT p q n), .int .i64 0]) w) := by
  apply Gives.of
  have hcell := fun (W : World) (x : Later W) => x.cell
  have hs1 := hexT_size
  have hs2 := endW_size n
  go_enter Try.func7, Try.ntmps7
  go_wp2_with (go_at_call 10; refine (call_later (check_ok _ _ _ _ h)).mono ?_; rintro e w' ⟨rfl, x, rfl⟩; have hz := x.lt1)
  refine wp_region_later_lit (by kernel_rfl) (by kernel_rfl) ?_
  repeat (go_big_quiet_step (first | (go_at_call 21; exact later_call _ (hexText_any _ (by omega) _)) | (go_at_call 22; exact later_call _ (Gives.same_left (endWord_same _ _)))))
  refine wpQuiet_nil ?_
  rintro w' ⟨y, rfl⟩
  go_wp2
  go_ret2
  exact ⟨rfl, y.trans x.end1 (by omega)⟩

end Go.Proofs.Ytcnahofojjkacaa
