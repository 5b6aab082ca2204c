/-
  Walks: a dialect's calls, and the document's answers to them.
-/
import Derived.Test.YtcnahofojjkacaaRows
import Derived.Test.YtcnahofojjkacaaDialW
import Derived.Lib.Hide
namespace Go.Proofs.Ytcnahofojjkacaa
open Go.RowKit

/-- A dialect's end of line. -/
def eolT (n : Int) : ByteArray := if n = 2 then ⟨#[13, 10]⟩ else ⟨#[10]⟩

theorem end_no (p q n : Int) (w : World) (h : okB p q n = false) : Calls Try.prog 11 #[.agg #[.int .u8 p, .int .u8 q, .int .i64 n]] w (Gives (.string ⟨#[]⟩) w) := by
  apply Gives.of
  go_enter Try.func11, Try.ntmps11
  go_wp2_with (go_at_call 10; refine (call_later (check_no _ _ _ _ h)).mono ?_; rintro e w' ⟨rfl, x, rfl⟩)
  go_ret
  exact ⟨rfl, x.end1⟩

theorem end_ok (p q n : Int) (w : World) (h : okB p q n = true) : Calls Try.prog 11 #[.agg #[.int .u8 p, .int .u8 q, .int .i64 n]] w (Gives (.string (eolT n)) w) := by
  apply Gives.of
  have hcell := fun (W : World) (x : Later W) => x.cell
  by_cases hn : n = 2
  · subst hn
    go_enter Try.func11, Try.ntmps11
    go_wp2_with (go_at_call 10; refine (call_later (check_ok _ _ _ _ h)).mono ?_; rintro e w' ⟨rfl, x, rfl⟩)
    go_ret
    exact ⟨rfl, x.end1⟩
  · go_enter Try.func11, Try.ntmps11
    go_wp2_with (go_at_call 10; refine (call_later (check_ok _ _ _ _ h)).mono ?_; rintro e w' ⟨rfl, x, rfl⟩)
    go_ret
    exact ⟨ret_string (by simp [eolT, hn]), x.end1⟩

theorem awake_any (w : World) : Calls Try.prog 12 #[] w (Gives (.bool true) w) := by
  apply Gives.of
  have e : dialT 44 34 2 = (⟨#[50, 99, 32, 50, 50, 32, 99, 114, 108, 102]⟩ : ByteArray) := by decide
  have ht : ∀ W, Calls Try.prog 7 #[.agg #[.int .u8 44, .int .u8 34, .int .i64 2]] W (Gives (.tuple #[.string ⟨#[50, 99, 32, 50, 50, 32, 99, 114, 108, 102]⟩, .int .i64 0]) W) := fun W => e ▸ text_ok 44 34 2 W (by omega) (by omega) (by decide)
  have HT := Lib.hid ht
  clear ht e
  go_enter Try.func12, Try.ntmps12
  go_wp2_with (go_at_call 7; refine (call_later (HT.out _)).mono ?_; rintro e w' ⟨rfl, x, rfl⟩)
  go_ret
  exact ⟨rfl, x.below⟩

theorem ref_any (p q : Nat) (n : Int) (w : World) (hp : p < 256) (hq : q < 256) : Calls Try.prog 9 #[.agg #[.int .u8 p, .int .u8 q, .int .i64 n]] w (Gives (.agg #[.int .i64 p, .int .i64 q, .int .i64 n]) w) := by
  apply Gives.of
  go_enter Try.func9, Try.ntmps9
  go_wp2
  go_returns
  exact ⟨rfl, by go_grown⟩

theorem refEnd_any (p q n : Int) (w : World) : Calls Try.prog 13 #[.agg #[.int .i64 p, .int .i64 q, .int .i64 n]] w (Gives (.string (eolT n)) w) := by
  apply Gives.of
  by_cases hn : n = 2
  all_goals
    go_enter Try.func13, Try.ntmps13
    go_wp2
    go_ret
    exact ⟨ret_string (by simp [eolT, hn]), by go_grown⟩

theorem right_any (p q : Nat) (n : Int) (w : World) : Calls Try.prog 8 #[.agg #[.int .i64 p, .int .i64 q, .int .i64 n]] w (Gives (.bool (okB p q n)) w) := by
  apply Gives.of
  have i0 : ∀ w, (Instr.index 53 (.agg #[.int .i64 p, .int .i64 q]) (.int .i64 0)).run Try.prog w = .ok (.int .i64 p) w := fun _ => by kernel_rfl
  have i1 : ∀ w, (Instr.index 53 (.agg #[.int .i64 p, .int .i64 q]) (.int .i64 1)).run Try.prog w = .ok (.int .i64 q) w := fun _ => by kernel_rfl
  go_enter Try.func8, Try.ntmps8
  go_wp2
  go_rounds 3
  all_goals go_ret
  all_goals (refine ⟨ret_bool ?_, by go_grown⟩; clear i0 i1; unfold okB markB; rw [Bool.eq_iff_iff]; simp at *; omega)

theorem hexDigit_lo {n : Nat} (h : n < 10) : (48 : Int) + n = ((hexDigit n).toNat : Int) := by
  have h16 : ∀ n : Fin 10, (48 : Int) + n.val = ((hexDigit n.val).toNat : Int) := by decide
  exact h16 ⟨n, h⟩
theorem hexDigit_hi {n : Nat} (h : ¬ n < 10) (h16 : n < 16) : (97 : Int) + n - 10 = ((hexDigit n).toNat : Int) := by
  have hh : ∀ n : Fin 16, ¬ n.val < 10 → (97 : Int) + n.val - 10 = ((hexDigit n.val).toNat : Int) := by decide
  exact hh ⟨n, h16⟩ h

theorem digit_any (n : Nat) (w : World) (h : n < 16) : Calls Try.prog 24 #[.int .i64 n] w (Gives (.string ⟨#[hexDigit n]⟩) w) := by
  apply Gives.of
  by_cases hn : n < 10
  · have hcv := fun W => convert_oneI (P := Try.prog) W 65 9 5 Try.underlying65 Try.underlying5 Try.underlying9 _ _ (hexDigit_lo hn)
    go_enter Try.func24, Try.ntmps24
    go_wp2
    go_ret
    exact ⟨rfl, by go_grown⟩
  · have hcv := fun W => convert_oneI (P := Try.prog) W 65 9 5 Try.underlying65 Try.underlying5 Try.underlying9 _ _ (hexDigit_hi hn h)
    go_enter Try.func24, Try.ntmps24
    go_wp2
    go_ret
    exact ⟨rfl, by go_grown⟩

end Go.Proofs.Ytcnahofojjkacaa
