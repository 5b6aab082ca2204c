/-
  A dialect that is right, and the document's answer to it (where the packages of stage 1 are not reached).
-/
import Derived.Test.YtajedohgcepkiaaDoorRows
import Derived.Test.YtajedohgcepkiaaDoorBase
namespace Go.Proofs.YtajedohgcepkiaaDoor
open Go.RowKit

def markB (n : Int) : Bool := decide (n < 128 ∧ n ≠ 13 ∧ n ≠ 10)
def okB (p q n : Int) : Bool := markB p && (markB q && (!(p == q) && (n == 1 || (n == 2 || n == 3))))
theorem okB_spec {p q n : Int} (h : okB p q n = true) : (p < 128 ∧ p ≠ 13 ∧ p ≠ 10) ∧ (q < 128 ∧ q ≠ 13 ∧ q ≠ 10) ∧ p ≠ q ∧ (n = 1 ∨ n = 2 ∨ n = 3) := by
  unfold okB markB at h
  simp at h
  obtain ⟨h1, h2, h3, h4⟩ := h
  exact ⟨h1, h2, h3, by omega⟩

theorem ref_any (p q : Nat) (n : Int) (w : World) (hp : p < 256) (hq : q < 256) : Calls Tryd.prog 8 #[.agg #[.int .u8 p, .int .u8 q, .int .i64 n]] w (Gives (.agg #[.int .i64 p, .int .i64 q, .int .i64 n]) w) := by
  apply Gives.of
  go_enter Tryd.func8, Tryd.ntmps8
  go_wp2
  go_returns
  exact ⟨rfl, by go_grown⟩

theorem right_any (p q : Nat) (n : Int) (w : World) : Calls Tryd.prog 7 #[.agg #[.int .i64 p, .int .i64 q, .int .i64 n]] w (Gives (.bool (okB p q n)) w) := by
  apply Gives.of
  have i0 : ∀ w, (Instr.index 51 (.agg #[.int .i64 p, .int .i64 q]) (.int .i64 0)).run Tryd.prog w = .ok (.int .i64 p) w := fun _ => by kernel_rfl
  have i1 : ∀ w, (Instr.index 51 (.agg #[.int .i64 p, .int .i64 q]) (.int .i64 1)).run Tryd.prog w = .ok (.int .i64 q) w := fun _ => by kernel_rfl
  go_enter Tryd.func7, Tryd.ntmps7
  go_wp2
  go_rounds 3
  all_goals go_ret
  all_goals (refine ⟨ret_bool ?_, by go_grown⟩; clear i0 i1; unfold okB markB; rw [Bool.eq_iff_iff]; simp at *; omega)

end Go.Proofs.YtajedohgcepkiaaDoor
