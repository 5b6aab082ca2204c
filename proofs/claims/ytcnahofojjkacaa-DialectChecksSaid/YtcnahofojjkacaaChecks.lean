/-
  The law DialectChecks returns true for every dialect. Conditions: none.
-/
import Derived.Test.YtcnahofojjkacaaRows
import Derived.Test.YtcnahofojjkacaaOpens
import Derived.Test.YtcnahofojjkacaaDialT
namespace Go.Proofs.Ytcnahofojjkacaa
open Go.ChangeShapes Go.WideShapes Go.ChangeAt Go.RowKit Go.Joins

theorem okB_end {p q n : Int} (h : okB p q n = true) : n = 1 ∨ n = 2 ∨ n = 3 := by unfold okB at h; simp at h; omega

theorem checks_any (p q : Nat) (n : Int) (w : World) (hp : p < 256) (hq : q < 256) : Calls Try.prog 3 #[.agg #[.int .u8 p, .int .u8 q, .int .i64 n]] w (Gives (.bool true) w) := by
  cases h : okB p q n
  · exact checks_no p q n w hp hq h
  · exact checks_ok p q n w hp hq h (okB_end h)

set_option maxRecDepth 100000 in
theorem dialectChecks_lifted (os : Os) (started : os.Started) (H : Type) (enc : TypeId × Value → H) :
    ReturnsInHanded {} Try.checked os 3 .any (Rows.dialectChecksSpec.pre6 enc Try.prog Try.f3 Rows.dialectChecksRow.domain false) (Rows.dialectChecksSpec.post enc Try.prog Try.f3 false true false false) := by
  refine law_lift (C := Try.checked) (tb := 4) Try.own Try.laidOut started (by kernel_rfl) Try.func3
    (ChangeSpec.witness6 (enc := enc) (C := Try.checked) false ⟨#[], #[.agg #[.int .u8 0, .int .u8 0, .int .i64 0]], []⟩ 8 (by kernel_rfl) (by kernel_rfl) (by kernel_rfl) (by kernel_rfl))
    rfl Try.underlying4 (by intro t ht; have ht' : t ∈ [23] := ht; simp at ht'; subst ht'; exact ⟨by kernel_rfl, of_decide_eq_true (by kernel_rfl)⟩) rfl
    (fun ds h => match ds, h with | [_], _ => rfl) ?_
  intro W base args ds ps hh
  obtain ⟨v, d, p, rfl, hv, h0⟩ := handed_one Try.params3 hh
  obtain ⟨a, b, n, ha, hb, rfl⟩ := open_dialect hv h0
  exact checks_any a b n W ha hb

theorem dialectChecks_holds : Rows.DialectChecksSaid :=
  OpenClaim.holds_of_wide 3 Try.f3 rfl rfl rfl rfl rfl rfl rfl ⟨rfl, rfl, rfl, rfl, rfl⟩ rfl rfl rfl rfl rfl (by kernel_rfl) Try.func3 (by kernel_rfl)
    (of_decide_eq_true (by kernel_rfl)) (by unfold Func.isWrapper; first | (rw [if_pos (by decide +kernel)]; kernel_rfl) | (rw [if_neg (by decide +kernel)]; exact ⟨rfl, rfl⟩))
    (fun os started H enc _ => dialectChecks_lifted os started H enc)
#print axioms dialectChecks_holds

end Go.Proofs.Ytcnahofojjkacaa
