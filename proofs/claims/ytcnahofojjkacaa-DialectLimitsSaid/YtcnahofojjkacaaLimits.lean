/-
  The law DialectLimits returns true for all limits. Conditions: none.
-/
import Derived.Test.YtcnahofojjkacaaRows
import Derived.Test.YtcnahofojjkacaaOpens
import Derived.Test.YtcnahofojjkacaaDialR
namespace Go.Proofs.Ytcnahofojjkacaa
open Go.ChangeShapes Go.WideShapes Go.ChangeAt Go.RowKit Go.Joins

def fitsB (a b c : Int) : Bool := decide (1 ≤ a ∧ a ≤ 2147483648 ∧ 1 ≤ b ∧ b ≤ 2147483648 ∧ 1 ≤ c ∧ c ≤ 2147483648)
def limE (a b c : Int) : Int := if fitsB a b c = true then 0 else 2

set_option maxHeartbeats 1000000 in
theorem fits_any (a b c u : Int) (w : World) :
    Calls Try.prog 15 #[.agg #[.int .i64 a, .int .i64 b, .int .i64 c, .int .i64 u]] w (Gives (.bool (fitsB a b c)) w) := by
  apply Gives.of
  have i0 : ∀ w, (Instr.index 56 (.agg #[.int .i64 a, .int .i64 b, .int .i64 c]) (.int .i64 0)).run Try.prog w = .ok (.int .i64 a) w := fun _ => by kernel_rfl
  have i1 : ∀ w, (Instr.index 56 (.agg #[.int .i64 a, .int .i64 b, .int .i64 c]) (.int .i64 1)).run Try.prog w = .ok (.int .i64 b) w := fun _ => by kernel_rfl
  have i2 : ∀ w, (Instr.index 56 (.agg #[.int .i64 a, .int .i64 b, .int .i64 c]) (.int .i64 2)).run Try.prog w = .ok (.int .i64 c) w := fun _ => by kernel_rfl
  go_enter Try.func15, Try.ntmps15
  go_wp2
  go_rounds 4
  all_goals (go_ret; refine ⟨ret_bool ?_, by go_grown⟩; clear i0 i1 i2; simp [fitsB]; omega)

set_option maxHeartbeats 1000000 in
theorem checkLimits_any (a b c : Int) (u : Bool) (w : World) :
    Calls Try.prog 18 #[.agg #[.int .i64 a, .int .i64 b, .int .i64 c, .bool u]] w (Gives (.int .i64 (limE a b c)) w) := by
  apply Gives.of
  have i0 : ∀ w, (Instr.index 56 (.agg #[.int .i64 a, .int .i64 b, .int .i64 c]) (.int .i64 0)).run Try.prog w = .ok (.int .i64 a) w := fun _ => by kernel_rfl
  have i1 : ∀ w, (Instr.index 56 (.agg #[.int .i64 a, .int .i64 b, .int .i64 c]) (.int .i64 1)).run Try.prog w = .ok (.int .i64 b) w := fun _ => by kernel_rfl
  have i2 : ∀ w, (Instr.index 56 (.agg #[.int .i64 a, .int .i64 b, .int .i64 c]) (.int .i64 2)).run Try.prog w = .ok (.int .i64 c) w := fun _ => by kernel_rfl
  go_enter Try.func18, Try.ntmps18
  go_wp2
  go_rounds 4
  all_goals (go_ret; refine ⟨ret_int ?_, by go_grown⟩; clear i0 i1 i2; unfold limE fitsB; simp only [decide_eq_true_eq]; first | (rw [if_pos (by omega)]; done) | (rw [if_neg (by omega)]; done))

theorem checkLimits_ok (a b c : Int) (u : Bool) (w : World) (h : fitsB a b c = true) : Calls Try.prog 18 #[.agg #[.int .i64 a, .int .i64 b, .int .i64 c, .bool u]] w (Gives (.int .i64 0) w) := by
  have e : limE a b c = 0 := by unfold limE; rw [if_pos h]
  exact e ▸ checkLimits_any a b c u w
theorem checkLimits_no (a b c : Int) (u : Bool) (w : World) (h : fitsB a b c = false) : Calls Try.prog 18 #[.agg #[.int .i64 a, .int .i64 b, .int .i64 c, .bool u]] w (Gives (.int .i64 2) w) := by
  have e : limE a b c = 2 := by unfold limE; rw [if_neg (by simp [h])]
  exact e ▸ checkLimits_any a b c u w

theorem wide_any (w : World) :
    Calls Try.prog 17 #[] w (Gives (.agg #[.int .i64 2147483648, .int .i64 2147483648, .int .i64 2147483648, .bool false]) w) := by
  apply Gives.of
  go_enter Try.func17, Try.ntmps17
  go_wp2
  go_returns
  exact ⟨rfl, by go_grown⟩

theorem refLimits_any (a b c : Int) (u : Bool) (w : World) :
    Calls Try.prog 16 #[.agg #[.int .i64 a, .int .i64 b, .int .i64 c, .bool u]] w (Gives (.agg #[.int .i64 a, .int .i64 b, .int .i64 c, .int .i64 (if u then 1 else 0)]) w) := by
  apply Gives.of
  cases u
  all_goals
    go_enter Try.func16, Try.ntmps16
    go_wp2
    go_returns
    exact ⟨rfl, by go_grown⟩

theorem limits_any (a b c : Int) (u : Bool) (w : World) :
    Calls Try.prog 4 #[.agg #[.int .i64 a, .int .i64 b, .int .i64 c, .bool u]] w (Gives (.bool true) w) := by
  apply Gives.of
  have hcell := fun (W : World) (x : Later W) => x.cell
  have HW := Lib.hid (fun W => checkLimits_ok 2147483648 2147483648 2147483648 false W (by decide))
  cases h : fitsB a b c
  · have HF := Lib.hid (fun u W => h ▸ fits_any a b c u W)
    go_enter Try.func4, Try.ntmps4
    go_wp2_with (first | (go_at_call 16; (first | (with_reducible refine (later_call _ (refLimits_any _ _ _ _ _)).mono ?_) | (with_reducible refine (call_later (refLimits_any _ _ _ _ _)).mono ?_)); rintro e w' ⟨rfl, x, rfl⟩) | (go_at_call 15; (first | (with_reducible refine (later_call _ (HF.out _ _)).mono ?_) | (with_reducible refine (call_later (HF.out _ _)).mono ?_)); rintro e w' ⟨rfl, x, rfl⟩) | ((go_at_call 17; (first | (with_reducible refine (later_call _ (wide_any _)).mono ?_) | (with_reducible refine (call_later (wide_any _)).mono ?_)); rintro e w' ⟨rfl, x, rfl⟩); have hz := Later.lt1 x; have hz' : w.heap.size < x.w.heap.size + 1 := Nat.lt_succ_of_lt hz) | (go_at_call 18; (first | (with_reducible refine (call_later (HW.out _)).mono ?_) | (with_reducible refine (later_call _ (checkLimits_no _ _ _ _ _ h)).mono ?_) | (with_reducible refine (call_later (checkLimits_no _ _ _ _ _ h)).mono ?_)); rintro e w' ⟨rfl, y, rfl⟩) | (go_at_call 12; (first | (with_reducible refine (later_call _ (awake_any _)).mono ?_) | (with_reducible refine (call_later (awake_any _)).mono ?_)); rintro e w' ⟨rfl, x, rfl⟩))
    all_goals go_ret
    all_goals (refine ⟨rfl, ?_⟩; (repeat (first | (with_reducible exact Below.refl _ _) | (with_reducible refine later_below _ ?_) | (with_reducible refine alloc_below ?_ _) | (with_reducible refine Below.drew ?_))))
  · have HF := Lib.hid (fun u W => h ▸ fits_any a b c u W)
    go_enter Try.func4, Try.ntmps4
    go_wp2_with (first | (go_at_call 16; (first | (with_reducible refine (later_call _ (refLimits_any _ _ _ _ _)).mono ?_) | (with_reducible refine (call_later (refLimits_any _ _ _ _ _)).mono ?_)); rintro e w' ⟨rfl, x, rfl⟩) | (go_at_call 15; (first | (with_reducible refine (later_call _ (HF.out _ _)).mono ?_) | (with_reducible refine (call_later (HF.out _ _)).mono ?_)); rintro e w' ⟨rfl, x, rfl⟩) | ((go_at_call 17; (first | (with_reducible refine (later_call _ (wide_any _)).mono ?_) | (with_reducible refine (call_later (wide_any _)).mono ?_)); rintro e w' ⟨rfl, x, rfl⟩); have hz := Later.lt1 x; have hz' : w.heap.size < x.w.heap.size + 1 := Nat.lt_succ_of_lt hz) | (go_at_call 18; (first | (with_reducible refine (call_later (HW.out _)).mono ?_) | (with_reducible refine (later_call _ (checkLimits_ok _ _ _ _ _ h)).mono ?_) | (with_reducible refine (call_later (checkLimits_ok _ _ _ _ _ h)).mono ?_)); rintro e w' ⟨rfl, y, rfl⟩) | (go_at_call 12; (first | (with_reducible refine (later_call _ (awake_any _)).mono ?_) | (with_reducible refine (call_later (awake_any _)).mono ?_)); rintro e w' ⟨rfl, x, rfl⟩))
    all_goals go_ret
    all_goals (refine ⟨rfl, ?_⟩; (repeat (first | (with_reducible exact Below.refl _ _) | (with_reducible refine later_below _ ?_) | (with_reducible refine alloc_below ?_ _) | (with_reducible refine Below.drew ?_))))

set_option maxRecDepth 100000 in
theorem dialectLimits_lifted (os : Os) (started : os.Started) (H : Type) (enc : TypeId × Value → H) :
    ReturnsInHanded {} Try.checked os 4 .any (Rows.dialectLimitsSpec.pre6 enc Try.prog Try.f4 Rows.dialectLimitsRow.domain false) (Rows.dialectLimitsSpec.post enc Try.prog Try.f4 false true false false) := by
  refine law_lift (C := Try.checked) (tb := 4) Try.own Try.laidOut started (by kernel_rfl) Try.func4
    (ChangeSpec.witness6 (enc := enc) (C := Try.checked) false ⟨#[], #[.agg #[.int .i64 0, .int .i64 0, .int .i64 0, .bool false]], []⟩ 8 (by kernel_rfl) (by kernel_rfl) (by kernel_rfl) (by kernel_rfl))
    rfl Try.underlying4 (by intro t ht; have ht' : t ∈ [37] := ht; simp at ht'; subst ht'; exact ⟨by kernel_rfl, of_decide_eq_true (by kernel_rfl)⟩) rfl
    (fun ds h => match ds, h with | [_], _ => rfl) ?_
  intro W base args ds ps hh
  obtain ⟨v, d, p, rfl, hv, h0⟩ := handed_one Try.params4 hh
  obtain ⟨a, b, c, u, _, _, _, rfl⟩ := open_limits hv h0
  exact limits_any a b c u W

theorem dialectLimits_holds : Rows.DialectLimitsSaid :=
  OpenClaim.holds_of_wide 4 Try.f4 rfl rfl rfl rfl rfl rfl rfl ⟨rfl, rfl, rfl, rfl, rfl⟩ rfl rfl rfl rfl rfl (by kernel_rfl) Try.func4 (by kernel_rfl)
    (of_decide_eq_true (by kernel_rfl)) (by unfold Func.isWrapper; first | (rw [if_pos (by decide +kernel)]; kernel_rfl) | (rw [if_neg (by decide +kernel)]; exact ⟨rfl, rfl⟩))
    (fun os started H enc _ => dialectLimits_lifted os started H enc)
#print axioms dialectLimits_holds

end Go.Proofs.Ytcnahofojjkacaa
