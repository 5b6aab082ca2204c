/-
  Walks: the document's column.
-/
import Derived.Test.YtmolcpfbbhmabaaRows
import Derived.Test.YtmolcpfbbhmabaaScanM
import Derived.Lib.Hide
namespace Go.Proofs.Ytmolcpfbbhmabaa
open Go.RowKit

def colN (p q b : Nat) : Nat := if b = q then 0 else if b = p then 1 else if b = 13 then 2 else if b = 10 then 3 else 4

set_option maxHeartbeats 1000000 in
theorem column_any (p q b : Nat) (n : Int) (w : World) : Calls Try.prog 19 #[.agg #[.int .i64 p, .int .i64 q, .int .i64 n], .int .i64 b] w (Gives (.int .i64 (colN p q b)) w) := by
  apply Gives.of
  unfold colN
  by_cases h1 : b = q
  · subst h1
    rw [if_pos rfl]
    go_enter Try.func19, Try.ntmps19
    go_wp2
    go_ret
    refine ⟨rfl, ?_⟩
    (repeat (first | (with_reducible exact Below.refl _ _) | (with_reducible refine later_below _ ?_) | (with_reducible refine alloc_below ?_ _) | (with_reducible refine Below.drew ?_) | (refine Below.setCell ?_ (by first | exact Nat.le_refl _ | (simp; done) | (simp; omega) | omega) _)))
  · rw [if_neg h1]
    have a1 : ((b : Int) == q) = false := beq_eq_false_iff_ne.2 (by omega)
    have a2 : decide ((b : Int) = q) = false := decide_eq_false (by omega)
    by_cases h2 : b = p
    · subst h2
      rw [if_pos rfl]
      go_enter Try.func19, Try.ntmps19
      go_wp2
      go_ret
      refine ⟨rfl, ?_⟩
      (repeat (first | (with_reducible exact Below.refl _ _) | (with_reducible refine later_below _ ?_) | (with_reducible refine alloc_below ?_ _) | (with_reducible refine Below.drew ?_) | (refine Below.setCell ?_ (by first | exact Nat.le_refl _ | (simp; done) | (simp; omega) | omega) _)))
    · rw [if_neg h2]
      have b1 : ((b : Int) == p) = false := beq_eq_false_iff_ne.2 (by omega)
      have b2 : decide ((b : Int) = p) = false := decide_eq_false (by omega)
      by_cases h3 : b = 13
      · rw [if_pos h3]
        have c1 : ((b : Int) == 13) = true := beq_iff_eq.2 (by omega)
        have c2 : decide ((b : Int) = 13) = true := decide_eq_true (by omega)
        go_enter Try.func19, Try.ntmps19
        go_wp2
        go_ret
        refine ⟨rfl, ?_⟩
        (repeat (first | (with_reducible exact Below.refl _ _) | (with_reducible refine later_below _ ?_) | (with_reducible refine alloc_below ?_ _) | (with_reducible refine Below.drew ?_) | (refine Below.setCell ?_ (by first | exact Nat.le_refl _ | (simp; done) | (simp; omega) | omega) _)))
      · rw [if_neg h3]
        have c1 : ((b : Int) == 13) = false := beq_eq_false_iff_ne.2 (by omega)
        have c2 : decide ((b : Int) = 13) = false := decide_eq_false (by omega)
        by_cases h4 : b = 10
        · rw [if_pos h4]
          have d1 : ((b : Int) == 10) = true := beq_iff_eq.2 (by omega)
          have d2 : decide ((b : Int) = 10) = true := decide_eq_true (by omega)
          go_enter Try.func19, Try.ntmps19
          go_wp2
          go_ret
          refine ⟨rfl, ?_⟩
          (repeat (first | (with_reducible exact Below.refl _ _) | (with_reducible refine later_below _ ?_) | (with_reducible refine alloc_below ?_ _) | (with_reducible refine Below.drew ?_) | (refine Below.setCell ?_ (by first | exact Nat.le_refl _ | (simp; done) | (simp; omega) | omega) _)))
        · rw [if_neg h4]
          have d1 : ((b : Int) == 10) = false := beq_eq_false_iff_ne.2 (by omega)
          have d2 : decide ((b : Int) = 10) = false := decide_eq_false (by omega)
          go_enter Try.func19, Try.ntmps19
          go_wp2
          go_ret
          refine ⟨rfl, ?_⟩
          (repeat (first | (with_reducible exact Below.refl _ _) | (with_reducible refine later_below _ ?_) | (with_reducible refine alloc_below ?_ _) | (with_reducible refine Below.drew ?_) | (refine Below.setCell ?_ (by first | exact Nat.le_refl _ | (simp; done) | (simp; omega) | omega) _)))

/-- What a column of a state comes to. -/
def rowV (n : Int) (s c b : Nat) : Out :=
  match c with
  | 0 => stepV 0 b n s b
  | 1 => stepV b 128 n s b
  | 2 => stepV 0 128 n s 13
  | 3 => stepV 0 128 n s 10
  | _ => stepV 128 129 n s b

end Go.Proofs.Ytmolcpfbbhmabaa
