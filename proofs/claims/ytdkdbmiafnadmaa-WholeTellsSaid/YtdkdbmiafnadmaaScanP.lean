/-
  Walks: what the program says a byte comes to.
-/
import Derived.Test.YtdkdbmiafnadmaaRows
import Derived.Test.YtdkdbmiafnadmaaScanM
import Derived.Lib.Hide
namespace Go.Proofs.Ytdkdbmiafnadmaa
open Go.RowKit

theorem within_any (p q b : Nat) (n : Int) (w : World) : Calls Try.prog 67 #[.agg #[.int .u8 p, .int .u8 q, .int .i64 n], .int .u8 b] w (Gives (outP (inV q b)) w) := by
  apply Gives.of
  by_cases h : b = q
  · subst h
    have e : inV b b = ⟨ev0, 4, 0⟩ := by simp [inV]
    rw [e]
    go_enter Try.func67, Try.ntmps67
    go_wp2
    refine bodyPost_ret (v := outP ⟨ev0, 4, 0⟩) (by simp (maxDischargeDepth := 8) [results, Try.results67, go_sem, outP, evP, ev0]) rfl ⟨rfl, ?_⟩
    (repeat (first | (with_reducible exact Below.refl _ _) | (with_reducible refine later_below _ ?_) | (with_reducible refine alloc_below ?_ _) | (with_reducible refine Below.drew ?_) | (refine Below.setCell ?_ (by first | exact Nat.le_refl _ | (simp; done) | (simp; omega) | omega) _)))
  · have e : inV q b = ⟨evA b, 3, 0⟩ := by simp [inV, h]
    have h1 : ((b : Int) == (q : Int)) = false := beq_eq_false_iff_ne.2 (by omega)
    have h2 : decide ((b : Int) = (q : Int)) = false := decide_eq_false (by omega)
    rw [e]
    go_enter Try.func67, Try.ntmps67
    go_wp2
    refine bodyPost_ret (v := outP ⟨evA b, 3, 0⟩) (by simp (maxDischargeDepth := 8) [results, Try.results67, go_sem, outP, evP, evA]) rfl ⟨rfl, ?_⟩
    (repeat (first | (with_reducible exact Below.refl _ _) | (with_reducible refine later_below _ ?_) | (with_reducible refine alloc_below ?_ _) | (with_reducible refine Below.drew ?_) | (refine Below.setCell ?_ (by first | exact Nat.le_refl _ | (simp; done) | (simp; omega) | omega) _)))

theorem behind_any (v : Ev) (b : Nat) (w : World) : Calls Try.prog 68 #[evP v, .int .u8 b] w (Gives (outP (behV v b)) w) := by
  apply Gives.of
  by_cases h : b = 10
  · subst h
    have e : behV v 10 = ⟨v, 0, 0⟩ := by simp [behV]
    rw [e]
    unfold evP outP
    go_enter Try.func68, Try.ntmps68
    go_wp2
    refine bodyPost_ret (v := outP ⟨v, 0, 0⟩) (by simp (maxDischargeDepth := 8) [results, Try.results68, go_sem, outP, evP]) rfl ⟨rfl, ?_⟩
    (repeat (first | (with_reducible exact Below.refl _ _) | (with_reducible refine later_below _ ?_) | (with_reducible refine alloc_below ?_ _) | (with_reducible refine Below.drew ?_) | (refine Below.setCell ?_ (by first | exact Nat.le_refl _ | (simp; done) | (simp; omega) | omega) _)))
  · have e : behV v b = ⟨ev0, 0, 6⟩ := by simp [behV, h]
    have h1 : ((b : Int) != 10) = true := bne_iff_ne.2 (by omega)
    have h2 : decide ((b : Int) = 10) = false := decide_eq_false (by omega)
    rw [e]
    unfold evP
    go_enter Try.func68, Try.ntmps68
    go_wp2
    refine bodyPost_ret (v := outP ⟨ev0, 0, 6⟩) (by simp (maxDischargeDepth := 8) [results, Try.results68, go_sem, outP, evP, ev0]) rfl ⟨rfl, ?_⟩
    (repeat (first | (with_reducible exact Below.refl _ _) | (with_reducible refine later_below _ ?_) | (with_reducible refine alloc_below ?_ _) | (with_reducible refine Below.drew ?_) | (refine Below.setCell ?_ (by first | exact Nat.le_refl _ | (simp; done) | (simp; omega) | omega) _)))

set_option maxHeartbeats 4000000 in
theorem quote_any (s b : Nat) (w : World) (hs : s ≤ 6) : Calls Try.prog 72 #[.int .i64 s, .int .u8 b] w (Gives (outP (quoV s b)) w) := by
  apply Gives.of
  have hk : s = 0 ∨ s = 1 ∨ s = 2 ∨ s = 3 ∨ s = 4 ∨ s = 5 ∨ s = 6 := by omega
  rcases hk with rfl | rfl | rfl | rfl | rfl | rfl | rfl
  · go_enter Try.func72, Try.ntmps72
    go_wp2
    refine bodyPost_ret (v := outP (quoV 0 b)) (by simp (maxDischargeDepth := 8) [results, Try.results72, go_sem, outP, quoV, evP]) rfl ⟨rfl, ?_⟩
    (repeat (first | (with_reducible exact Below.refl _ _) | (with_reducible refine later_below _ ?_) | (with_reducible refine alloc_below ?_ _) | (with_reducible refine Below.drew ?_) | (refine Below.setCell ?_ (by first | exact Nat.le_refl _ | (simp; done) | (simp; omega) | omega) _)))
  · go_enter Try.func72, Try.ntmps72
    go_wp2
    refine bodyPost_ret (v := outP (quoV 1 b)) (by simp (maxDischargeDepth := 8) [results, Try.results72, go_sem, outP, quoV, evP]) rfl ⟨rfl, ?_⟩
    (repeat (first | (with_reducible exact Below.refl _ _) | (with_reducible refine later_below _ ?_) | (with_reducible refine alloc_below ?_ _) | (with_reducible refine Below.drew ?_) | (refine Below.setCell ?_ (by first | exact Nat.le_refl _ | (simp; done) | (simp; omega) | omega) _)))
  · go_enter Try.func72, Try.ntmps72
    go_wp2
    refine bodyPost_ret (v := outP (quoV 2 b)) (by simp (maxDischargeDepth := 8) [results, Try.results72, go_sem, outP, quoV, evP, ev0]) rfl ⟨rfl, ?_⟩
    (repeat (first | (with_reducible exact Below.refl _ _) | (with_reducible refine later_below _ ?_) | (with_reducible refine alloc_below ?_ _) | (with_reducible refine Below.drew ?_) | (refine Below.setCell ?_ (by first | exact Nat.le_refl _ | (simp; done) | (simp; omega) | omega) _)))
  · go_enter Try.func72, Try.ntmps72
    go_wp2
    refine bodyPost_ret (v := outP (quoV 3 b)) (by simp (maxDischargeDepth := 8) [results, Try.results72, go_sem, outP, quoV, evP]) rfl ⟨rfl, ?_⟩
    (repeat (first | (with_reducible exact Below.refl _ _) | (with_reducible refine later_below _ ?_) | (with_reducible refine alloc_below ?_ _) | (with_reducible refine Below.drew ?_) | (refine Below.setCell ?_ (by first | exact Nat.le_refl _ | (simp; done) | (simp; omega) | omega) _)))
  · go_enter Try.func72, Try.ntmps72
    go_wp2
    refine bodyPost_ret (v := outP (quoV 4 b)) (by simp (maxDischargeDepth := 8) [results, Try.results72, go_sem, outP, quoV, evP, evA]) rfl ⟨rfl, ?_⟩
    (repeat (first | (with_reducible exact Below.refl _ _) | (with_reducible refine later_below _ ?_) | (with_reducible refine alloc_below ?_ _) | (with_reducible refine Below.drew ?_) | (refine Below.setCell ?_ (by first | exact Nat.le_refl _ | (simp; done) | (simp; omega) | omega) _)))
  · go_enter Try.func72, Try.ntmps72
    go_wp2
    refine bodyPost_ret (v := outP (quoV 5 b)) (by simp (maxDischargeDepth := 8) [results, Try.results72, go_sem, outP, quoV, evP]) rfl ⟨rfl, ?_⟩
    (repeat (first | (with_reducible exact Below.refl _ _) | (with_reducible refine later_below _ ?_) | (with_reducible refine alloc_below ?_ _) | (with_reducible refine Below.drew ?_) | (refine Below.setCell ?_ (by first | exact Nat.le_refl _ | (simp; done) | (simp; omega) | omega) _)))
  · go_enter Try.func72, Try.ntmps72
    go_wp2
    refine bodyPost_ret (v := outP (quoV 6 b)) (by simp (maxDischargeDepth := 8) [results, Try.results72, go_sem, outP, quoV, evP]) rfl ⟨rfl, ?_⟩
    (repeat (first | (with_reducible exact Below.refl _ _) | (with_reducible refine later_below _ ?_) | (with_reducible refine alloc_below ?_ _) | (with_reducible refine Below.drew ?_) | (refine Below.setCell ?_ (by first | exact Nat.le_refl _ | (simp; done) | (simp; omega) | omega) _)))

theorem may_any (p q b : Nat) (n : Int) (w : World) : Calls Try.prog 74 #[.agg #[.int .u8 p, .int .u8 q, .int .i64 n], .int .u8 b] w (Gives (.bool (mayV n b)) w) := by
  apply Gives.of
  by_cases h : b = 13
  · subst h
    go_enter Try.func74, Try.ntmps74
    go_wp2
    go_ret
    refine ⟨ret_bool ?_, ?_⟩
    · unfold mayV; simp
    (repeat (first | (with_reducible exact Below.refl _ _) | (with_reducible refine later_below _ ?_) | (with_reducible refine alloc_below ?_ _) | (with_reducible refine Below.drew ?_) | (refine Below.setCell ?_ (by first | exact Nat.le_refl _ | (simp; done) | (simp; omega) | omega) _)))
  · have h2 : decide ((b : Int) = 13) = false := decide_eq_false (by omega)
    have h1 : ((b : Int) == 13) = false := beq_eq_false_iff_ne.2 (by omega)
    go_enter Try.func74, Try.ntmps74
    go_wp2
    go_ret
    refine ⟨ret_bool ?_, ?_⟩
    · unfold mayV; simp [h]
    (repeat (first | (with_reducible exact Below.refl _ _) | (with_reducible refine later_below _ ?_) | (with_reducible refine alloc_below ?_ _) | (with_reducible refine Below.drew ?_) | (refine Below.setCell ?_ (by first | exact Nat.le_refl _ | (simp; done) | (simp; omega) | omega) _)))

end Go.Proofs.Ytdkdbmiafnadmaa
