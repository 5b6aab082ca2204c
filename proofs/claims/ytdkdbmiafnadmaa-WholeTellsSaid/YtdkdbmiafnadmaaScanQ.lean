/-
  Walks: what the program says a byte comes to outside of quotes.
-/
import Derived.Test.YtdkdbmiafnadmaaRows
import Derived.Test.YtdkdbmiafnadmaaScanP
namespace Go.Proofs.Ytdkdbmiafnadmaa
open Go.RowKit

set_option maxHeartbeats 4000000 in
theorem end_any (p q s b : Nat) (n : Int) (w : World) : Calls Try.prog 73 #[.agg #[.int .u8 p, .int .u8 q, .int .i64 n], .int .i64 s, .int .u8 b] w (Gives (outP (endV n s b)) w) := by
  apply Gives.of
  have hcell := fun (W : World) (x : Later W) => x.cell
  have hfrozen := fun (W : World) (x : Later W) => x.frozen
  have hset := set_same
  obtain ⟨m, hm⟩ : ∃ m, mayV n b = m := ⟨_, rfl⟩
  cases m with
  | false =>
    have HM := Lib.hid (fun W => hm ▸ may_any p q b n W)
    have e : endV n s b = ⟨ev0, 0, 6⟩ := by unfold endV; rw [if_pos hm]
    rw [e]
    clear e hm
    go_enter Try.func73, Try.ntmps73
    go_wp2_with ((go_at_call 74; (first | (with_reducible refine (later_call _ (HM.out _)).mono ?_) | (with_reducible refine (call_later (HM.out _)).mono ?_)); rintro e w' ⟨rfl, x, rfl⟩))
    refine bodyPost_ret (v := outP ⟨ev0, 0, 6⟩) (by simp (maxDischargeDepth := 8) [results, Try.results73, go_sem, outP, evP, ev0, hcell, hset]) rfl ⟨rfl, ?_⟩
    (repeat (first | (with_reducible exact Below.refl _ _) | (with_reducible refine later_below _ ?_) | (with_reducible refine alloc_below ?_ _) | (with_reducible refine Below.drew ?_) | (refine Below.setCell ?_ (by first | exact Nat.le_refl _ | (simp; done) | (simp; omega) | omega) _)))
  | true =>
    by_cases h : b = 13
    · have HM := Lib.hid (show ∀ W, Calls Try.prog 74 #[.agg #[.int .u8 p, .int .u8 q, .int .i64 n], .int .u8 13] W (Gives (.bool true) W) from fun W => by subst h; exact hm ▸ may_any p q 13 n W)
      have g1 : ((b : Int) == 13) = true := beq_iff_eq.2 (by omega)
      have g2 : decide ((b : Int) = 13) = true := decide_eq_true (by omega)
      by_cases h0 : s = 0
      · have k1 : ((s : Int) == 0) = true := beq_iff_eq.2 (by omega)
        have k2 : decide ((s : Int) = 0) = true := decide_eq_true (by omega)
        have e : endV n s b = ⟨ev0, 6, 0⟩ := by unfold endV; rw [hm]; simp [h, h0]
        rw [e]
        clear e hm
        go_enter Try.func73, Try.ntmps73
        go_wp2_with ((go_at_call 74; (first | (with_reducible refine (later_call _ (HM.out _)).mono ?_) | (with_reducible refine (call_later (HM.out _)).mono ?_)); rintro e w' ⟨rfl, x, rfl⟩))
        refine bodyPost_ret (v := outP ⟨ev0, 6, 0⟩) (by simp (maxDischargeDepth := 8) [results, Try.results73, go_sem, outP, evP, ev0, hcell, hset]) rfl ⟨rfl, ?_⟩
        (repeat (first | (with_reducible exact Below.refl _ _) | (with_reducible refine later_below _ ?_) | (with_reducible refine alloc_below ?_ _) | (with_reducible refine Below.drew ?_) | (refine Below.setCell ?_ (by first | exact Nat.le_refl _ | (simp; done) | (simp; omega) | omega) _)))
      · have k1 : ((s : Int) == 0) = false := beq_eq_false_iff_ne.2 (by omega)
        have k2 : decide ((s : Int) = 0) = false := decide_eq_false (by omega)
        have e : endV n s b = ⟨⟨false, false, false, true, false, 0⟩, 5, 0⟩ := by unfold endV; rw [hm]; simp [h, h0]
        rw [e]
        clear e hm
        go_enter Try.func73, Try.ntmps73
        go_wp2_with ((go_at_call 74; (first | (with_reducible refine (later_call _ (HM.out _)).mono ?_) | (with_reducible refine (call_later (HM.out _)).mono ?_)); rintro e w' ⟨rfl, x, rfl⟩))
        refine bodyPost_ret (v := outP ⟨⟨false, false, false, true, false, 0⟩, 5, 0⟩) (by simp (maxDischargeDepth := 8) [results, Try.results73, go_sem, outP, evP, hcell, hset]) rfl ⟨rfl, ?_⟩
        (repeat (first | (with_reducible exact Below.refl _ _) | (with_reducible refine later_below _ ?_) | (with_reducible refine alloc_below ?_ _) | (with_reducible refine Below.drew ?_) | (refine Below.setCell ?_ (by first | exact Nat.le_refl _ | (simp; done) | (simp; omega) | omega) _)))
    · have HM := Lib.hid (fun W => hm ▸ may_any p q b n W)
      have g1 : ((b : Int) == 13) = false := beq_eq_false_iff_ne.2 (by omega)
      have g2 : decide ((b : Int) = 13) = false := decide_eq_false (by omega)
      by_cases h0 : s = 0
      · have k1 : ((s : Int) == 0) = true := beq_iff_eq.2 (by omega)
        have k2 : decide ((s : Int) = 0) = true := decide_eq_true (by omega)
        have e : endV n s b = ⟨ev0, 0, 0⟩ := by unfold endV; rw [hm]; simp [h, h0]
        rw [e]
        clear e hm
        go_enter Try.func73, Try.ntmps73
        go_wp2_with ((go_at_call 74; (first | (with_reducible refine (later_call _ (HM.out _)).mono ?_) | (with_reducible refine (call_later (HM.out _)).mono ?_)); rintro e w' ⟨rfl, x, rfl⟩))
        refine bodyPost_ret (v := outP ⟨ev0, 0, 0⟩) (by simp (maxDischargeDepth := 8) [results, Try.results73, go_sem, outP, evP, ev0, hcell, hset]) rfl ⟨rfl, ?_⟩
        (repeat (first | (with_reducible exact Below.refl _ _) | (with_reducible refine later_below _ ?_) | (with_reducible refine alloc_below ?_ _) | (with_reducible refine Below.drew ?_) | (refine Below.setCell ?_ (by first | exact Nat.le_refl _ | (simp; done) | (simp; omega) | omega) _)))
      · have k1 : ((s : Int) == 0) = false := beq_eq_false_iff_ne.2 (by omega)
        have k2 : decide ((s : Int) = 0) = false := decide_eq_false (by omega)
        have e : endV n s b = ⟨⟨false, false, false, true, true, 0⟩, 0, 0⟩ := by unfold endV; rw [hm]; simp [h, h0]
        rw [e]
        clear e hm
        go_enter Try.func73, Try.ntmps73
        go_wp2_with ((go_at_call 74; (first | (with_reducible refine (later_call _ (HM.out _)).mono ?_) | (with_reducible refine (call_later (HM.out _)).mono ?_)); rintro e w' ⟨rfl, x, rfl⟩))
        refine bodyPost_ret (v := outP ⟨⟨false, false, false, true, true, 0⟩, 0, 0⟩) (by simp (maxDischargeDepth := 8) [results, Try.results73, go_sem, outP, evP, hcell, hset]) rfl ⟨rfl, ?_⟩
        (repeat (first | (with_reducible exact Below.refl _ _) | (with_reducible refine later_below _ ?_) | (with_reducible refine alloc_below ?_ _) | (with_reducible refine Below.drew ?_) | (refine Below.setCell ?_ (by first | exact Nat.le_refl _ | (simp; done) | (simp; omega) | omega) _)))

end Go.Proofs.Ytdkdbmiafnadmaa
