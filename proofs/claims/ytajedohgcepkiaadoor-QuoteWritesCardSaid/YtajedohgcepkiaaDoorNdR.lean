/-
  Walks: has a text a byte in it; why a field must be quoted, by the document.
-/
import Derived.Test.YtajedohgcepkiaaDoorRows
import Derived.Test.YtajedohgcepkiaaDoorBmR
import Derived.Test.YtajedohgcepkiaaDoorOk
namespace Go.Proofs.YtajedohgcepkiaaDoor
open Go.RowKit

def hasC (s : ByteArray) (b : Nat) : Bool := decide (∃ i, i < s.size ∧ byt s i = (b : Int))
theorem hasC_yes {s : ByteArray} {b i : Nat} (hi : i < s.size) (h : byt s i = (b : Int)) : hasC s b = true := decide_eq_true ⟨i, hi, h⟩
theorem hasC_no {s : ByteArray} {b : Nat} (h : ∀ i, i < s.size → byt s i ≠ (b : Int)) : hasC s b = false := decide_eq_false (by rintro ⟨i, hi, e⟩; exact h i hi e)
theorem hasC_not {s : ByteArray} {b : Nat} (h : hasC s b = false) : ∀ i, i < s.size → byt s i ≠ (b : Int) := fun i hi e => by rw [hasC_yes hi e] at h; cases h
theorem hasC_at {s : ByteArray} {b : Nat} (h : hasC s b = true) : ∃ i, i < s.size ∧ byt s i = (b : Int) := of_decide_eq_true h

def whyN (p q : Nat) (f : ByteArray) (alone first : Bool) : Nat :=
  if hasC f p = true then 1 else if hasC f q = true then 2 else if (hasC f 13 || hasC f 10) = true then 3 else if f.size = 0 ∧ alone = true then 4 else if first = true ∧ Bom.hadB f = true then 5 else 0

set_option maxHeartbeats 1000000 in
theorem has8_any (s : ByteArray) (b : Nat) (w : World) (hs : s.size ≤ maxLen) : Calls Tryd.prog 28 #[.string s, .int .i64 b] w (Gives (.bool (hasC s b)) w) := by
  apply Gives.of
  unfold maxLen at hs
  go_enter Tryd.func28, Tryd.ntmps28
  go_wp2
  go_loopw [5] (fun i (wr : World) => ∃ k : Nat, k ≤ s.size ∧ i = .int .i64 k ∧ (∀ j, j < k → byt s j ≠ (b : Int)) ∧ Below w.heap.size w wr) (fun i _ => s.size - (intOf i).toNat)
  case atStart => exact ⟨0, by omega, rfl, fun j hj => by omega, Below.refl _ _⟩
  case round =>
    obtain ⟨k, hk, rfl, hj, hb⟩ := hrel
    have HJ := Lib.hid hj
    clear hj
    by_cases c1 : k < s.size
    · have i1 : (k : Int) < (s.size : Int) := by omega
      have b1 := byt_eq s k c1
      have hw : wrap64 (byt s k) = byt s k := by have := byt_range s k; unfold wrap64; omega
      by_cases c2 : byt s k = (b : Int)
      · have e2 : (byt s k == (b : Int)) = true := by simp [c2]
        have HB := Lib.hid c2
        clear c2
        go_wp2
        go_ret
        exact ⟨ret_bool (hasC_yes c1 HB.out).symm, hb⟩
      · have e2 : (byt s k == (b : Int)) = false := by simp [c2]
        have HB := Lib.hid c2
        clear c2
        go_wp2
        go_roundw
        case rel => exact ⟨k + 1, by omega, by go_num, fun j hj' => (by
          by_cases e : j = k
          · rw [e]; exact HB.out
          · exact HJ.out j (by omega)), hb⟩
        case measure => simp [intOf]; omega
    · obtain rfl : k = s.size := by omega
      have i1 : ¬ (s.size : Int) < (s.size : Int) := by omega
      go_wp2
      go_ret
      exact ⟨ret_bool (hasC_no HJ.out).symm, hb⟩

def one01 (b : Bool) : Int := if b then 1 else 0

set_option maxHeartbeats 2000000 in
theorem refWhy_any (p q : Nat) (n : Int) (f : ByteArray) (al fi : Bool) (w : World) (hs : f.size ≤ maxLen) :
    Calls Tryd.prog 21 #[.agg #[.int .i64 p, .int .i64 q, .int .i64 n], .string f, .int .i64 (one01 al), .int .i64 (one01 fi)] w (Gives (.int .i64 (whyN p q f al fi)) w) := by
  apply Gives.of
  have hcell := fun (W : World) (x : Later W) => x.cell
  have HP := Lib.hid (fun W => has8_any f p W hs)
  have HQ := Lib.hid (fun W => has8_any f q W hs)
  have HR : Hid (∀ W, Calls Tryd.prog 28 #[.string f, .int .i64 13] W (Gives (.bool (hasC f 13)) W)) := Lib.hid (fun W => has8_any f 13 W hs)
  have HN : Hid (∀ W, Calls Tryd.prog 28 #[.string f, .int .i64 10] W (Gives (.bool (hasC f 10)) W)) := Lib.hid (fun W => has8_any f 10 W hs)
  have H3 := Lib.hid (fun W => Bom.has_three f W hs)
  unfold maxLen at hs
  have HW : Hid (whyN p q f al fi = whyN p q f al fi) := Lib.hid rfl
  generalize hwn : whyN p q f al fi = N at HW ⊢
  clear HW
  have HWN := Lib.hid hwn
  clear hwn
  unfold one01
  cases c1 : hasC f p
  · cases c2 : hasC f q
    · cases c3 : hasC f 13
      · cases c4 : hasC f 10
        · by_cases c5 : f.size = 0
          · have k5 : ((f.size : Int) == 0) = true := beq_iff_eq.2 (by omega)
            cases al
            · cases fi
              · obtain rfl : N = 0 := by rw [← HWN.out]; unfold whyN; simp [c1, c2, c3, c4]
                go_enter Tryd.func21, Tryd.ntmps21
                go_wp2_with (first | (go_at_call 28; (first | (with_reducible refine (later_call _ (HP.out _)).mono ?_) | (with_reducible refine (call_later (HP.out _)).mono ?_)); rintro e w' ⟨rfl, x, rfl⟩) | (go_at_call 28; (first | (with_reducible refine (later_call _ (HQ.out _)).mono ?_) | (with_reducible refine (call_later (HQ.out _)).mono ?_)); rintro e w' ⟨rfl, x, rfl⟩) | (go_at_call 28; (first | (with_reducible refine (later_call _ (HR.out _)).mono ?_) | (with_reducible refine (call_later (HR.out _)).mono ?_)); rintro e w' ⟨rfl, x, rfl⟩) | (go_at_call 28; (first | (with_reducible refine (later_call _ (HN.out _)).mono ?_) | (with_reducible refine (call_later (HN.out _)).mono ?_)); rintro e w' ⟨rfl, x, rfl⟩) | (go_at_call 33; (first | (with_reducible refine (later_call _ (H3.out _)).mono ?_) | (with_reducible refine (call_later (H3.out _)).mono ?_)); rintro e w' ⟨rfl, x, rfl⟩))
                all_goals (go_ret; refine ⟨rfl, ?_⟩; (repeat (first | (with_reducible exact Below.refl _ _) | (with_reducible refine later_below _ ?_) | (with_reducible refine alloc_below ?_ _) | (with_reducible refine Below.drew ?_) | (refine Below.setCell ?_ (by first | exact Nat.le_refl _ | (simp; done) | (simp; omega) | omega) _))))
              · cases c6 : Bom.hadB f
                · obtain rfl : N = 0 := by rw [← HWN.out]; unfold whyN; simp [c1, c2, c3, c4, c6]
                  go_enter Tryd.func21, Tryd.ntmps21
                  go_wp2_with (first | (go_at_call 28; (first | (with_reducible refine (later_call _ (HP.out _)).mono ?_) | (with_reducible refine (call_later (HP.out _)).mono ?_)); rintro e w' ⟨rfl, x, rfl⟩) | (go_at_call 28; (first | (with_reducible refine (later_call _ (HQ.out _)).mono ?_) | (with_reducible refine (call_later (HQ.out _)).mono ?_)); rintro e w' ⟨rfl, x, rfl⟩) | (go_at_call 28; (first | (with_reducible refine (later_call _ (HR.out _)).mono ?_) | (with_reducible refine (call_later (HR.out _)).mono ?_)); rintro e w' ⟨rfl, x, rfl⟩) | (go_at_call 28; (first | (with_reducible refine (later_call _ (HN.out _)).mono ?_) | (with_reducible refine (call_later (HN.out _)).mono ?_)); rintro e w' ⟨rfl, x, rfl⟩) | (go_at_call 33; (first | (with_reducible refine (later_call _ (H3.out _)).mono ?_) | (with_reducible refine (call_later (H3.out _)).mono ?_)); rintro e w' ⟨rfl, x, rfl⟩))
                  all_goals (go_ret; refine ⟨rfl, ?_⟩; (repeat (first | (with_reducible exact Below.refl _ _) | (with_reducible refine later_below _ ?_) | (with_reducible refine alloc_below ?_ _) | (with_reducible refine Below.drew ?_) | (refine Below.setCell ?_ (by first | exact Nat.le_refl _ | (simp; done) | (simp; omega) | omega) _))))
                · obtain rfl : N = 5 := by rw [← HWN.out]; unfold whyN; simp [c1, c2, c3, c4, c6]
                  go_enter Tryd.func21, Tryd.ntmps21
                  go_wp2_with (first | (go_at_call 28; (first | (with_reducible refine (later_call _ (HP.out _)).mono ?_) | (with_reducible refine (call_later (HP.out _)).mono ?_)); rintro e w' ⟨rfl, x, rfl⟩) | (go_at_call 28; (first | (with_reducible refine (later_call _ (HQ.out _)).mono ?_) | (with_reducible refine (call_later (HQ.out _)).mono ?_)); rintro e w' ⟨rfl, x, rfl⟩) | (go_at_call 28; (first | (with_reducible refine (later_call _ (HR.out _)).mono ?_) | (with_reducible refine (call_later (HR.out _)).mono ?_)); rintro e w' ⟨rfl, x, rfl⟩) | (go_at_call 28; (first | (with_reducible refine (later_call _ (HN.out _)).mono ?_) | (with_reducible refine (call_later (HN.out _)).mono ?_)); rintro e w' ⟨rfl, x, rfl⟩) | (go_at_call 33; (first | (with_reducible refine (later_call _ (H3.out _)).mono ?_) | (with_reducible refine (call_later (H3.out _)).mono ?_)); rintro e w' ⟨rfl, x, rfl⟩))
                  all_goals (go_ret; refine ⟨rfl, ?_⟩; (repeat (first | (with_reducible exact Below.refl _ _) | (with_reducible refine later_below _ ?_) | (with_reducible refine alloc_below ?_ _) | (with_reducible refine Below.drew ?_) | (refine Below.setCell ?_ (by first | exact Nat.le_refl _ | (simp; done) | (simp; omega) | omega) _))))
            · obtain rfl : N = 4 := by rw [← HWN.out]; unfold whyN; simp [c1, c2, c3, c4, c5]
              go_enter Tryd.func21, Tryd.ntmps21
              go_wp2_with (first | (go_at_call 28; (first | (with_reducible refine (later_call _ (HP.out _)).mono ?_) | (with_reducible refine (call_later (HP.out _)).mono ?_)); rintro e w' ⟨rfl, x, rfl⟩) | (go_at_call 28; (first | (with_reducible refine (later_call _ (HQ.out _)).mono ?_) | (with_reducible refine (call_later (HQ.out _)).mono ?_)); rintro e w' ⟨rfl, x, rfl⟩) | (go_at_call 28; (first | (with_reducible refine (later_call _ (HR.out _)).mono ?_) | (with_reducible refine (call_later (HR.out _)).mono ?_)); rintro e w' ⟨rfl, x, rfl⟩) | (go_at_call 28; (first | (with_reducible refine (later_call _ (HN.out _)).mono ?_) | (with_reducible refine (call_later (HN.out _)).mono ?_)); rintro e w' ⟨rfl, x, rfl⟩) | (go_at_call 33; (first | (with_reducible refine (later_call _ (H3.out _)).mono ?_) | (with_reducible refine (call_later (H3.out _)).mono ?_)); rintro e w' ⟨rfl, x, rfl⟩))
              all_goals (go_ret; refine ⟨rfl, ?_⟩; (repeat (first | (with_reducible exact Below.refl _ _) | (with_reducible refine later_below _ ?_) | (with_reducible refine alloc_below ?_ _) | (with_reducible refine Below.drew ?_) | (refine Below.setCell ?_ (by first | exact Nat.le_refl _ | (simp; done) | (simp; omega) | omega) _))))
          · have k5 : ((f.size : Int) == 0) = false := beq_eq_false_iff_ne.2 (by omega)
            cases fi
            · obtain rfl : N = 0 := by rw [← HWN.out]; unfold whyN; simp [c1, c2, c3, c4, c5]
              go_enter Tryd.func21, Tryd.ntmps21
              go_wp2_with (first | (go_at_call 28; (first | (with_reducible refine (later_call _ (HP.out _)).mono ?_) | (with_reducible refine (call_later (HP.out _)).mono ?_)); rintro e w' ⟨rfl, x, rfl⟩) | (go_at_call 28; (first | (with_reducible refine (later_call _ (HQ.out _)).mono ?_) | (with_reducible refine (call_later (HQ.out _)).mono ?_)); rintro e w' ⟨rfl, x, rfl⟩) | (go_at_call 28; (first | (with_reducible refine (later_call _ (HR.out _)).mono ?_) | (with_reducible refine (call_later (HR.out _)).mono ?_)); rintro e w' ⟨rfl, x, rfl⟩) | (go_at_call 28; (first | (with_reducible refine (later_call _ (HN.out _)).mono ?_) | (with_reducible refine (call_later (HN.out _)).mono ?_)); rintro e w' ⟨rfl, x, rfl⟩) | (go_at_call 33; (first | (with_reducible refine (later_call _ (H3.out _)).mono ?_) | (with_reducible refine (call_later (H3.out _)).mono ?_)); rintro e w' ⟨rfl, x, rfl⟩))
              all_goals (go_ret; refine ⟨rfl, ?_⟩; (repeat (first | (with_reducible exact Below.refl _ _) | (with_reducible refine later_below _ ?_) | (with_reducible refine alloc_below ?_ _) | (with_reducible refine Below.drew ?_) | (refine Below.setCell ?_ (by first | exact Nat.le_refl _ | (simp; done) | (simp; omega) | omega) _))))
            · cases c6 : Bom.hadB f
              · obtain rfl : N = 0 := by rw [← HWN.out]; unfold whyN; simp [c1, c2, c3, c4, c5, c6]
                go_enter Tryd.func21, Tryd.ntmps21
                go_wp2_with (first | (go_at_call 28; (first | (with_reducible refine (later_call _ (HP.out _)).mono ?_) | (with_reducible refine (call_later (HP.out _)).mono ?_)); rintro e w' ⟨rfl, x, rfl⟩) | (go_at_call 28; (first | (with_reducible refine (later_call _ (HQ.out _)).mono ?_) | (with_reducible refine (call_later (HQ.out _)).mono ?_)); rintro e w' ⟨rfl, x, rfl⟩) | (go_at_call 28; (first | (with_reducible refine (later_call _ (HR.out _)).mono ?_) | (with_reducible refine (call_later (HR.out _)).mono ?_)); rintro e w' ⟨rfl, x, rfl⟩) | (go_at_call 28; (first | (with_reducible refine (later_call _ (HN.out _)).mono ?_) | (with_reducible refine (call_later (HN.out _)).mono ?_)); rintro e w' ⟨rfl, x, rfl⟩) | (go_at_call 33; (first | (with_reducible refine (later_call _ (H3.out _)).mono ?_) | (with_reducible refine (call_later (H3.out _)).mono ?_)); rintro e w' ⟨rfl, x, rfl⟩))
                all_goals (go_ret; refine ⟨rfl, ?_⟩; (repeat (first | (with_reducible exact Below.refl _ _) | (with_reducible refine later_below _ ?_) | (with_reducible refine alloc_below ?_ _) | (with_reducible refine Below.drew ?_) | (refine Below.setCell ?_ (by first | exact Nat.le_refl _ | (simp; done) | (simp; omega) | omega) _))))
              · obtain rfl : N = 5 := by rw [← HWN.out]; unfold whyN; simp [c1, c2, c3, c4, c5, c6]
                go_enter Tryd.func21, Tryd.ntmps21
                go_wp2_with (first | (go_at_call 28; (first | (with_reducible refine (later_call _ (HP.out _)).mono ?_) | (with_reducible refine (call_later (HP.out _)).mono ?_)); rintro e w' ⟨rfl, x, rfl⟩) | (go_at_call 28; (first | (with_reducible refine (later_call _ (HQ.out _)).mono ?_) | (with_reducible refine (call_later (HQ.out _)).mono ?_)); rintro e w' ⟨rfl, x, rfl⟩) | (go_at_call 28; (first | (with_reducible refine (later_call _ (HR.out _)).mono ?_) | (with_reducible refine (call_later (HR.out _)).mono ?_)); rintro e w' ⟨rfl, x, rfl⟩) | (go_at_call 28; (first | (with_reducible refine (later_call _ (HN.out _)).mono ?_) | (with_reducible refine (call_later (HN.out _)).mono ?_)); rintro e w' ⟨rfl, x, rfl⟩) | (go_at_call 33; (first | (with_reducible refine (later_call _ (H3.out _)).mono ?_) | (with_reducible refine (call_later (H3.out _)).mono ?_)); rintro e w' ⟨rfl, x, rfl⟩))
                all_goals (go_ret; refine ⟨rfl, ?_⟩; (repeat (first | (with_reducible exact Below.refl _ _) | (with_reducible refine later_below _ ?_) | (with_reducible refine alloc_below ?_ _) | (with_reducible refine Below.drew ?_) | (refine Below.setCell ?_ (by first | exact Nat.le_refl _ | (simp; done) | (simp; omega) | omega) _))))
        · obtain rfl : N = 3 := by rw [← HWN.out]; unfold whyN; simp [c1, c2, c3, c4]
          go_enter Tryd.func21, Tryd.ntmps21
          go_wp2_with (first | (go_at_call 28; (first | (with_reducible refine (later_call _ (HP.out _)).mono ?_) | (with_reducible refine (call_later (HP.out _)).mono ?_)); rintro e w' ⟨rfl, x, rfl⟩) | (go_at_call 28; (first | (with_reducible refine (later_call _ (HQ.out _)).mono ?_) | (with_reducible refine (call_later (HQ.out _)).mono ?_)); rintro e w' ⟨rfl, x, rfl⟩) | (go_at_call 28; (first | (with_reducible refine (later_call _ (HR.out _)).mono ?_) | (with_reducible refine (call_later (HR.out _)).mono ?_)); rintro e w' ⟨rfl, x, rfl⟩) | (go_at_call 28; (first | (with_reducible refine (later_call _ (HN.out _)).mono ?_) | (with_reducible refine (call_later (HN.out _)).mono ?_)); rintro e w' ⟨rfl, x, rfl⟩) | (go_at_call 33; (first | (with_reducible refine (later_call _ (H3.out _)).mono ?_) | (with_reducible refine (call_later (H3.out _)).mono ?_)); rintro e w' ⟨rfl, x, rfl⟩))
          all_goals (go_ret; refine ⟨rfl, ?_⟩; (repeat (first | (with_reducible exact Below.refl _ _) | (with_reducible refine later_below _ ?_) | (with_reducible refine alloc_below ?_ _) | (with_reducible refine Below.drew ?_) | (refine Below.setCell ?_ (by first | exact Nat.le_refl _ | (simp; done) | (simp; omega) | omega) _))))
      · obtain rfl : N = 3 := by rw [← HWN.out]; unfold whyN; simp [c1, c2, c3]
        go_enter Tryd.func21, Tryd.ntmps21
        go_wp2_with (first | (go_at_call 28; (first | (with_reducible refine (later_call _ (HP.out _)).mono ?_) | (with_reducible refine (call_later (HP.out _)).mono ?_)); rintro e w' ⟨rfl, x, rfl⟩) | (go_at_call 28; (first | (with_reducible refine (later_call _ (HQ.out _)).mono ?_) | (with_reducible refine (call_later (HQ.out _)).mono ?_)); rintro e w' ⟨rfl, x, rfl⟩) | (go_at_call 28; (first | (with_reducible refine (later_call _ (HR.out _)).mono ?_) | (with_reducible refine (call_later (HR.out _)).mono ?_)); rintro e w' ⟨rfl, x, rfl⟩) | (go_at_call 28; (first | (with_reducible refine (later_call _ (HN.out _)).mono ?_) | (with_reducible refine (call_later (HN.out _)).mono ?_)); rintro e w' ⟨rfl, x, rfl⟩) | (go_at_call 33; (first | (with_reducible refine (later_call _ (H3.out _)).mono ?_) | (with_reducible refine (call_later (H3.out _)).mono ?_)); rintro e w' ⟨rfl, x, rfl⟩))
        all_goals (go_ret; refine ⟨rfl, ?_⟩; (repeat (first | (with_reducible exact Below.refl _ _) | (with_reducible refine later_below _ ?_) | (with_reducible refine alloc_below ?_ _) | (with_reducible refine Below.drew ?_) | (refine Below.setCell ?_ (by first | exact Nat.le_refl _ | (simp; done) | (simp; omega) | omega) _))))
    · obtain rfl : N = 2 := by rw [← HWN.out]; unfold whyN; simp [c1, c2]
      go_enter Tryd.func21, Tryd.ntmps21
      go_wp2_with (first | (go_at_call 28; (first | (with_reducible refine (later_call _ (HP.out _)).mono ?_) | (with_reducible refine (call_later (HP.out _)).mono ?_)); rintro e w' ⟨rfl, x, rfl⟩) | (go_at_call 28; (first | (with_reducible refine (later_call _ (HQ.out _)).mono ?_) | (with_reducible refine (call_later (HQ.out _)).mono ?_)); rintro e w' ⟨rfl, x, rfl⟩) | (go_at_call 28; (first | (with_reducible refine (later_call _ (HR.out _)).mono ?_) | (with_reducible refine (call_later (HR.out _)).mono ?_)); rintro e w' ⟨rfl, x, rfl⟩) | (go_at_call 28; (first | (with_reducible refine (later_call _ (HN.out _)).mono ?_) | (with_reducible refine (call_later (HN.out _)).mono ?_)); rintro e w' ⟨rfl, x, rfl⟩) | (go_at_call 33; (first | (with_reducible refine (later_call _ (H3.out _)).mono ?_) | (with_reducible refine (call_later (H3.out _)).mono ?_)); rintro e w' ⟨rfl, x, rfl⟩))
      all_goals (go_ret; refine ⟨rfl, ?_⟩; (repeat (first | (with_reducible exact Below.refl _ _) | (with_reducible refine later_below _ ?_) | (with_reducible refine alloc_below ?_ _) | (with_reducible refine Below.drew ?_) | (refine Below.setCell ?_ (by first | exact Nat.le_refl _ | (simp; done) | (simp; omega) | omega) _))))
  · obtain rfl : N = 1 := by rw [← HWN.out]; unfold whyN; simp [c1]
    go_enter Tryd.func21, Tryd.ntmps21
    go_wp2_with (first | (go_at_call 28; (first | (with_reducible refine (later_call _ (HP.out _)).mono ?_) | (with_reducible refine (call_later (HP.out _)).mono ?_)); rintro e w' ⟨rfl, x, rfl⟩) | (go_at_call 28; (first | (with_reducible refine (later_call _ (HQ.out _)).mono ?_) | (with_reducible refine (call_later (HQ.out _)).mono ?_)); rintro e w' ⟨rfl, x, rfl⟩) | (go_at_call 28; (first | (with_reducible refine (later_call _ (HR.out _)).mono ?_) | (with_reducible refine (call_later (HR.out _)).mono ?_)); rintro e w' ⟨rfl, x, rfl⟩) | (go_at_call 28; (first | (with_reducible refine (later_call _ (HN.out _)).mono ?_) | (with_reducible refine (call_later (HN.out _)).mono ?_)); rintro e w' ⟨rfl, x, rfl⟩) | (go_at_call 33; (first | (with_reducible refine (later_call _ (H3.out _)).mono ?_) | (with_reducible refine (call_later (H3.out _)).mono ?_)); rintro e w' ⟨rfl, x, rfl⟩))
    all_goals (go_ret; refine ⟨rfl, ?_⟩; (repeat (first | (with_reducible exact Below.refl _ _) | (with_reducible refine later_below _ ?_) | (with_reducible refine alloc_below ?_ _) | (with_reducible refine Below.drew ?_) | (refine Below.setCell ?_ (by first | exact Nat.le_refl _ | (simp; done) | (simp; omega) | omega) _))))

end Go.Proofs.YtajedohgcepkiaaDoor
