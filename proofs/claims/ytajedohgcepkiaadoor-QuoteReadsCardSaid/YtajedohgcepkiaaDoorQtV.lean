/-
  Walks: the field that a text is, by the document, whole.
-/
import Derived.Test.YtajedohgcepkiaaDoorRows
import Derived.Test.YtajedohgcepkiaaDoorQtU
namespace Go.Proofs.YtajedohgcepkiaaDoor
open Go.RowKit Qt Nd

def refTail (s : ByteArray) (N : Nat) : Value := refV (if N = 0 then (s, false, 0) else (⟨#[]⟩, false, 23))

set_option maxRecDepth 100000 in
set_option maxHeartbeats 4000000 in
theorem refUnq_none (p q : Nat) (n : Int) (s : ByteArray) (w : World) (h0 : s.size = 0) :
    Calls Tryd.prog 17 #[.agg #[.int .i64 p, .int .i64 q, .int .i64 n], .string s] w (Gives (refTail s (whyN p q s false false)) w) := by
  apply Gives.of
  have hcell := fun (W : World) (x : Later W) => x.cell
  have HP := Lib.hid (fun W => has8_any s p W (by unfold maxLen; omega))
  have HQ := Lib.hid (fun W => has8_any s q W (by unfold maxLen; omega))
  have HR : Hid (∀ W, Calls Tryd.prog 28 #[.string s, .int .i64 13] W (Gives (.bool (hasC s 13)) W)) := Lib.hid (fun W => has8_any s 13 W (by unfold maxLen; omega))
  have HN : Hid (∀ W, Calls Tryd.prog 28 #[.string s, .int .i64 10] W (Gives (.bool (hasC s 10)) W)) := Lib.hid (fun W => has8_any s 10 W (by unfold maxLen; omega))
  have i0 : ¬ (0 : Int) < (s.size : Int) := by omega
  have i0' : decide ((0 : Int) < (s.size : Int)) = false := decide_eq_false i0
  have j0 : ¬ 0 < s.size := by omega
  have j0' : decide (0 < s.size) = false := decide_eq_false j0
  clear h0
  obtain ⟨V, hV⟩ : ∃ V, refTail s (whyN p q s false false) = V := ⟨_, rfl⟩
  rw [hV]
  unfold refTail whyN at hV
  cases c1 : hasC s p
  · cases c2 : hasC s q
    · cases c4 : hasC s 10
      · cases c3 : hasC s 13
        · rw [c1] at HP; rw [c2] at HQ; rw [c3] at HR; rw [c4] at HN
          rw [c1, if_neg Bool.false_ne_true, c2, if_neg Bool.false_ne_true, c3, c4, Bool.or_false, if_neg Bool.false_ne_true, if_neg (show ¬ (s.size = 0 ∧ false = true) from fun e => by cases e.2), if_neg (show ¬ (false = true ∧ Bom.hadB s = true) from fun e => by cases e.1), if_pos rfl] at hV
          subst hV
          go_enter Tryd.func17, Tryd.ntmps17
          go_wp2
          refine wp_region_later_lit (by kernel_rfl) (by kernel_rfl) ?_
          repeat (go_big_quiet_step (fail))
          refine wpQuiet_nil ?_
          rintro w0 ⟨y0, rfl⟩
          go_wp2_with (first | (go_at_call 28; (first | (with_reducible refine (later_call _ (HP.out _)).mono ?_) | (with_reducible refine (call_later (HP.out _)).mono ?_)); rintro e w' ⟨rfl, x, rfl⟩) | (go_at_call 28; (first | (with_reducible refine (later_call _ (HQ.out _)).mono ?_) | (with_reducible refine (call_later (HQ.out _)).mono ?_)); rintro e w' ⟨rfl, x, rfl⟩) | (go_at_call 28; (first | (with_reducible refine (later_call _ (HR.out _)).mono ?_) | (with_reducible refine (call_later (HR.out _)).mono ?_)); rintro e w' ⟨rfl, x, rfl⟩) | (go_at_call 28; (first | (with_reducible refine (later_call _ (HN.out _)).mono ?_) | (with_reducible refine (call_later (HN.out _)).mono ?_)); rintro e w' ⟨rfl, x, rfl⟩))
          refine bodyPost_ret (v := .tuple #[.string s, .int .i64 0, .int .i64 0]) (by simp (maxDischargeDepth := 8) [results, Tryd.results17, go_sem]) rfl ⟨rfl, ?_⟩
          (repeat (first | (with_reducible exact Below.refl _ _) | (with_reducible refine later_below _ ?_) | (with_reducible refine alloc_below ?_ _) | (with_reducible refine Below.drew ?_) | (refine Below.setCell ?_ (by first | exact Nat.le_refl _ | (simp; done) | (simp; omega) | omega) _)))
        · rw [c1] at HP; rw [c2] at HQ; rw [c3] at HR; rw [c4] at HN
          rw [c1, if_neg Bool.false_ne_true, c2, if_neg Bool.false_ne_true, c3, Bool.true_or, if_pos rfl, if_neg (show ¬ (3 : Nat) = 0 by decide)] at hV
          subst hV
          go_enter Tryd.func17, Tryd.ntmps17
          go_wp2
          refine wp_region_later_lit (by kernel_rfl) (by kernel_rfl) ?_
          repeat (go_big_quiet_step (fail))
          refine wpQuiet_nil ?_
          rintro w0 ⟨y0, rfl⟩
          go_wp2_with (first | (go_at_call 28; (first | (with_reducible refine (later_call _ (HP.out _)).mono ?_) | (with_reducible refine (call_later (HP.out _)).mono ?_)); rintro e w' ⟨rfl, x, rfl⟩) | (go_at_call 28; (first | (with_reducible refine (later_call _ (HQ.out _)).mono ?_) | (with_reducible refine (call_later (HQ.out _)).mono ?_)); rintro e w' ⟨rfl, x, rfl⟩) | (go_at_call 28; (first | (with_reducible refine (later_call _ (HR.out _)).mono ?_) | (with_reducible refine (call_later (HR.out _)).mono ?_)); rintro e w' ⟨rfl, x, rfl⟩) | (go_at_call 28; (first | (with_reducible refine (later_call _ (HN.out _)).mono ?_) | (with_reducible refine (call_later (HN.out _)).mono ?_)); rintro e w' ⟨rfl, x, rfl⟩))
          refine bodyPost_ret (v := .tuple #[.string ⟨#[]⟩, .int .i64 0, .int .i64 23]) (by simp (maxDischargeDepth := 8) [results, Tryd.results17, go_sem]) rfl ⟨rfl, ?_⟩
          (repeat (first | (with_reducible exact Below.refl _ _) | (with_reducible refine later_below _ ?_) | (with_reducible refine alloc_below ?_ _) | (with_reducible refine Below.drew ?_) | (refine Below.setCell ?_ (by first | exact Nat.le_refl _ | (simp; done) | (simp; omega) | omega) _)))
      · rw [c1] at HP; rw [c2] at HQ; rw [c4] at HN
        rw [c1, if_neg Bool.false_ne_true, c2, if_neg Bool.false_ne_true, c4, Bool.or_true, if_pos rfl, if_neg (show ¬ (3 : Nat) = 0 by decide)] at hV
        subst hV
        go_enter Tryd.func17, Tryd.ntmps17
        go_wp2
        refine wp_region_later_lit (by kernel_rfl) (by kernel_rfl) ?_
        repeat (go_big_quiet_step (fail))
        refine wpQuiet_nil ?_
        rintro w0 ⟨y0, rfl⟩
        go_wp2_with (first | (go_at_call 28; (first | (with_reducible refine (later_call _ (HP.out _)).mono ?_) | (with_reducible refine (call_later (HP.out _)).mono ?_)); rintro e w' ⟨rfl, x, rfl⟩) | (go_at_call 28; (first | (with_reducible refine (later_call _ (HQ.out _)).mono ?_) | (with_reducible refine (call_later (HQ.out _)).mono ?_)); rintro e w' ⟨rfl, x, rfl⟩) | (go_at_call 28; (first | (with_reducible refine (later_call _ (HR.out _)).mono ?_) | (with_reducible refine (call_later (HR.out _)).mono ?_)); rintro e w' ⟨rfl, x, rfl⟩) | (go_at_call 28; (first | (with_reducible refine (later_call _ (HN.out _)).mono ?_) | (with_reducible refine (call_later (HN.out _)).mono ?_)); rintro e w' ⟨rfl, x, rfl⟩))
        refine bodyPost_ret (v := .tuple #[.string ⟨#[]⟩, .int .i64 0, .int .i64 23]) (by simp (maxDischargeDepth := 8) [results, Tryd.results17, go_sem]) rfl ⟨rfl, ?_⟩
        (repeat (first | (with_reducible exact Below.refl _ _) | (with_reducible refine later_below _ ?_) | (with_reducible refine alloc_below ?_ _) | (with_reducible refine Below.drew ?_) | (refine Below.setCell ?_ (by first | exact Nat.le_refl _ | (simp; done) | (simp; omega) | omega) _)))
    · rw [c1] at HP; rw [c2] at HQ
      rw [c1, if_neg Bool.false_ne_true, c2, if_pos rfl, if_neg (show ¬ (2 : Nat) = 0 by decide)] at hV
      subst hV
      go_enter Tryd.func17, Tryd.ntmps17
      go_wp2
      refine wp_region_later_lit (by kernel_rfl) (by kernel_rfl) ?_
      repeat (go_big_quiet_step (fail))
      refine wpQuiet_nil ?_
      rintro w0 ⟨y0, rfl⟩
      go_wp2_with (first | (go_at_call 28; (first | (with_reducible refine (later_call _ (HP.out _)).mono ?_) | (with_reducible refine (call_later (HP.out _)).mono ?_)); rintro e w' ⟨rfl, x, rfl⟩) | (go_at_call 28; (first | (with_reducible refine (later_call _ (HQ.out _)).mono ?_) | (with_reducible refine (call_later (HQ.out _)).mono ?_)); rintro e w' ⟨rfl, x, rfl⟩) | (go_at_call 28; (first | (with_reducible refine (later_call _ (HR.out _)).mono ?_) | (with_reducible refine (call_later (HR.out _)).mono ?_)); rintro e w' ⟨rfl, x, rfl⟩) | (go_at_call 28; (first | (with_reducible refine (later_call _ (HN.out _)).mono ?_) | (with_reducible refine (call_later (HN.out _)).mono ?_)); rintro e w' ⟨rfl, x, rfl⟩))
      refine bodyPost_ret (v := .tuple #[.string ⟨#[]⟩, .int .i64 0, .int .i64 23]) (by simp (maxDischargeDepth := 8) [results, Tryd.results17, go_sem]) rfl ⟨rfl, ?_⟩
      (repeat (first | (with_reducible exact Below.refl _ _) | (with_reducible refine later_below _ ?_) | (with_reducible refine alloc_below ?_ _) | (with_reducible refine Below.drew ?_) | (refine Below.setCell ?_ (by first | exact Nat.le_refl _ | (simp; done) | (simp; omega) | omega) _)))
  · rw [c1] at HP
    rw [c1, if_pos rfl, if_neg (show ¬ (1 : Nat) = 0 by decide)] at hV
    subst hV
    go_enter Tryd.func17, Tryd.ntmps17
    go_wp2
    refine wp_region_later_lit (by kernel_rfl) (by kernel_rfl) ?_
    repeat (go_big_quiet_step (fail))
    refine wpQuiet_nil ?_
    rintro w0 ⟨y0, rfl⟩
    go_wp2_with (first | (go_at_call 28; (first | (with_reducible refine (later_call _ (HP.out _)).mono ?_) | (with_reducible refine (call_later (HP.out _)).mono ?_)); rintro e w' ⟨rfl, x, rfl⟩) | (go_at_call 28; (first | (with_reducible refine (later_call _ (HQ.out _)).mono ?_) | (with_reducible refine (call_later (HQ.out _)).mono ?_)); rintro e w' ⟨rfl, x, rfl⟩) | (go_at_call 28; (first | (with_reducible refine (later_call _ (HR.out _)).mono ?_) | (with_reducible refine (call_later (HR.out _)).mono ?_)); rintro e w' ⟨rfl, x, rfl⟩) | (go_at_call 28; (first | (with_reducible refine (later_call _ (HN.out _)).mono ?_) | (with_reducible refine (call_later (HN.out _)).mono ?_)); rintro e w' ⟨rfl, x, rfl⟩))
    refine bodyPost_ret (v := .tuple #[.string ⟨#[]⟩, .int .i64 0, .int .i64 23]) (by simp (maxDischargeDepth := 8) [results, Tryd.results17, go_sem]) rfl ⟨rfl, ?_⟩
    (repeat (first | (with_reducible exact Below.refl _ _) | (with_reducible refine later_below _ ?_) | (with_reducible refine alloc_below ?_ _) | (with_reducible refine Below.drew ?_) | (refine Below.setCell ?_ (by first | exact Nat.le_refl _ | (simp; done) | (simp; omega) | omega) _)))

set_option maxRecDepth 100000 in
set_option maxHeartbeats 4000000 in
theorem refUnq_else (p q : Nat) (n : Int) (s : ByteArray) (w : World) (hs : s.size ≤ 400000) (h0 : 0 < s.size) (h1 : byt s 0 ≠ (q : Int)) :
    Calls Tryd.prog 17 #[.agg #[.int .i64 p, .int .i64 q, .int .i64 n], .string s] w (Gives (refTail s (whyN p q s false false)) w) := by
  apply Gives.of
  have hcell := fun (W : World) (x : Later W) => x.cell
  have HP := Lib.hid (fun W => has8_any s p W (by unfold maxLen; omega))
  have HQ := Lib.hid (fun W => has8_any s q W (by unfold maxLen; omega))
  have HR : Hid (∀ W, Calls Tryd.prog 28 #[.string s, .int .i64 13] W (Gives (.bool (hasC s 13)) W)) := Lib.hid (fun W => has8_any s 13 W (by unfold maxLen; omega))
  have HN : Hid (∀ W, Calls Tryd.prog 28 #[.string s, .int .i64 10] W (Gives (.bool (hasC s 10)) W)) := Lib.hid (fun W => has8_any s 10 W (by unfold maxLen; omega))
  have b0 := byt_eq s 0 h0
  have e0 : (byt s 0 == (q : Int)) = false := by simp [h1]
  have i0 : (0 : Int) < (s.size : Int) := by omega
  have i0' : decide ((0 : Int) < (s.size : Int)) = true := decide_eq_true i0
  have hwb0 := wrap_byt s 0
  clear hs h1
  obtain ⟨V, hV⟩ : ∃ V, refTail s (whyN p q s false false) = V := ⟨_, rfl⟩
  rw [hV]
  unfold refTail whyN at hV
  cases c1 : hasC s p
  · cases c2 : hasC s q
    · cases c4 : hasC s 10
      · cases c3 : hasC s 13
        · rw [c1] at HP; rw [c2] at HQ; rw [c3] at HR; rw [c4] at HN
          rw [c1, if_neg Bool.false_ne_true, c2, if_neg Bool.false_ne_true, c3, c4, Bool.or_false, if_neg Bool.false_ne_true, if_neg (show ¬ (s.size = 0 ∧ false = true) from fun e => by cases e.2), if_neg (show ¬ (false = true ∧ Bom.hadB s = true) from fun e => by cases e.1), if_pos rfl] at hV
          subst hV
          go_enter Tryd.func17, Tryd.ntmps17
          go_wp2
          refine wp_region_later_lit (by kernel_rfl) (by kernel_rfl) ?_
          repeat (go_big_quiet_step (fail))
          refine wpQuiet_nil ?_
          rintro w0 ⟨y0, rfl⟩
          go_wp2_with (first | (go_at_call 28; (first | (with_reducible refine (later_call _ (HP.out _)).mono ?_) | (with_reducible refine (call_later (HP.out _)).mono ?_)); rintro e w' ⟨rfl, x, rfl⟩) | (go_at_call 28; (first | (with_reducible refine (later_call _ (HQ.out _)).mono ?_) | (with_reducible refine (call_later (HQ.out _)).mono ?_)); rintro e w' ⟨rfl, x, rfl⟩) | (go_at_call 28; (first | (with_reducible refine (later_call _ (HR.out _)).mono ?_) | (with_reducible refine (call_later (HR.out _)).mono ?_)); rintro e w' ⟨rfl, x, rfl⟩) | (go_at_call 28; (first | (with_reducible refine (later_call _ (HN.out _)).mono ?_) | (with_reducible refine (call_later (HN.out _)).mono ?_)); rintro e w' ⟨rfl, x, rfl⟩))
          refine bodyPost_ret (v := .tuple #[.string s, .int .i64 0, .int .i64 0]) (by simp (maxDischargeDepth := 8) [results, Tryd.results17, go_sem]) rfl ⟨rfl, ?_⟩
          (repeat (first | (with_reducible exact Below.refl _ _) | (with_reducible refine later_below _ ?_) | (with_reducible refine alloc_below ?_ _) | (with_reducible refine Below.drew ?_) | (refine Below.setCell ?_ (by first | exact Nat.le_refl _ | (simp; done) | (simp; omega) | omega) _)))
        · rw [c1] at HP; rw [c2] at HQ; rw [c3] at HR; rw [c4] at HN
          rw [c1, if_neg Bool.false_ne_true, c2, if_neg Bool.false_ne_true, c3, Bool.true_or, if_pos rfl, if_neg (show ¬ (3 : Nat) = 0 by decide)] at hV
          subst hV
          go_enter Tryd.func17, Tryd.ntmps17
          go_wp2
          refine wp_region_later_lit (by kernel_rfl) (by kernel_rfl) ?_
          repeat (go_big_quiet_step (fail))
          refine wpQuiet_nil ?_
          rintro w0 ⟨y0, rfl⟩
          go_wp2_with (first | (go_at_call 28; (first | (with_reducible refine (later_call _ (HP.out _)).mono ?_) | (with_reducible refine (call_later (HP.out _)).mono ?_)); rintro e w' ⟨rfl, x, rfl⟩) | (go_at_call 28; (first | (with_reducible refine (later_call _ (HQ.out _)).mono ?_) | (with_reducible refine (call_later (HQ.out _)).mono ?_)); rintro e w' ⟨rfl, x, rfl⟩) | (go_at_call 28; (first | (with_reducible refine (later_call _ (HR.out _)).mono ?_) | (with_reducible refine (call_later (HR.out _)).mono ?_)); rintro e w' ⟨rfl, x, rfl⟩) | (go_at_call 28; (first | (with_reducible refine (later_call _ (HN.out _)).mono ?_) | (with_reducible refine (call_later (HN.out _)).mono ?_)); rintro e w' ⟨rfl, x, rfl⟩))
          refine bodyPost_ret (v := .tuple #[.string ⟨#[]⟩, .int .i64 0, .int .i64 23]) (by simp (maxDischargeDepth := 8) [results, Tryd.results17, go_sem]) rfl ⟨rfl, ?_⟩
          (repeat (first | (with_reducible exact Below.refl _ _) | (with_reducible refine later_below _ ?_) | (with_reducible refine alloc_below ?_ _) | (with_reducible refine Below.drew ?_) | (refine Below.setCell ?_ (by first | exact Nat.le_refl _ | (simp; done) | (simp; omega) | omega) _)))
      · rw [c1] at HP; rw [c2] at HQ; rw [c4] at HN
        rw [c1, if_neg Bool.false_ne_true, c2, if_neg Bool.false_ne_true, c4, Bool.or_true, if_pos rfl, if_neg (show ¬ (3 : Nat) = 0 by decide)] at hV
        subst hV
        go_enter Tryd.func17, Tryd.ntmps17
        go_wp2
        refine wp_region_later_lit (by kernel_rfl) (by kernel_rfl) ?_
        repeat (go_big_quiet_step (fail))
        refine wpQuiet_nil ?_
        rintro w0 ⟨y0, rfl⟩
        go_wp2_with (first | (go_at_call 28; (first | (with_reducible refine (later_call _ (HP.out _)).mono ?_) | (with_reducible refine (call_later (HP.out _)).mono ?_)); rintro e w' ⟨rfl, x, rfl⟩) | (go_at_call 28; (first | (with_reducible refine (later_call _ (HQ.out _)).mono ?_) | (with_reducible refine (call_later (HQ.out _)).mono ?_)); rintro e w' ⟨rfl, x, rfl⟩) | (go_at_call 28; (first | (with_reducible refine (later_call _ (HR.out _)).mono ?_) | (with_reducible refine (call_later (HR.out _)).mono ?_)); rintro e w' ⟨rfl, x, rfl⟩) | (go_at_call 28; (first | (with_reducible refine (later_call _ (HN.out _)).mono ?_) | (with_reducible refine (call_later (HN.out _)).mono ?_)); rintro e w' ⟨rfl, x, rfl⟩))
        refine bodyPost_ret (v := .tuple #[.string ⟨#[]⟩, .int .i64 0, .int .i64 23]) (by simp (maxDischargeDepth := 8) [results, Tryd.results17, go_sem]) rfl ⟨rfl, ?_⟩
        (repeat (first | (with_reducible exact Below.refl _ _) | (with_reducible refine later_below _ ?_) | (with_reducible refine alloc_below ?_ _) | (with_reducible refine Below.drew ?_) | (refine Below.setCell ?_ (by first | exact Nat.le_refl _ | (simp; done) | (simp; omega) | omega) _)))
    · rw [c1] at HP; rw [c2] at HQ
      rw [c1, if_neg Bool.false_ne_true, c2, if_pos rfl, if_neg (show ¬ (2 : Nat) = 0 by decide)] at hV
      subst hV
      go_enter Tryd.func17, Tryd.ntmps17
      go_wp2
      refine wp_region_later_lit (by kernel_rfl) (by kernel_rfl) ?_
      repeat (go_big_quiet_step (fail))
      refine wpQuiet_nil ?_
      rintro w0 ⟨y0, rfl⟩
      go_wp2_with (first | (go_at_call 28; (first | (with_reducible refine (later_call _ (HP.out _)).mono ?_) | (with_reducible refine (call_later (HP.out _)).mono ?_)); rintro e w' ⟨rfl, x, rfl⟩) | (go_at_call 28; (first | (with_reducible refine (later_call _ (HQ.out _)).mono ?_) | (with_reducible refine (call_later (HQ.out _)).mono ?_)); rintro e w' ⟨rfl, x, rfl⟩) | (go_at_call 28; (first | (with_reducible refine (later_call _ (HR.out _)).mono ?_) | (with_reducible refine (call_later (HR.out _)).mono ?_)); rintro e w' ⟨rfl, x, rfl⟩) | (go_at_call 28; (first | (with_reducible refine (later_call _ (HN.out _)).mono ?_) | (with_reducible refine (call_later (HN.out _)).mono ?_)); rintro e w' ⟨rfl, x, rfl⟩))
      refine bodyPost_ret (v := .tuple #[.string ⟨#[]⟩, .int .i64 0, .int .i64 23]) (by simp (maxDischargeDepth := 8) [results, Tryd.results17, go_sem]) rfl ⟨rfl, ?_⟩
      (repeat (first | (with_reducible exact Below.refl _ _) | (with_reducible refine later_below _ ?_) | (with_reducible refine alloc_below ?_ _) | (with_reducible refine Below.drew ?_) | (refine Below.setCell ?_ (by first | exact Nat.le_refl _ | (simp; done) | (simp; omega) | omega) _)))
  · rw [c1] at HP
    rw [c1, if_pos rfl, if_neg (show ¬ (1 : Nat) = 0 by decide)] at hV
    subst hV
    go_enter Tryd.func17, Tryd.ntmps17
    go_wp2
    refine wp_region_later_lit (by kernel_rfl) (by kernel_rfl) ?_
    repeat (go_big_quiet_step (fail))
    refine wpQuiet_nil ?_
    rintro w0 ⟨y0, rfl⟩
    go_wp2_with (first | (go_at_call 28; (first | (with_reducible refine (later_call _ (HP.out _)).mono ?_) | (with_reducible refine (call_later (HP.out _)).mono ?_)); rintro e w' ⟨rfl, x, rfl⟩) | (go_at_call 28; (first | (with_reducible refine (later_call _ (HQ.out _)).mono ?_) | (with_reducible refine (call_later (HQ.out _)).mono ?_)); rintro e w' ⟨rfl, x, rfl⟩) | (go_at_call 28; (first | (with_reducible refine (later_call _ (HR.out _)).mono ?_) | (with_reducible refine (call_later (HR.out _)).mono ?_)); rintro e w' ⟨rfl, x, rfl⟩) | (go_at_call 28; (first | (with_reducible refine (later_call _ (HN.out _)).mono ?_) | (with_reducible refine (call_later (HN.out _)).mono ?_)); rintro e w' ⟨rfl, x, rfl⟩))
    refine bodyPost_ret (v := .tuple #[.string ⟨#[]⟩, .int .i64 0, .int .i64 23]) (by simp (maxDischargeDepth := 8) [results, Tryd.results17, go_sem]) rfl ⟨rfl, ?_⟩
    (repeat (first | (with_reducible exact Below.refl _ _) | (with_reducible refine later_below _ ?_) | (with_reducible refine alloc_below ?_ _) | (with_reducible refine Below.drew ?_) | (refine Below.setCell ?_ (by first | exact Nat.le_refl _ | (simp; done) | (simp; omega) | omega) _)))

theorem refUnq_any (p q : Nat) (n : Int) (s : ByteArray) (w : World) (hs : s.size ≤ 400000) (hq : q < 256) :
    Calls Tryd.prog 17 #[.agg #[.int .i64 p, .int .i64 q, .int .i64 n], .string s] w (Gives (refV (unqV p q s)) w) := by
  unfold unqV
  rw [beg_is, toB_nat hq]
  by_cases h : 0 < s.size ∧ byt s 0 = (q : Int)
  · rw [decide_eq_true h, if_pos rfl]
    exact refUnq_beg p q n s w hs hq h.1 h.2
  · rw [decide_eq_false h, if_neg Bool.false_ne_true]
    by_cases h0 : s.size = 0
    · exact refUnq_none p q n s w h0
    · exact refUnq_else p q n s w hs (by omega) (fun e => h ⟨by omega, e⟩)

end Go.Proofs.YtajedohgcepkiaaDoor
