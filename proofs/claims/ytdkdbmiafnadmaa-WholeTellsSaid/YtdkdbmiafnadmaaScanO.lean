/-
  Walks: what the program says a byte comes to, in every state (written by a program).
-/
import Derived.Test.YtdkdbmiafnadmaaRows
import Derived.Test.YtdkdbmiafnadmaaScanQ
namespace Go.Proofs.Ytdkdbmiafnadmaa
open Go.RowKit

set_option maxHeartbeats 4000000 in
theorem outside_any (p q s b : Nat) (n : Int) (w : World) (hs : s ≤ 6) (hok : okB p q n = true) : Calls Try.prog 69 #[.agg #[.int .u8 p, .int .u8 q, .int .i64 n], .int .i64 s, .int .u8 b] w (Gives (outP (outV p q n s b)) w) := by
  apply Gives.of
  obtain ⟨⟨_, hp1, hp2⟩, ⟨_, hq1, hq2⟩, hpq, _⟩ := okB_spec hok
  have hcell := fun (W : World) (x : Later W) => x.cell
  have hfrozen := fun (W : World) (x : Later W) => x.frozen
  have hset := set_same
  by_cases hbq : b = q
  · subst hbq
    obtain ⟨o, ho⟩ : ∃ o, quoV s b = o := ⟨_, rfl⟩
    have e : outV p b n s b = o := by unfold outV; rw [if_pos rfl, ho]
    have HC := Lib.hid (show ∀ W, Calls Try.prog 72 #[.int .i64 s, .int .u8 b] W (Gives (.tuple #[.agg #[.bool o.ev.be, .bool o.ev.ad, .bool o.ev.fi, .bool o.ev.li, .bool o.ev.re, .int .u8 o.ev.by_], .int .i64 o.to_, .int .i64 o.er]) W) from fun W => ho ▸ quote_any s b W hs)
    rw [e]
    clear e ho hpq hp1 hp2 hq1 hq2 hok
    go_enter Try.func69, Try.ntmps69
    go_wp2_with ((go_at_call 72; (first | (with_reducible refine (later_call _ (HC.out _)).mono ?_) | (with_reducible refine (call_later (HC.out _)).mono ?_)); rintro e w' ⟨rfl, x, rfl⟩))
    refine bodyPost_ret (v := outP o) (by simp (maxDischargeDepth := 8) [results, Try.results69, go_sem, outP, evP, hcell, hset]) rfl ⟨rfl, ?_⟩
    (repeat (first | (with_reducible exact Below.refl _ _) | (with_reducible refine later_below _ ?_) | (with_reducible refine alloc_below ?_ _) | (with_reducible refine Below.drew ?_) | (refine Below.setCell ?_ (by first | exact Nat.le_refl _ | (simp; done) | (simp; omega) | omega) _)))
  · have g1 : ((b : Int) == q) = false := beq_eq_false_iff_ne.2 (by omega)
    have g2 : decide ((b : Int) = q) = false := decide_eq_false (by omega)
    by_cases hbp : b = p
    · subst hbp
      by_cases h0 : s = 0
      · have e : outV b q n s b = ⟨⟨true, false, true, false, false, 0⟩, 1, 0⟩ := by unfold outV; rw [if_neg hbq, if_pos rfl]; simp [h0]
        have k1 : ((s : Int) == 0) = true := beq_iff_eq.2 (by omega)
        have k2 : decide ((s : Int) = 0) = true := decide_eq_true (by omega)
        rw [e]
        clear e hpq hp1 hp2 hq1 hq2 hok
        go_enter Try.func69, Try.ntmps69
        go_wp2
        refine bodyPost_ret (v := outP ⟨⟨true, false, true, false, false, 0⟩, 1, 0⟩) (by simp (maxDischargeDepth := 8) [results, Try.results69, go_sem, outP, evP]) rfl ⟨rfl, ?_⟩
        (repeat (first | (with_reducible exact Below.refl _ _) | (with_reducible refine later_below _ ?_) | (with_reducible refine alloc_below ?_ _) | (with_reducible refine Below.drew ?_) | (refine Below.setCell ?_ (by first | exact Nat.le_refl _ | (simp; done) | (simp; omega) | omega) _)))
      · have e : outV b q n s b = ⟨⟨false, false, true, false, false, 0⟩, 1, 0⟩ := by unfold outV; rw [if_neg hbq, if_pos rfl]; simp [h0]
        have k1 : ((s : Int) == 0) = false := beq_eq_false_iff_ne.2 (by omega)
        have k2 : decide ((s : Int) = 0) = false := decide_eq_false (by omega)
        rw [e]
        clear e hpq hp1 hp2 hq1 hq2 hok
        go_enter Try.func69, Try.ntmps69
        go_wp2
        refine bodyPost_ret (v := outP ⟨⟨false, false, true, false, false, 0⟩, 1, 0⟩) (by simp (maxDischargeDepth := 8) [results, Try.results69, go_sem, outP, evP]) rfl ⟨rfl, ?_⟩
        (repeat (first | (with_reducible exact Below.refl _ _) | (with_reducible refine later_below _ ?_) | (with_reducible refine alloc_below ?_ _) | (with_reducible refine Below.drew ?_) | (refine Below.setCell ?_ (by first | exact Nat.le_refl _ | (simp; done) | (simp; omega) | omega) _)))
    · have l1 : ((b : Int) == p) = false := beq_eq_false_iff_ne.2 (by omega)
      have l2 : decide ((b : Int) = p) = false := decide_eq_false (by omega)
      by_cases hb13 : b = 13
      · subst hb13
        obtain ⟨o, ho⟩ : ∃ o, endV n s 13 = o := ⟨_, rfl⟩
        have e : outV p q n s 13 = o := by unfold outV; rw [if_neg hbq, if_neg hbp]; simp [ho]
        have HC := Lib.hid (show ∀ W, Calls Try.prog 73 #[.agg #[.int .u8 p, .int .u8 q, .int .i64 n], .int .i64 s, .int .u8 13] W (Gives (.tuple #[.agg #[.bool o.ev.be, .bool o.ev.ad, .bool o.ev.fi, .bool o.ev.li, .bool o.ev.re, .int .u8 o.ev.by_], .int .i64 o.to_, .int .i64 o.er]) W) from fun W => ho ▸ end_any p q s 13 n W)
        have g3 : ((13 : Int) == q) = false := beq_eq_false_iff_ne.2 (by omega)
        have g4 : decide ((13 : Int) = q) = false := decide_eq_false (by omega)
        have l3 : ((13 : Int) == p) = false := beq_eq_false_iff_ne.2 (by omega)
        have l4 : decide ((13 : Int) = p) = false := decide_eq_false (by omega)
        rw [e]
        clear e ho hpq hp1 hp2 hq1 hq2 hok g1 g2 l1 l2
        go_enter Try.func69, Try.ntmps69
        go_wp2_with ((go_at_call 73; (first | (with_reducible refine (later_call _ (HC.out _)).mono ?_) | (with_reducible refine (call_later (HC.out _)).mono ?_)); rintro e w' ⟨rfl, x, rfl⟩))
        refine bodyPost_ret (v := outP o) (by simp (maxDischargeDepth := 8) [results, Try.results69, go_sem, outP, evP, hcell, hset]) rfl ⟨rfl, ?_⟩
        (repeat (first | (with_reducible exact Below.refl _ _) | (with_reducible refine later_below _ ?_) | (with_reducible refine alloc_below ?_ _) | (with_reducible refine Below.drew ?_) | (refine Below.setCell ?_ (by first | exact Nat.le_refl _ | (simp; done) | (simp; omega) | omega) _)))
      · have m1 : ((b : Int) == 13) = false := beq_eq_false_iff_ne.2 (by omega)
        have m2 : decide ((b : Int) = 13) = false := decide_eq_false (by omega)
        by_cases hb10 : b = 10
        · subst hb10
          obtain ⟨o, ho⟩ : ∃ o, endV n s 10 = o := ⟨_, rfl⟩
          have e : outV p q n s 10 = o := by unfold outV; rw [if_neg hbq, if_neg hbp]; simp [ho]
          have HC := Lib.hid (show ∀ W, Calls Try.prog 73 #[.agg #[.int .u8 p, .int .u8 q, .int .i64 n], .int .i64 s, .int .u8 10] W (Gives (.tuple #[.agg #[.bool o.ev.be, .bool o.ev.ad, .bool o.ev.fi, .bool o.ev.li, .bool o.ev.re, .int .u8 o.ev.by_], .int .i64 o.to_, .int .i64 o.er]) W) from fun W => ho ▸ end_any p q s 10 n W)
          have g3 : ((10 : Int) == q) = false := beq_eq_false_iff_ne.2 (by omega)
          have g4 : decide ((10 : Int) = q) = false := decide_eq_false (by omega)
          have l3 : ((10 : Int) == p) = false := beq_eq_false_iff_ne.2 (by omega)
          have l4 : decide ((10 : Int) = p) = false := decide_eq_false (by omega)
          rw [e]
          clear e ho hpq hp1 hp2 hq1 hq2 hok g1 g2 l1 l2
          go_enter Try.func69, Try.ntmps69
          go_wp2_with ((go_at_call 73; (first | (with_reducible refine (later_call _ (HC.out _)).mono ?_) | (with_reducible refine (call_later (HC.out _)).mono ?_)); rintro e w' ⟨rfl, x, rfl⟩))
          refine bodyPost_ret (v := outP o) (by simp (maxDischargeDepth := 8) [results, Try.results69, go_sem, outP, evP, hcell, hset]) rfl ⟨rfl, ?_⟩
          (repeat (first | (with_reducible exact Below.refl _ _) | (with_reducible refine later_below _ ?_) | (with_reducible refine alloc_below ?_ _) | (with_reducible refine Below.drew ?_) | (refine Below.setCell ?_ (by first | exact Nat.le_refl _ | (simp; done) | (simp; omega) | omega) _)))
        · have j1 : ((b : Int) == 10) = false := beq_eq_false_iff_ne.2 (by omega)
          have j2 : decide ((b : Int) = 10) = false := decide_eq_false (by omega)
          by_cases h4 : s = 4
          · subst h4
            have e : outV p q n 4 b = ⟨ev0, 0, 5⟩ := by unfold outV; simp [hbq, hbp, hb13, hb10]
            rw [e]
            clear e hpq hp1 hp2 hq1 hq2 hok
            go_enter Try.func69, Try.ntmps69
            go_wp2
            refine bodyPost_ret (v := outP ⟨ev0, 0, 5⟩) (by simp (maxDischargeDepth := 8) [results, Try.results69, go_sem, outP, evP, ev0]) rfl ⟨rfl, ?_⟩
            (repeat (first | (with_reducible exact Below.refl _ _) | (with_reducible refine later_below _ ?_) | (with_reducible refine alloc_below ?_ _) | (with_reducible refine Below.drew ?_) | (refine Below.setCell ?_ (by first | exact Nat.le_refl _ | (simp; done) | (simp; omega) | omega) _)))
          · have n1 : ((s : Int) == 4) = false := beq_eq_false_iff_ne.2 (by omega)
            have n2 : decide ((s : Int) = 4) = false := decide_eq_false (by omega)
            by_cases h0 : s = 0
            · have e : outV p q n s b = ⟨⟨true, true, false, false, false, b⟩, 2, 0⟩ := by unfold outV; simp [hbq, hbp, hb13, hb10, h0]
              have k1 : ((s : Int) == 0) = true := beq_iff_eq.2 (by omega)
              have k2 : decide ((s : Int) = 0) = true := decide_eq_true (by omega)
              rw [e]
              clear e hpq hp1 hp2 hq1 hq2 hok
              go_enter Try.func69, Try.ntmps69
              go_wp2
              refine bodyPost_ret (v := outP ⟨⟨true, true, false, false, false, b⟩, 2, 0⟩) (by simp (maxDischargeDepth := 8) [results, Try.results69, go_sem, outP, evP]) rfl ⟨rfl, ?_⟩
              (repeat (first | (with_reducible exact Below.refl _ _) | (with_reducible refine later_below _ ?_) | (with_reducible refine alloc_below ?_ _) | (with_reducible refine Below.drew ?_) | (refine Below.setCell ?_ (by first | exact Nat.le_refl _ | (simp; done) | (simp; omega) | omega) _)))
            · have e : outV p q n s b = ⟨⟨false, true, false, false, false, b⟩, 2, 0⟩ := by unfold outV; simp [hbq, hbp, hb13, hb10, h4, h0]
              have k1 : ((s : Int) == 0) = false := beq_eq_false_iff_ne.2 (by omega)
              have k2 : decide ((s : Int) = 0) = false := decide_eq_false (by omega)
              rw [e]
              clear e hpq hp1 hp2 hq1 hq2 hok
              go_enter Try.func69, Try.ntmps69
              go_wp2
              refine bodyPost_ret (v := outP ⟨⟨false, true, false, false, false, b⟩, 2, 0⟩) (by simp (maxDischargeDepth := 8) [results, Try.results69, go_sem, outP, evP]) rfl ⟨rfl, ?_⟩
              (repeat (first | (with_reducible exact Below.refl _ _) | (with_reducible refine later_below _ ?_) | (with_reducible refine alloc_below ?_ _) | (with_reducible refine Below.drew ?_) | (refine Below.setCell ?_ (by first | exact Nat.le_refl _ | (simp; done) | (simp; omega) | omega) _)))

set_option maxHeartbeats 4000000 in
theorem step_any (p q s b : Nat) (n : Int) (w : World) (hs : s ≤ 6) (hok : okB p q n = true) : Calls Try.prog 60 #[.agg #[.int .u8 p, .int .u8 q, .int .i64 n], .int .i64 s, .int .u8 b] w (Gives (outP (stepV p q n s b)) w) := by
  apply Gives.of
  have hcell := fun (W : World) (x : Later W) => x.cell
  have hfrozen := fun (W : World) (x : Later W) => x.frozen
  have hset := set_same
  have hk : s = 0 ∨ s = 1 ∨ s = 2 ∨ s = 3 ∨ s = 4 ∨ s = 5 ∨ s = 6 := by omega
  obtain ⟨o, ho⟩ : ∃ o, stepV p q n s b = o := ⟨_, rfl⟩
  rw [ho]
  rcases hk with rfl | rfl | rfl | rfl | rfl | rfl | rfl
  · have HC := Lib.hid (show ∀ W, Calls Try.prog 69 #[.agg #[.int .u8 p, .int .u8 q, .int .i64 n], .int .i64 0, .int .u8 b] W (Gives (.tuple #[.agg #[.bool o.ev.be, .bool o.ev.ad, .bool o.ev.fi, .bool o.ev.li, .bool o.ev.re, .int .u8 o.ev.by_], .int .i64 o.to_, .int .i64 o.er]) W) from fun W => ho ▸ outside_any p q 0 b n W (by omega) hok)
    clear ho hok
    go_enter Try.func60, Try.ntmps60
    go_wp2_with ((go_at_call 69; (first | (with_reducible refine (later_call _ (HC.out _)).mono ?_) | (with_reducible refine (call_later (HC.out _)).mono ?_)); rintro e w' ⟨rfl, x, rfl⟩))
    refine bodyPost_ret (v := outP o) (by simp (maxDischargeDepth := 8) [results, Try.results60, go_sem, outP, evP, hcell, hset]) rfl ⟨rfl, ?_⟩
    (repeat (first | (with_reducible exact Below.refl _ _) | (with_reducible refine later_below _ ?_) | (with_reducible refine alloc_below ?_ _) | (with_reducible refine Below.drew ?_) | (refine Below.setCell ?_ (by first | exact Nat.le_refl _ | (simp; done) | (simp; omega) | omega) _)))
  · have HC := Lib.hid (show ∀ W, Calls Try.prog 69 #[.agg #[.int .u8 p, .int .u8 q, .int .i64 n], .int .i64 1, .int .u8 b] W (Gives (.tuple #[.agg #[.bool o.ev.be, .bool o.ev.ad, .bool o.ev.fi, .bool o.ev.li, .bool o.ev.re, .int .u8 o.ev.by_], .int .i64 o.to_, .int .i64 o.er]) W) from fun W => ho ▸ outside_any p q 1 b n W (by omega) hok)
    clear ho hok
    go_enter Try.func60, Try.ntmps60
    go_wp2_with ((go_at_call 69; (first | (with_reducible refine (later_call _ (HC.out _)).mono ?_) | (with_reducible refine (call_later (HC.out _)).mono ?_)); rintro e w' ⟨rfl, x, rfl⟩))
    refine bodyPost_ret (v := outP o) (by simp (maxDischargeDepth := 8) [results, Try.results60, go_sem, outP, evP, hcell, hset]) rfl ⟨rfl, ?_⟩
    (repeat (first | (with_reducible exact Below.refl _ _) | (with_reducible refine later_below _ ?_) | (with_reducible refine alloc_below ?_ _) | (with_reducible refine Below.drew ?_) | (refine Below.setCell ?_ (by first | exact Nat.le_refl _ | (simp; done) | (simp; omega) | omega) _)))
  · have HC := Lib.hid (show ∀ W, Calls Try.prog 69 #[.agg #[.int .u8 p, .int .u8 q, .int .i64 n], .int .i64 2, .int .u8 b] W (Gives (.tuple #[.agg #[.bool o.ev.be, .bool o.ev.ad, .bool o.ev.fi, .bool o.ev.li, .bool o.ev.re, .int .u8 o.ev.by_], .int .i64 o.to_, .int .i64 o.er]) W) from fun W => ho ▸ outside_any p q 2 b n W (by omega) hok)
    clear ho hok
    go_enter Try.func60, Try.ntmps60
    go_wp2_with ((go_at_call 69; (first | (with_reducible refine (later_call _ (HC.out _)).mono ?_) | (with_reducible refine (call_later (HC.out _)).mono ?_)); rintro e w' ⟨rfl, x, rfl⟩))
    refine bodyPost_ret (v := outP o) (by simp (maxDischargeDepth := 8) [results, Try.results60, go_sem, outP, evP, hcell, hset]) rfl ⟨rfl, ?_⟩
    (repeat (first | (with_reducible exact Below.refl _ _) | (with_reducible refine later_below _ ?_) | (with_reducible refine alloc_below ?_ _) | (with_reducible refine Below.drew ?_) | (refine Below.setCell ?_ (by first | exact Nat.le_refl _ | (simp; done) | (simp; omega) | omega) _)))
  · have HC := Lib.hid (show ∀ W, Calls Try.prog 67 #[.agg #[.int .u8 p, .int .u8 q, .int .i64 n], .int .u8 b] W (Gives (.tuple #[.agg #[.bool o.ev.be, .bool o.ev.ad, .bool o.ev.fi, .bool o.ev.li, .bool o.ev.re, .int .u8 o.ev.by_], .int .i64 o.to_, .int .i64 o.er]) W) from fun W => ho ▸ within_any p q b n W)
    clear ho hok
    go_enter Try.func60, Try.ntmps60
    go_wp2_with ((go_at_call 67; (first | (with_reducible refine (later_call _ (HC.out _)).mono ?_) | (with_reducible refine (call_later (HC.out _)).mono ?_)); rintro e w' ⟨rfl, x, rfl⟩))
    refine bodyPost_ret (v := outP o) (by simp (maxDischargeDepth := 8) [results, Try.results60, go_sem, outP, evP, hcell, hset]) rfl ⟨rfl, ?_⟩
    (repeat (first | (with_reducible exact Below.refl _ _) | (with_reducible refine later_below _ ?_) | (with_reducible refine alloc_below ?_ _) | (with_reducible refine Below.drew ?_) | (refine Below.setCell ?_ (by first | exact Nat.le_refl _ | (simp; done) | (simp; omega) | omega) _)))
  · have HC := Lib.hid (show ∀ W, Calls Try.prog 69 #[.agg #[.int .u8 p, .int .u8 q, .int .i64 n], .int .i64 4, .int .u8 b] W (Gives (.tuple #[.agg #[.bool o.ev.be, .bool o.ev.ad, .bool o.ev.fi, .bool o.ev.li, .bool o.ev.re, .int .u8 o.ev.by_], .int .i64 o.to_, .int .i64 o.er]) W) from fun W => ho ▸ outside_any p q 4 b n W (by omega) hok)
    clear ho hok
    go_enter Try.func60, Try.ntmps60
    go_wp2_with ((go_at_call 69; (first | (with_reducible refine (later_call _ (HC.out _)).mono ?_) | (with_reducible refine (call_later (HC.out _)).mono ?_)); rintro e w' ⟨rfl, x, rfl⟩))
    refine bodyPost_ret (v := outP o) (by simp (maxDischargeDepth := 8) [results, Try.results60, go_sem, outP, evP, hcell, hset]) rfl ⟨rfl, ?_⟩
    (repeat (first | (with_reducible exact Below.refl _ _) | (with_reducible refine later_below _ ?_) | (with_reducible refine alloc_below ?_ _) | (with_reducible refine Below.drew ?_) | (refine Below.setCell ?_ (by first | exact Nat.le_refl _ | (simp; done) | (simp; omega) | omega) _)))
  · have HC := Lib.hid (show ∀ W, Calls Try.prog 68 #[.agg #[.bool false, .bool false, .bool false, .bool false, .bool true, .int .u8 0], .int .u8 b] W (Gives (.tuple #[.agg #[.bool o.ev.be, .bool o.ev.ad, .bool o.ev.fi, .bool o.ev.li, .bool o.ev.re, .int .u8 o.ev.by_], .int .i64 o.to_, .int .i64 o.er]) W) from fun W => ho ▸ behind_any ⟨false, false, false, false, true, 0⟩ b W)
    clear ho hok
    go_enter Try.func60, Try.ntmps60
    go_wp2_with ((go_at_call 68; (first | (with_reducible refine (later_call _ (HC.out _)).mono ?_) | (with_reducible refine (call_later (HC.out _)).mono ?_)); rintro e w' ⟨rfl, x, rfl⟩))
    refine bodyPost_ret (v := outP o) (by simp (maxDischargeDepth := 8) [results, Try.results60, go_sem, outP, evP, hcell, hset]) rfl ⟨rfl, ?_⟩
    (repeat (first | (with_reducible exact Below.refl _ _) | (with_reducible refine later_below _ ?_) | (with_reducible refine alloc_below ?_ _) | (with_reducible refine Below.drew ?_) | (refine Below.setCell ?_ (by first | exact Nat.le_refl _ | (simp; done) | (simp; omega) | omega) _)))
  · have HC := Lib.hid (show ∀ W, Calls Try.prog 68 #[.agg #[.bool false, .bool false, .bool false, .bool false, .bool false, .int .u8 0], .int .u8 b] W (Gives (.tuple #[.agg #[.bool o.ev.be, .bool o.ev.ad, .bool o.ev.fi, .bool o.ev.li, .bool o.ev.re, .int .u8 o.ev.by_], .int .i64 o.to_, .int .i64 o.er]) W) from fun W => ho ▸ behind_any ⟨false, false, false, false, false, 0⟩ b W)
    clear ho hok
    go_enter Try.func60, Try.ntmps60
    go_wp2_with ((go_at_call 68; (first | (with_reducible refine (later_call _ (HC.out _)).mono ?_) | (with_reducible refine (call_later (HC.out _)).mono ?_)); rintro e w' ⟨rfl, x, rfl⟩))
    refine bodyPost_ret (v := outP o) (by simp (maxDischargeDepth := 8) [results, Try.results60, go_sem, outP, evP, hcell, hset]) rfl ⟨rfl, ?_⟩
    (repeat (first | (with_reducible exact Below.refl _ _) | (with_reducible refine later_below _ ?_) | (with_reducible refine alloc_below ?_ _) | (with_reducible refine Below.drew ?_) | (refine Below.setCell ?_ (by first | exact Nat.le_refl _ | (simp; done) | (simp; omega) | omega) _)))

end Go.Proofs.Ytdkdbmiafnadmaa
