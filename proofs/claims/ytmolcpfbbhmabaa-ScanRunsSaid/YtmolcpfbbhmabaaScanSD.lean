/-
  Walks: the document's step (written by a program).
-/
import Derived.Test.YtmolcpfbbhmabaaRows
import Derived.Test.YtmolcpfbbhmabaaScanT
import Derived.Deep.DeepCutAuto
import Derived.BigRegion
namespace Go.Proofs.Ytmolcpfbbhmabaa
open Go.RowKit

set_option maxHeartbeats 4000000 in
set_option maxRecDepth 100000 in
theorem rstep_4 (p q b c : Nat) (n : Int) (w : World) (g : Bool) (V : Value) (hg : g = barB n 4 c) (h5 : c < 5) (hc : colN p q b = c) (hV1 : g = true → V = outR ⟨ev0, 0, 6⟩) (hV2 : g = false → V = rowOut (rowE 4 c) b) : Calls Try.prog 11 #[.agg #[.int .i64 p, .int .i64 q, .int .i64 n], .int .i64 4, .int .i64 b] w (Gives V w) := by
  apply Gives.of
  have HV1 := Lib.hid hV1
  have HV2 := Lib.hid hV2
  clear hV1 hV2
  have hcell := fun (W : World) (x : Later W) => x.cell
  have hfrozen := fun (W : World) (x : Later W) => x.frozen
  have hset := set_same
  have HC := Lib.hid (show ∀ W, Calls Try.prog 19 #[.agg #[.int .i64 p, .int .i64 q, .int .i64 n], .int .i64 b] W (Gives (.int .i64 c) W) from fun W => by have h := column_any p q b n W; rw [hc] at h; exact h)
  clear hc
  go_enter Try.func11, Try.ntmps11
  go_upto_region 2 with ((go_at_call 19; (first | (with_reducible refine (later_call _ (HC.out _)).mono ?_) | (with_reducible refine (call_later (HC.out _)).mono ?_)); rintro e w' ⟨rfl, x, rfl⟩))
  go_cut [46] (fun z wx => z = .bool g ∧ wx = x.w)
  case first =>
    have hk : c = 0 ∨ c = 1 ∨ c = 2 ∨ c = 3 ∨ c = 4 := by omega
    rcases hk with rfl | rfl | rfl | rfl | rfl
    · have hg' : g = false := by rw [hg]; unfold barB; simp
      subst hg'
      clear hg
      go_wp2_with fail
      go_meet
      exact ⟨rfl, rfl⟩
    · have hg' : g = false := by rw [hg]; unfold barB; simp
      subst hg'
      clear hg
      go_wp2_with fail
      go_meet
      exact ⟨rfl, rfl⟩
    · by_cases hn : n = 1
      · have hg' : g = true := by rw [hg]; unfold barB; simp [hn]
        subst hn hg'
        clear hg
        go_wp2_with fail
        go_meet
        exact ⟨rfl, rfl⟩
      · have hg' : g = false := by rw [hg]; unfold barB; simp [hn]
        have n1 : (n == 1) = false := beq_eq_false_iff_ne.2 hn
        have n2 : decide (n = 1) = false := decide_eq_false hn
        subst hg'
        clear hg
        go_wp2_with fail
        go_meet
        exact ⟨rfl, rfl⟩
    · by_cases hn : n = 2
      · have hg' : g = true := by rw [hg]; unfold barB; simp [hn]
        subst hn hg'
        clear hg
        go_wp2_with fail
        go_meet
        exact ⟨rfl, rfl⟩
      · have hg' : g = false := by rw [hg]; unfold barB; simp [hn]
        have n1 : (n == 2) = false := beq_eq_false_iff_ne.2 hn
        have n2 : decide (n = 2) = false := decide_eq_false hn
        subst hg'
        clear hg
        go_wp2_with fail
        go_meet
        exact ⟨rfl, rfl⟩
    · have hg' : g = false := by rw [hg]; unfold barB; simp
      subst hg'
      clear hg
      go_wp2_with fail
      go_meet
      exact ⟨rfl, rfl⟩
  case rest =>
    obtain ⟨rfl, rfl⟩ := hcut
    obtain ⟨z1, z2⟩ := Later.lt2 x
    cases g with
    | true =>
      clear hg
      go_wp2_with fail
      refine bodyPost_ret (v := outR ⟨ev0, 0, 6⟩) (by simp (maxDischargeDepth := 8) [results, Try.results11, go_sem, outR, evR, ev0, n01, hcell, hset]) rfl ⟨by rw [HV1.out (by first | rfl | trivial)], ?_⟩
      (repeat (first | (with_reducible exact Below.refl _ _) | (with_reducible refine later_below _ ?_) | (with_reducible refine alloc_below ?_ _) | (with_reducible refine Below.drew ?_) | (refine Below.setCell ?_ (by first | exact Nat.le_refl _ | (simp; done) | (simp; omega) | omega) _)))
    | false =>
      clear hg
      obtain ⟨x0, e0⟩ : ∃ v, rowE 4 c 0 = v := ⟨_, rfl⟩
      obtain ⟨x1, e1⟩ : ∃ v, rowE 4 c 1 = v := ⟨_, rfl⟩
      obtain ⟨x2, e2⟩ : ∃ v, rowE 4 c 2 = v := ⟨_, rfl⟩
      obtain ⟨x3, e3⟩ : ∃ v, rowE 4 c 3 = v := ⟨_, rfl⟩
      obtain ⟨x4, e4⟩ : ∃ v, rowE 4 c 4 = v := ⟨_, rfl⟩
      obtain ⟨x5, e5⟩ : ∃ v, rowE 4 c 5 = v := ⟨_, rfl⟩
      obtain ⟨x6, e6⟩ : ∃ v, rowE 4 c 6 = v := ⟨_, rfl⟩
      have HV := Lib.hid (show V = .tuple #[.agg #[.int .i64 x0, .int .i64 x1, .int .i64 x2, .int .i64 x3, .int .i64 x4, .int .i64 (if x1 = 1 then (b : Int) else 0)], .int .i64 x5, .int .i64 x6] from by rw [HV2.out rfl]; unfold rowOut; rw [e0, e1, e2, e3, e4, e5, e6])
      clear HV1 HV2
      go_upto_region 5 with (fail)
      iterate 22 go_step
      refine wpList_store_top rfl 56 (.tmp 11) (.tmp 54) rfl _ #[.int .i64 0, .int .i64 0, .int .i64 0, .int .i64 0, .int .i64 0, .int .i64 0, .int .i64 0, .int .i64 0, .int .i64 0, .int .i64 0, .int .i64 0, .int .i64 0, .int .i64 0, .int .i64 0, .int .i64 0, .int .i64 0, .int .i64 0, .int .i64 0, .int .i64 0, .int .i64 0, .int .i64 0, .int .i64 0, .int .i64 0, .int .i64 0, .int .i64 0, .int .i64 0, .int .i64 0, .int .i64 0, .int .i64 0, .int .i64 0, .int .i64 0, .int .i64 0, .int .i64 0, .int .i64 0, .int .i64 0] rfl rfl (by simp) _ _ (by kernel_rfl) (by kernel_rfl) (by kernel_rfl) ?_
      go_upto_region 22 with (fail)
      iterate 19 go_step
      refine at_worldL ?_
      intro W00 hW
      have hB0 : Box W00 (x.w.heap.size + 1) 56 #[.int .i64 0, .int .i64 0, .int .i64 0, .int .i64 0, .int .i64 0, .int .i64 0, .int .i64 0, .int .i64 0, .int .i64 0, .int .i64 0, .int .i64 0, .int .i64 0, .int .i64 0, .int .i64 0, .int .i64 0, .int .i64 0, .int .i64 0, .int .i64 0, .int .i64 0, .int .i64 0, .int .i64 0, .int .i64 0, .int .i64 0, .int .i64 0, .int .i64 0, .int .i64 0, .int .i64 0, .int .i64 0, .int .i64 0, .int .i64 0, .int .i64 0, .int .i64 0, .int .i64 0, .int .i64 0, .int .i64 0] := by rw [← hW]; exact row_box x.w _ _ _ _ _ _ _ _ _
      have hLo0 : Below x.w.heap.size x.w W00 := by rw [← hW]; (repeat (first | (with_reducible exact Below.refl _ _) | (with_reducible refine later_below _ ?_) | (with_reducible refine alloc_below ?_ _) | (with_reducible refine Below.drew ?_) | (refine Below.setCell ?_ (by first | exact Nat.le_refl _ | (simp; done) | (simp; omega) | omega) _)))
      refine wpList_store_in rfl 56 (.tmp 11) (.tmp 101) rfl hB0 #[.int .i64 0, .int .i64 1, .int .i64 0, .int .i64 0, .int .i64 0, .int .i64 3, .int .i64 0, .int .i64 0, .int .i64 0, .int .i64 1, .int .i64 0, .int .i64 0, .int .i64 1, .int .i64 0, .int .i64 0, .int .i64 0, .int .i64 0, .int .i64 1, .int .i64 0, .int .i64 5, .int .i64 0, .int .i64 0, .int .i64 0, .int .i64 0, .int .i64 1, .int .i64 1, .int .i64 0, .int .i64 0, .int .i64 0, .int .i64 0, .int .i64 0, .int .i64 0, .int .i64 0, .int .i64 0, .int .i64 5] rfl rfl (by kernel_rfl) (by kernel_rfl) (by kernel_rfl) ?_
      intro W0 hB hgr
      have hLo : Below x.w.heap.size x.w W0 := hLo0.grown hgr hLo0.size (fun g hg => by injection hg with hg; omega)
      clear hW hB0 hLo0 hgr
      have HB := Lib.hid hB
      have HL := Lib.hid hLo
      clear hB hLo
      go_upto_region 27 with (fail)
      have hB := HB.out
      have hLo := HL.out
      have k0 : W0.cell? ⟨x.w.heap.size + 1, c * 7, none⟩ = some (.int .i64 x0) := by rw [hB.cell, ← e0]; exact row_get 4 c 0 h5
      have k1 : W0.cell? ⟨x.w.heap.size + 1, c * 7 + 1, none⟩ = some (.int .i64 x1) := by rw [hB.cell, ← e1]; exact row_get 4 c 1 h5
      have k2 : W0.cell? ⟨x.w.heap.size + 1, c * 7 + 2, none⟩ = some (.int .i64 x2) := by rw [hB.cell, ← e2]; exact row_get 4 c 2 h5
      have k3 : W0.cell? ⟨x.w.heap.size + 1, c * 7 + 3, none⟩ = some (.int .i64 x3) := by rw [hB.cell, ← e3]; exact row_get 4 c 3 h5
      have k4 : W0.cell? ⟨x.w.heap.size + 1, c * 7 + 4, none⟩ = some (.int .i64 x4) := by rw [hB.cell, ← e4]; exact row_get 4 c 4 h5
      have k5 : W0.cell? ⟨x.w.heap.size + 1, c * 7 + 5, none⟩ = some (.int .i64 x5) := by rw [hB.cell, ← e5]; exact row_get 4 c 5 h5
      have k6 : W0.cell? ⟨x.w.heap.size + 1, c * 7 + 6, none⟩ = some (.int .i64 x6) := by rw [hB.cell, ← e6]; exact row_get 4 c 6 h5
      have hz3 : w.heap.size + 1 < W0.heap.size := by have := hLo.size; omega
      have hz4 : x.w.heap.size + 1 < W0.heap.size := hB.lt
      have m0 : W0.cell? ⟨w.heap.size + 1, 0, none⟩ = some (.int .i64 0) := by rw [hLo.cell (p := ⟨w.heap.size + 1, 0, none⟩) z2]; simp [hcell]
      have m1 : W0.cell? ⟨w.heap.size + 1, 1, none⟩ = some (.int .i64 0) := by rw [hLo.cell (p := ⟨w.heap.size + 1, 1, none⟩) z2]; simp [hcell]
      have m2 : W0.cell? ⟨w.heap.size + 1, 2, none⟩ = some (.int .i64 0) := by rw [hLo.cell (p := ⟨w.heap.size + 1, 2, none⟩) z2]; simp [hcell]
      have m3 : W0.cell? ⟨w.heap.size + 1, 3, none⟩ = some (.int .i64 0) := by rw [hLo.cell (p := ⟨w.heap.size + 1, 3, none⟩) z2]; simp [hcell]
      have m4 : W0.cell? ⟨w.heap.size + 1, 4, none⟩ = some (.int .i64 0) := by rw [hLo.cell (p := ⟨w.heap.size + 1, 4, none⟩) z2]; simp [hcell]
      have m5 : W0.cell? ⟨w.heap.size + 1, 5, none⟩ = some (.int .i64 0) := by rw [hLo.cell (p := ⟨w.heap.size + 1, 5, none⟩) z2]; simp [hcell]
      have f0 : W0.frozen? ⟨w.heap.size + 1, 0, none⟩ = false := by rw [hLo.frozen (p := ⟨w.heap.size + 1, 0, none⟩) z2]; simp [hfrozen]
      have f1 : W0.frozen? ⟨w.heap.size + 1, 1, none⟩ = false := by rw [hLo.frozen (p := ⟨w.heap.size + 1, 1, none⟩) z2]; simp [hfrozen]
      have f2 : W0.frozen? ⟨w.heap.size + 1, 2, none⟩ = false := by rw [hLo.frozen (p := ⟨w.heap.size + 1, 2, none⟩) z2]; simp [hfrozen]
      have f3 : W0.frozen? ⟨w.heap.size + 1, 3, none⟩ = false := by rw [hLo.frozen (p := ⟨w.heap.size + 1, 3, none⟩) z2]; simp [hfrozen]
      have f4 : W0.frozen? ⟨w.heap.size + 1, 4, none⟩ = false := by rw [hLo.frozen (p := ⟨w.heap.size + 1, 4, none⟩) z2]; simp [hfrozen]
      have f5 : W0.frozen? ⟨w.heap.size + 1, 5, none⟩ = false := by rw [hLo.frozen (p := ⟨w.heap.size + 1, 5, none⟩) z2]; simp [hfrozen]
      have hBW : Below w.heap.size w W0 := (show Below w.heap.size w x.w from by (repeat (first | (with_reducible exact Below.refl _ _) | (with_reducible refine later_below _ ?_) | (with_reducible refine alloc_below ?_ _) | (with_reducible refine Below.drew ?_) | (refine Below.setCell ?_ (by first | exact Nat.le_refl _ | (simp; done) | (simp; omega) | omega) _)))).trans (hLo.mono (by omega))
      have c5 : (c : Int) < 5 := by omega
      clear hB hLo HB HL e0 e1 e2 e3 e4 e5 e6 HC
      by_cases hx : x1 = 1
      · subst hx
        go_upto_region 31 with (fail)
        refine at_world ?_
        intro W1 hW1
        have p5 : W1.cell? ⟨W0.heap.size, 5, none⟩ = some (.int .i64 x5) := by rw [← hW1]; simp
        have p6 : W1.cell? ⟨W0.heap.size, 6, none⟩ = some (.int .i64 x6) := by rw [← hW1]; simp
        have q0 : W1.cell? ⟨W0.heap.size + 1, 0, none⟩ = some (.int .i64 x0) := by rw [← hW1]; simp
        have q1 : W1.cell? ⟨W0.heap.size + 1, 1, none⟩ = some (.int .i64 1) := by rw [← hW1]; simp
        have q2 : W1.cell? ⟨W0.heap.size + 1, 2, none⟩ = some (.int .i64 x2) := by rw [← hW1]; simp
        have q3 : W1.cell? ⟨W0.heap.size + 1, 3, none⟩ = some (.int .i64 x3) := by rw [← hW1]; simp
        have q4 : W1.cell? ⟨W0.heap.size + 1, 4, none⟩ = some (.int .i64 x4) := by rw [← hW1]; simp
        have q5 : W1.cell? ⟨W0.heap.size + 1, 5, none⟩ = some (.int .i64 b) := by rw [← hW1]; simp
        have hL1 : Below W0.heap.size W0 W1 := by rw [← hW1]; (repeat (first | (with_reducible exact Below.refl _ _) | (with_reducible refine later_below _ ?_) | (with_reducible refine alloc_below ?_ _) | (with_reducible refine Below.drew ?_) | (refine Below.setCell ?_ (by first | exact Nat.le_refl _ | (simp; done) | (simp; omega) | omega) _)))
        have m0' : W1.cell? ⟨w.heap.size + 1, 0, none⟩ = some (.int .i64 0) := by rw [hL1.cell (p := ⟨w.heap.size + 1, 0, none⟩) hz3]; exact m0
        have m1' : W1.cell? ⟨w.heap.size + 1, 1, none⟩ = some (.int .i64 0) := by rw [hL1.cell (p := ⟨w.heap.size + 1, 1, none⟩) hz3]; exact m1
        have m2' : W1.cell? ⟨w.heap.size + 1, 2, none⟩ = some (.int .i64 0) := by rw [hL1.cell (p := ⟨w.heap.size + 1, 2, none⟩) hz3]; exact m2
        have m3' : W1.cell? ⟨w.heap.size + 1, 3, none⟩ = some (.int .i64 0) := by rw [hL1.cell (p := ⟨w.heap.size + 1, 3, none⟩) hz3]; exact m3
        have m4' : W1.cell? ⟨w.heap.size + 1, 4, none⟩ = some (.int .i64 0) := by rw [hL1.cell (p := ⟨w.heap.size + 1, 4, none⟩) hz3]; exact m4
        have m5' : W1.cell? ⟨w.heap.size + 1, 5, none⟩ = some (.int .i64 0) := by rw [hL1.cell (p := ⟨w.heap.size + 1, 5, none⟩) hz3]; exact m5
        have f0' : W1.frozen? ⟨w.heap.size + 1, 0, none⟩ = false := by rw [hL1.frozen (p := ⟨w.heap.size + 1, 0, none⟩) hz3]; exact f0
        have f1' : W1.frozen? ⟨w.heap.size + 1, 1, none⟩ = false := by rw [hL1.frozen (p := ⟨w.heap.size + 1, 1, none⟩) hz3]; exact f1
        have f2' : W1.frozen? ⟨w.heap.size + 1, 2, none⟩ = false := by rw [hL1.frozen (p := ⟨w.heap.size + 1, 2, none⟩) hz3]; exact f2
        have f3' : W1.frozen? ⟨w.heap.size + 1, 3, none⟩ = false := by rw [hL1.frozen (p := ⟨w.heap.size + 1, 3, none⟩) hz3]; exact f3
        have f4' : W1.frozen? ⟨w.heap.size + 1, 4, none⟩ = false := by rw [hL1.frozen (p := ⟨w.heap.size + 1, 4, none⟩) hz3]; exact f4
        have f5' : W1.frozen? ⟨w.heap.size + 1, 5, none⟩ = false := by rw [hL1.frozen (p := ⟨w.heap.size + 1, 5, none⟩) hz3]; exact f5
        have hBW1 : Below w.heap.size w W1 := hBW.trans (hL1.mono (by omega))
        have hne : ¬ W0.heap.size + 1 = w.heap.size + 1 := by omega
        have hne' : ¬ W0.heap.size = w.heap.size + 1 := by omega
        clear hW1 hL1 hBW
        go_region
        go_wp2
        refine bodyPost_ret (v := .tuple #[.agg #[.int .i64 x0, .int .i64 1, .int .i64 x2, .int .i64 x3, .int .i64 x4, .int .i64 b], .int .i64 x5, .int .i64 x6]) (by simp (maxDischargeDepth := 8) [results, Try.results11, go_sem, hset, m0', m1', m2', m3', m4', m5']) rfl ⟨by rw [HV.out]; rfl, ?_⟩
        (repeat (first | (with_reducible exact hBW1) | (with_reducible refine later_below _ ?_) | (with_reducible refine alloc_below ?_ _) | (with_reducible refine Below.drew ?_) | (refine Below.setCell ?_ (by first | exact Nat.le_refl _ | (simp; done) | (simp; omega) | omega) _)))
      · have y1 : (x1 == 1) = false := beq_eq_false_iff_ne.2 hx
        have y2 : decide (x1 = 1) = false := decide_eq_false hx
        go_upto_region 31 with (fail)
        refine at_world ?_
        intro W1 hW1
        have p5 : W1.cell? ⟨W0.heap.size, 5, none⟩ = some (.int .i64 x5) := by rw [← hW1]; simp
        have p6 : W1.cell? ⟨W0.heap.size, 6, none⟩ = some (.int .i64 x6) := by rw [← hW1]; simp
        have q0 : W1.cell? ⟨W0.heap.size + 1, 0, none⟩ = some (.int .i64 x0) := by rw [← hW1]; simp
        have q1 : W1.cell? ⟨W0.heap.size + 1, 1, none⟩ = some (.int .i64 x1) := by rw [← hW1]; simp
        have q2 : W1.cell? ⟨W0.heap.size + 1, 2, none⟩ = some (.int .i64 x2) := by rw [← hW1]; simp
        have q3 : W1.cell? ⟨W0.heap.size + 1, 3, none⟩ = some (.int .i64 x3) := by rw [← hW1]; simp
        have q4 : W1.cell? ⟨W0.heap.size + 1, 4, none⟩ = some (.int .i64 x4) := by rw [← hW1]; simp
        have q5 : W1.cell? ⟨W0.heap.size + 1, 5, none⟩ = some (.int .i64 0) := by rw [← hW1]; simp
        have hL1 : Below W0.heap.size W0 W1 := by rw [← hW1]; (repeat (first | (with_reducible exact Below.refl _ _) | (with_reducible refine later_below _ ?_) | (with_reducible refine alloc_below ?_ _) | (with_reducible refine Below.drew ?_) | (refine Below.setCell ?_ (by first | exact Nat.le_refl _ | (simp; done) | (simp; omega) | omega) _)))
        have m0' : W1.cell? ⟨w.heap.size + 1, 0, none⟩ = some (.int .i64 0) := by rw [hL1.cell (p := ⟨w.heap.size + 1, 0, none⟩) hz3]; exact m0
        have m1' : W1.cell? ⟨w.heap.size + 1, 1, none⟩ = some (.int .i64 0) := by rw [hL1.cell (p := ⟨w.heap.size + 1, 1, none⟩) hz3]; exact m1
        have m2' : W1.cell? ⟨w.heap.size + 1, 2, none⟩ = some (.int .i64 0) := by rw [hL1.cell (p := ⟨w.heap.size + 1, 2, none⟩) hz3]; exact m2
        have m3' : W1.cell? ⟨w.heap.size + 1, 3, none⟩ = some (.int .i64 0) := by rw [hL1.cell (p := ⟨w.heap.size + 1, 3, none⟩) hz3]; exact m3
        have m4' : W1.cell? ⟨w.heap.size + 1, 4, none⟩ = some (.int .i64 0) := by rw [hL1.cell (p := ⟨w.heap.size + 1, 4, none⟩) hz3]; exact m4
        have m5' : W1.cell? ⟨w.heap.size + 1, 5, none⟩ = some (.int .i64 0) := by rw [hL1.cell (p := ⟨w.heap.size + 1, 5, none⟩) hz3]; exact m5
        have f0' : W1.frozen? ⟨w.heap.size + 1, 0, none⟩ = false := by rw [hL1.frozen (p := ⟨w.heap.size + 1, 0, none⟩) hz3]; exact f0
        have f1' : W1.frozen? ⟨w.heap.size + 1, 1, none⟩ = false := by rw [hL1.frozen (p := ⟨w.heap.size + 1, 1, none⟩) hz3]; exact f1
        have f2' : W1.frozen? ⟨w.heap.size + 1, 2, none⟩ = false := by rw [hL1.frozen (p := ⟨w.heap.size + 1, 2, none⟩) hz3]; exact f2
        have f3' : W1.frozen? ⟨w.heap.size + 1, 3, none⟩ = false := by rw [hL1.frozen (p := ⟨w.heap.size + 1, 3, none⟩) hz3]; exact f3
        have f4' : W1.frozen? ⟨w.heap.size + 1, 4, none⟩ = false := by rw [hL1.frozen (p := ⟨w.heap.size + 1, 4, none⟩) hz3]; exact f4
        have f5' : W1.frozen? ⟨w.heap.size + 1, 5, none⟩ = false := by rw [hL1.frozen (p := ⟨w.heap.size + 1, 5, none⟩) hz3]; exact f5
        have hBW1 : Below w.heap.size w W1 := hBW.trans (hL1.mono (by omega))
        have hne : ¬ W0.heap.size + 1 = w.heap.size + 1 := by omega
        have hne' : ¬ W0.heap.size = w.heap.size + 1 := by omega
        clear hW1 hL1 hBW
        go_region
        go_wp2
        refine bodyPost_ret (v := .tuple #[.agg #[.int .i64 x0, .int .i64 x1, .int .i64 x2, .int .i64 x3, .int .i64 x4, .int .i64 0], .int .i64 x5, .int .i64 x6]) (by simp (maxDischargeDepth := 8) [results, Try.results11, go_sem, hset, m0', m1', m2', m3', m4', m5']) rfl ⟨by rw [HV.out]; rw [if_neg hx], ?_⟩
        (repeat (first | (with_reducible exact hBW1) | (with_reducible refine later_below _ ?_) | (with_reducible refine alloc_below ?_ _) | (with_reducible refine Below.drew ?_) | (refine Below.setCell ?_ (by first | exact Nat.le_refl _ | (simp; done) | (simp; omega) | omega) _)))

end Go.Proofs.Ytmolcpfbbhmabaa
