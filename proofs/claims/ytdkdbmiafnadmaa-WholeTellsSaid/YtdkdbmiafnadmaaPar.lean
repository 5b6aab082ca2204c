/-
  Walks: the program's parser: what a byte, or the end, comes to.
-/
import Derived.Test.YtdkdbmiafnadmaaRows
import Derived.Test.YtdkdbmiafnadmaaFldG
import Derived.Test.YtdkdbmiafnadmaaScanO
import Derived.Test.YtdkdbmiafnadmaaCls
import Derived.Test.YtdkdbmiafnadmaaUtP
import Derived.Deep.DeepCutAuto
import Derived.Deep.RegionWith
namespace Go.Proofs.Ytdkdbmiafnadmaa
open Go.RowKit

def pcells (p q : Nat) (n sq : Int) (st m : Nat) : Array Value := #[.int .u8 p, .int .u8 q, .int .i64 n, .int .i64 sq, .int .i64 st, .pointer (some ⟨m, 0, none⟩)]
abbrev PB (w : World) (o p q : Nat) (n sq : Int) (st m : Nat) : Prop := Box w o 84 (pcells p q n sq st m)

theorem box_six {w : World} {q : Nat} {t : TypeId} {a0 a1 a2 a3 a4 a5 : Value} (h : Box w q t #[a0, a1, a2, a3, a4, a5]) (v0 v1 v2 v3 v4 v5 : Value) : Box ((((((w.setCell ⟨q, 0, none⟩ v0).setCell ⟨q, 1, none⟩ v1).setCell ⟨q, 2, none⟩ v2).setCell ⟨q, 3, none⟩ v3).setCell ⟨q, 4, none⟩ v4).setCell ⟨q, 5, none⟩ v5) q t #[v0, v1, v2, v3, v4, v5] := (((((h.set 0 v0).set 1 v1).set 2 v2).set 3 v3).set 4 v4).set 5 v5

theorem grown_sixth (w : World) {W : World} (o : Nat) (h : w.grownBy W (some o)) (v0 v1 v2 v3 v4 v5 : Value) : w.grownBy ((((((W.setCell ⟨w.heap.size, 0, none⟩ v0).setCell ⟨w.heap.size, 1, none⟩ v1).setCell ⟨w.heap.size, 2, none⟩ v2).setCell ⟨w.heap.size, 3, none⟩ v3).setCell ⟨w.heap.size, 4, none⟩ v4).setCell ⟨w.heap.size, 5, none⟩ v5) (some o) := by
  have one : ∀ {W : World} (i : Nat) (v : Value), w.grownBy W (some o) → w.grownBy (W.setCell ⟨w.heap.size, i, none⟩ v) (some o) := fun {W} i v h =>
    ⟨h.os, h.tape, h.output, by have := h.size; simpa [World.setCell] using this, fun k hk hne => (Below.heap_setCell _ _ _ _ (by simp only []; omega)).trans (h.block k hk hne)⟩
  exact one _ _ (one _ _ (one _ _ (one _ _ (one _ _ (one _ _ h)))))

theorem atEnd_cut (o p q m : Nat) (n sq : Int) (st : Nat) (w : World) (h : PB w o p q n sq st m) (hsq : sq ≠ 0) :
    Calls Try.prog 52 #[.pointer (some ⟨o, 0, none⟩)] w (Gives (.tuple #[evP ev0, .int .i64 12]) w) := by
  apply Gives.of
  have q3 : w.cell? ⟨o, 3, none⟩ = some (.int .i64 sq) := h.cell 3
  have hlt := h.lt
  have d1 : (sq != 0) = true := by simp [hsq]
  have d2 : decide (sq = 0) = false := decide_eq_false hsq
  clear h
  go_enter Try.func52, Try.ntmps52
  go_wp2_with fail
  refine bodyPost_ret (v := .tuple #[evP ev0, .int .i64 12]) (by simp (maxDischargeDepth := 8) [results, Try.results52, go_sem, evP, ev0]) rfl ⟨rfl, ?_⟩
  (repeat (first | (with_reducible exact Below.refl _ _) | (with_reducible refine later_below _ ?_) | (with_reducible refine alloc_below ?_ _) | (with_reducible refine Below.drew ?_) | (refine Below.setCell ?_ (by first | exact Nat.le_refl _ | (simp; done) | (simp; omega) | omega) _)))

set_option maxHeartbeats 1000000 in
theorem atEnd_ok (o p q m : Nat) (n : Int) (st : Nat) (w : World) (h : PB w o p q n 0 st m) (hst : st ≤ 6) :
    Calls Try.prog 52 #[.pointer (some ⟨o, 0, none⟩)] w (Gives (.tuple #[evP (closeV st).ev, .int .i64 (closeV st).er]) w) := by
  apply Gives.of
  have hcell := fun (W : World) (x : Later W) => x.cell
  have hfrozen := fun (W : World) (x : Later W) => x.frozen
  have hset := set_same
  have q3 : w.cell? ⟨o, 3, none⟩ = some (.int .i64 0) := h.cell 3
  have q4 : w.cell? ⟨o, 4, none⟩ = some (.int .i64 st) := h.cell 4
  have hlt := h.lt
  obtain ⟨c, hc⟩ : ∃ c, closeV st = c := ⟨_, rfl⟩
  have HC := Lib.hid (show ∀ W, Calls Try.prog 58 #[.int .i64 st] W (Gives (.tuple #[.agg #[.bool c.ev.be, .bool c.ev.ad, .bool c.ev.fi, .bool c.ev.li, .bool c.ev.re, .int .u8 c.ev.by_], .int .i64 c.er]) W) from fun W => by have h := close_any st W hst; unfold closeP at h; rw [hc] at h; exact h)
  rw [hc]
  clear h hc
  go_enter Try.func52, Try.ntmps52
  go_wp2_with ((go_at_call 58; (first | (with_reducible refine (later_call _ (HC.out _)).mono ?_) | (with_reducible refine (call_later (HC.out _)).mono ?_)); rintro e w' ⟨rfl, x, rfl⟩))
  refine bodyPost_ret (v := .tuple #[evP c.ev, .int .i64 c.er]) (by simp (maxDischargeDepth := 8) [results, Try.results52, go_sem, evP, hcell, hset]) rfl ⟨rfl, ?_⟩
  (repeat (first | (with_reducible exact Below.refl _ _) | (with_reducible refine later_below _ ?_) | (with_reducible refine alloc_below ?_ _) | (with_reducible refine Below.drew ?_) | (refine Below.setCell ?_ (by first | exact Nat.le_refl _ | (simp; done) | (simp; omega) | omega) _)))

theorem step_no (o p q m b : Nat) (n sq : Int) (st : Nat) (w : World) (h : PB w o p q n sq st m) (hb : b < 256) (hsq : 0 ≤ sq ∧ sq ≤ 7) (hno : Utf.okI sq b = false) :
    Calls Try.prog 53 #[.pointer (some ⟨o, 0, none⟩), .int .u8 b] w (Gives (.tuple #[evP ev0, .int .i64 3]) w) := by
  apply Gives.of
  have hcell := fun (W : World) (x : Later W) => x.cell
  have hfrozen := fun (W : World) (x : Later W) => x.frozen
  have hset := set_same
  have q3 : w.cell? ⟨o, 3, none⟩ = some (.int .i64 sq) := h.cell 3
  have hlt := h.lt
  have HC := Lib.hid (fun W => Gives.same_left (Utf.step_any sq b W (by omega) hsq))
  rw [hno] at HC
  clear h
  go_enter Try.func53, Try.ntmps53
  go_wp2_with ((go_at_call 59; (first | (with_reducible refine (later_call _ (HC.out _)).mono ?_) | (with_reducible refine (call_later (HC.out _)).mono ?_)); rintro e w' ⟨rfl, x, rfl⟩))
  refine bodyPost_ret (v := .tuple #[evP ev0, .int .i64 3]) (by simp (maxDischargeDepth := 8) [results, Try.results53, go_sem, evP, ev0, hcell, hset]) rfl ⟨rfl, ?_⟩
  (repeat (first | (with_reducible exact Below.refl _ _) | (with_reducible refine later_below _ ?_) | (with_reducible refine alloc_below ?_ _) | (with_reducible refine Below.drew ?_) | (refine Below.setCell ?_ (by first | exact Nat.le_refl _ | (simp; done) | (simp; omega) | omega) _)))

set_option maxHeartbeats 2000000 in
theorem step_yes (o p q m b : Nat) (n sq : Int) (st : Nat) (w : World) (h : PB w o p q n sq st m) (hb : b < 256) (hsq : 0 ≤ sq ∧ sq ≤ 7) (hst : st ≤ 6) (hok : okB p q n = true) (hyes : Utf.okI sq b = true) :
    Calls Try.prog 53 #[.pointer (some ⟨o, 0, none⟩), .int .u8 b] w (fun e w' => e = .returned (.tuple #[evP (stepV p q n st b).ev, .int .i64 (stepV p q n st b).er]) ∧ PB w' o p q n (Utf.nxI sq b) (stepV p q n st b).to_ m ∧ w.grownBy w' (some o)) := by
  have hcell := fun (W : World) (x : Later W) => x.cell
  have hfrozen := fun (W : World) (x : Later W) => x.frozen
  have hset := set_same
  have q3 : w.cell? ⟨o, 3, none⟩ = some (.int .i64 sq) := h.cell 3
  have q0 : w.cell? ⟨o, 0, none⟩ = some (.int .u8 p) := h.cell 0
  have q1 : w.cell? ⟨o, 1, none⟩ = some (.int .u8 q) := h.cell 1
  have q2 : w.cell? ⟨o, 2, none⟩ = some (.int .i64 n) := h.cell 2
  have q4 : w.cell? ⟨o, 4, none⟩ = some (.int .i64 st) := h.cell 4
  have hlt := h.lt
  have HU := Lib.hid (fun W => Gives.same_left (Utf.step_any sq b W (by omega) hsq))
  rw [hyes] at HU
  generalize Utf.nxI sq b = sq' at HU ⊢
  obtain ⟨c, hc⟩ : ∃ c, stepV p q n st b = c := ⟨_, rfl⟩
  have HC := Lib.hid (show ∀ W, Calls Try.prog 60 #[.agg #[.int .u8 p, .int .u8 q, .int .i64 n], .int .i64 st, .int .u8 b] W (Gives (.tuple #[.agg #[.bool c.ev.be, .bool c.ev.ad, .bool c.ev.fi, .bool c.ev.li, .bool c.ev.re, .int .u8 c.ev.by_], .int .i64 c.to_, .int .i64 c.er]) W) from fun W => by have h := step_any p q st b n W hst hok; rw [hc] at h; exact h)
  rw [hc]
  have H := Lib.hid h
  clear h hc hyes
  go_enter Try.func53, Try.ntmps53
  go_wp2_with ((go_at_call 59; (first | (with_reducible refine (later_call _ (HU.out _)).mono ?_) | (with_reducible refine (call_later (HU.out _)).mono ?_)); rintro e w' ⟨rfl, x, rfl⟩); have hz := Later.lt1 x)
  have hbx : PB x.w o p q n sq st m := (H.out.alloc _).below x.below (by simp; omega)
  have hev : Box x.w w.heap.size 87 #[.bool false, .bool false, .bool false, .bool false, .bool false, .int .u8 0] := (Box.new w _ _).below x.below (by simp)
  have hb0 : Below w.heap.size w x.w := x.end1
  clear HU
  refine at_world ?_
  intro W0 hW
  rw [hW] at hbx hev hb0
  clear hW
  have k0 : W0.cell? ⟨o, 0, none⟩ = some (.int .u8 p) := hbx.cell 0
  have k1 : W0.cell? ⟨o, 1, none⟩ = some (.int .u8 q) := hbx.cell 1
  have k2 : W0.cell? ⟨o, 2, none⟩ = some (.int .i64 n) := hbx.cell 2
  have k4 : W0.cell? ⟨o, 4, none⟩ = some (.int .i64 st) := hbx.cell 4
  have d0 : W0.drew.cell? ⟨o, 0, none⟩ = some (.int .u8 p) := hbx.cell 0
  have d1 : W0.drew.cell? ⟨o, 1, none⟩ = some (.int .u8 q) := hbx.cell 1
  have d2 : W0.drew.cell? ⟨o, 2, none⟩ = some (.int .i64 n) := hbx.cell 2
  have d4 : W0.drew.cell? ⟨o, 4, none⟩ = some (.int .i64 st) := hbx.cell 4
  have hlt0 : o < W0.heap.size := hbx.lt
  have HX := Lib.hid hbx
  have HE := Lib.hid hev
  have HB := Lib.hid hb0
  clear hbx hev hb0 q0 q1 q2 q3 q4
  go_cut [8, 9, 10] (fun z8 z9 z10 wx => ∃ g, z8 = .pointer (some ⟨g, 0, none⟩) ∧ z9 = .int .i64 c.to_ ∧ z10 = .int .i64 c.er ∧ Box wx g 87 #[.bool c.ev.be, .bool c.ev.ad, .bool c.ev.fi, .bool c.ev.li, .bool c.ev.re, .int .u8 c.ev.by_] ∧ Below W0.heap.size W0 wx ∧ W0.heap.size ≤ g)
  case first =>
    go_region_with (first | (go_at_call 60; refine (call_later (HC.out _)).mono ?_; rintro e w' ⟨rfl, x, rfl⟩; (try have y0 : x.w.cell? ⟨W0.heap.size, 0, none⟩ = some (.bool false) := (by simp [hcell]; done)); (try have z0 : x.w.frozen? ⟨W0.heap.size, 0, none⟩ = false := (by simp [hfrozen]; done)); (try have y1 : x.w.cell? ⟨W0.heap.size, 1, none⟩ = some (.bool false) := (by simp [hcell]; done)); (try have z1 : x.w.frozen? ⟨W0.heap.size, 1, none⟩ = false := (by simp [hfrozen]; done)); (try have y2 : x.w.cell? ⟨W0.heap.size, 2, none⟩ = some (.bool false) := (by simp [hcell]; done)); (try have z2 : x.w.frozen? ⟨W0.heap.size, 2, none⟩ = false := (by simp [hfrozen]; done)); (try have y3 : x.w.cell? ⟨W0.heap.size, 3, none⟩ = some (.bool false) := (by simp [hcell]; done)); (try have z3 : x.w.frozen? ⟨W0.heap.size, 3, none⟩ = false := (by simp [hfrozen]; done)); (try have y4 : x.w.cell? ⟨W0.heap.size, 4, none⟩ = some (.bool false) := (by simp [hcell]; done)); (try have z4 : x.w.frozen? ⟨W0.heap.size, 4, none⟩ = false := (by simp [hfrozen]; done)); (try have y5 : x.w.cell? ⟨W0.heap.size, 5, none⟩ = some (.int .u8 0) := (by simp [hcell]; done)); (try have z5 : x.w.frozen? ⟨W0.heap.size, 5, none⟩ = false := (by simp [hfrozen]; done))))
    all_goals
      go_wp2_with fail
      go_meet
      refine ⟨_, rfl, rfl, rfl, ?_, ?_, ?_⟩
      · first
          | with_reducible exact Box.new _ _ _
          | with_reducible exact box_six (show Box x.w W0.heap.size 87 #[.bool false, .bool false, .bool false, .bool false, .bool false, .int .u8 0] from (Box.new W0.drew _ _).below x.below (by simp)) _ _ _ _ _ _
      · (repeat (first | (with_reducible exact Below.refl _ _) | (with_reducible refine later_below _ ?_) | (with_reducible refine alloc_below ?_ _) | (with_reducible refine Below.drew ?_) | (refine Below.setCell ?_ (by first | exact Nat.le_refl _ | (simp; done) | (simp; omega) | omega) _)))
      · first
          | exact Nat.le_refl _
          | exact x.size
  case rest =>
    obtain ⟨g, rfl, rfl, rfl, hbe, hbw, hg⟩ := hcut
    have hx2 := HX.out.below hbw hlt0
    have he2 := HE.out.below hbw HE.out.lt
    have hglt := hbe.lt
    have hne : w.heap.size < W0.heap.size := HE.out.lt
    have hne1 : ¬ g = o := by omega
    have hne2 : ¬ g = w.heap.size := by omega
    have hne3 : ¬ o = w.heap.size := by omega
    have hne4 : ¬ w.heap.size = o := by omega
    have HG := Lib.hid (HB.out.trans (hbw.mono (by omega)))
    have HX2 := Lib.hid hx2
    have HE2 := Lib.hid he2
    have r0 : wc.cell? ⟨g, 0, none⟩ = some (.bool c.ev.be) := hbe.cell 0
    have r1 : wc.cell? ⟨g, 1, none⟩ = some (.bool c.ev.ad) := hbe.cell 1
    have r2 : wc.cell? ⟨g, 2, none⟩ = some (.bool c.ev.fi) := hbe.cell 2
    have r3 : wc.cell? ⟨g, 3, none⟩ = some (.bool c.ev.li) := hbe.cell 3
    have r4 : wc.cell? ⟨g, 4, none⟩ = some (.bool c.ev.re) := hbe.cell 4
    have r5 : wc.cell? ⟨g, 5, none⟩ = some (.int .u8 c.ev.by_) := hbe.cell 5
    have s3 : wc.cell? ⟨o, 3, none⟩ = some (.int .i64 sq) := hx2.cell 3
    have s4 : wc.cell? ⟨o, 4, none⟩ = some (.int .i64 st) := hx2.cell 4
    have sf := hx2.frozen
    have t0 : wc.cell? ⟨w.heap.size, 0, none⟩ = some (.bool false) := he2.cell 0
    have t1 : wc.cell? ⟨w.heap.size, 1, none⟩ = some (.bool false) := he2.cell 1
    have t2 : wc.cell? ⟨w.heap.size, 2, none⟩ = some (.bool false) := he2.cell 2
    have t3 : wc.cell? ⟨w.heap.size, 3, none⟩ = some (.bool false) := he2.cell 3
    have t4 : wc.cell? ⟨w.heap.size, 4, none⟩ = some (.bool false) := he2.cell 4
    have t5 : wc.cell? ⟨w.heap.size, 5, none⟩ = some (.int .u8 0) := he2.cell 5
    have tf := he2.frozen
    clear k0 k1 k2 k4 d0 d1 d2 d4 hbe hbw hx2 he2 hcell hfrozen hg hglt
    go_wp2_with fail
    have hP := ((((((((HX2.out.set 3 (.int .i64 sq')).set 4 (.int .i64 c.to_)).far (p := ⟨w.heap.size, 0, none⟩) hne3 (.bool c.ev.be)).far (p := ⟨w.heap.size, 1, none⟩) hne3 (.bool c.ev.ad)).far (p := ⟨w.heap.size, 2, none⟩) hne3 (.bool c.ev.fi)).far (p := ⟨w.heap.size, 3, none⟩) hne3 (.bool c.ev.li)).far (p := ⟨w.heap.size, 4, none⟩) hne3 (.bool c.ev.re)).far (p := ⟨w.heap.size, 5, none⟩) hne3 (.int .u8 c.ev.by_))
    have hE := box_six ((HE2.out.far (p := ⟨o, 3, none⟩) hne4 (.int .i64 sq')).far (p := ⟨o, 4, none⟩) hne4 (.int .i64 c.to_)) (.bool c.ev.be) (.bool c.ev.ad) (.bool c.ev.fi) (.bool c.ev.li) (.bool c.ev.re) (.int .u8 c.ev.by_)
    have hG : w.grownBy (((((((((wc.setCell ⟨o, 3, none⟩ (.int .i64 sq')).setCell ⟨o, 4, none⟩ (.int .i64 c.to_)).setCell ⟨w.heap.size, 0, none⟩ (.bool c.ev.be)).setCell ⟨w.heap.size, 1, none⟩ (.bool c.ev.ad)).setCell ⟨w.heap.size, 2, none⟩ (.bool c.ev.fi)).setCell ⟨w.heap.size, 3, none⟩ (.bool c.ev.li)).setCell ⟨w.heap.size, 4, none⟩ (.bool c.ev.re)).setCell ⟨w.heap.size, 5, none⟩ (.int .u8 c.ev.by_))) (some o) :=
      grown_sixth _ _ (grown_trans (grown_trans (grown_below HG.out _) (grown_set wc o 3 (.int .i64 sq'))) (grown_set _ o 4 (.int .i64 c.to_))) _ _ _ _ _ _
    clear HX2 HE2 HG r0 r1 r2 r3 r4 r5 s3 s4 sf t0 t1 t2 t3 t4 t5 tf
    generalize ((((((((wc.setCell ⟨o, 3, none⟩ (.int .i64 sq')).setCell ⟨o, 4, none⟩ (.int .i64 c.to_)).setCell ⟨w.heap.size, 0, none⟩ (.bool c.ev.be)).setCell ⟨w.heap.size, 1, none⟩ (.bool c.ev.ad)).setCell ⟨w.heap.size, 2, none⟩ (.bool c.ev.fi)).setCell ⟨w.heap.size, 3, none⟩ (.bool c.ev.li)).setCell ⟨w.heap.size, 4, none⟩ (.bool c.ev.re)).setCell ⟨w.heap.size, 5, none⟩ (.int .u8 c.ev.by_)) = W8 at hP hE hG ⊢
    have e0 : W8.cell? ⟨w.heap.size, 0, none⟩ = some (.bool c.ev.be) := hE.cell 0
    have e1 : W8.cell? ⟨w.heap.size, 1, none⟩ = some (.bool c.ev.ad) := hE.cell 1
    have e2 : W8.cell? ⟨w.heap.size, 2, none⟩ = some (.bool c.ev.fi) := hE.cell 2
    have e3 : W8.cell? ⟨w.heap.size, 3, none⟩ = some (.bool c.ev.li) := hE.cell 3
    have e4 : W8.cell? ⟨w.heap.size, 4, none⟩ = some (.bool c.ev.re) := hE.cell 4
    have e5 : W8.cell? ⟨w.heap.size, 5, none⟩ = some (.int .u8 c.ev.by_) := hE.cell 5
    refine bodyPost_ret (v := .tuple #[evP c.ev, .int .i64 c.er]) (by simp (maxDischargeDepth := 8) [results, Try.results53, go_sem, evP, e0, e1, e2, e3, e4, e5]) rfl ⟨rfl, ?_⟩
    exact ⟨hP, hG⟩

end Go.Proofs.Ytdkdbmiafnadmaa
