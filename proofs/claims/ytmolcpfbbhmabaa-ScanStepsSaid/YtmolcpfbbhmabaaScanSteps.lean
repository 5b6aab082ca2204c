/-
  The law ScanSteps returns true for every dialect, state and byte. Conditions: none.
-/
import Derived.Test.YtmolcpfbbhmabaaRows
import Derived.Test.YtmolcpfbbhmabaaOpenD
import Derived.Test.YtmolcpfbbhmabaaScanL
import Derived.Test.YtmolcpfbbhmabaaScanU
namespace Go.Proofs.Ytmolcpfbbhmabaa
open Go.ChangeShapes Go.WideShapes Go.ChangeAt Go.RowKit Go.Joins

theorem step_byte (p q s b : Nat) (n : Int) (hb : b < 256) : (stepV p q n s b).ev.by_ ≤ 255 := by
  have := step_by p q n s b
  omega

set_option maxHeartbeats 4000000 in
theorem steps_any (p q st b : Nat) (n : Int) (w : World) (hp : p < 256) (hq : q < 256) (hst : st < 256) (hb : b < 256) : Calls Try.prog 3 #[.agg #[.int .u8 p, .int .u8 q, .int .i64 n], .int .u8 st, .int .u8 b] w (Gives (.bool true) w) := by
  apply Gives.of
  have hcell := fun (W : World) (x : Later W) => x.cell
  have hfrozen := fun (W : World) (x : Later W) => x.frozen
  have hset := set_same
  have HF := Lib.hid (fun W => ref_any p q n W hp hq)
  have HA := Lib.hid awake_any
  obtain ⟨r, hr⟩ : ∃ r, okB p q n = r := ⟨_, rfl⟩
  have HR := Lib.hid (fun W => hr ▸ right_any p q n W)
  cases r with
  | false =>
    clear hr
    go_enter Try.func3, Try.ntmps3
    go_wp2_with (first | (go_at_call 8; (first | (with_reducible refine (later_call _ (HF.out _)).mono ?_) | (with_reducible refine (call_later (HF.out _)).mono ?_)); rintro e w' ⟨rfl, x, rfl⟩) | (go_at_call 7; (first | (with_reducible refine (later_call _ (HR.out _)).mono ?_) | (with_reducible refine (call_later (HR.out _)).mono ?_)); rintro e w' ⟨rfl, x, rfl⟩) | (go_at_call 9; (first | (with_reducible refine (later_call _ (HA.out _)).mono ?_) | (with_reducible refine (call_later (HA.out _)).mono ?_)); rintro e w' ⟨rfl, x, rfl⟩))
    go_ret
    refine ⟨rfl, ?_⟩
    (repeat (first | (with_reducible exact Below.refl _ _) | (with_reducible refine later_below _ ?_) | (with_reducible refine alloc_below ?_ _) | (with_reducible refine Below.drew ?_) | (refine Below.setCell ?_ (by first | exact Nat.le_refl _ | (simp; done) | (simp; omega) | omega) _)))
  | true =>
    obtain ⟨m, hm⟩ : ∃ m, st % 7 = m := ⟨_, rfl⟩
    have hm6 : m ≤ 6 := by omega
    have t1 : Int.tmod (st : Int) 7 = (m : Int) := by rw [← hm]; rfl
    have t2 : (st : Int) % 7 = (m : Int) := by omega
    have t3 : wrap64 (b : Int) = (b : Int) := by unfold wrap64; omega
    have t4 : wrap64 (st : Int) = (st : Int) := by unfold wrap64; omega
    have hby := step_byte p q m b n hb
    have HP := Lib.hid (fun W => step_any p q m b n W hm6 hr)
    have HS := Lib.hid (fun W => rstep_any p q m b n W hm6 hr)
    generalize stepV p q n m b = o at *
    have HP' := Lib.hid (show ∀ W, Calls Try.prog 10 #[.agg #[.int .u8 p, .int .u8 q, .int .i64 n], .int .i64 m, .int .u8 b] W (Gives (.tuple #[.agg #[.bool o.ev.be, .bool o.ev.ad, .bool o.ev.fi, .bool o.ev.li, .bool o.ev.re, .int .u8 o.ev.by_], .int .i64 o.to_, .int .i64 o.er]) W) from HP.out)
    have HS' := Lib.hid (show ∀ W, Calls Try.prog 11 #[.agg #[.int .i64 p, .int .i64 q, .int .i64 n], .int .i64 m, .int .i64 b] W (Gives (.tuple #[.agg #[.int .i64 (n01 o.ev.be), .int .i64 (n01 o.ev.ad), .int .i64 (n01 o.ev.fi), .int .i64 (n01 o.ev.li), .int .i64 (n01 o.ev.re), .int .i64 o.ev.by_], .int .i64 o.to_, .int .i64 o.er]) W) from HS.out)
    have HL := Lib.hid (show ∀ W, Calls Try.prog 12 #[.agg #[.bool o.ev.be, .bool o.ev.ad, .bool o.ev.fi, .bool o.ev.li, .bool o.ev.re, .int .u8 o.ev.by_]] W (Gives (.agg #[.int .i64 (n01 o.ev.be), .int .i64 (n01 o.ev.ad), .int .i64 (n01 o.ev.fi), .int .i64 (n01 o.ev.li), .int .i64 (n01 o.ev.re), .int .i64 o.ev.by_]) W) from fun W => lref_any o.ev W hby)
    clear HP HS hr hm hby
    go_enter Try.func3, Try.ntmps3
    go_upto_region 4 with (first | (go_at_call 8; (first | (with_reducible refine (later_call _ (HF.out _)).mono ?_) | (with_reducible refine (call_later (HF.out _)).mono ?_)); rintro e w' ⟨rfl, x1, rfl⟩; have hzx1 : w.heap.size < x1.w.heap.size := (by have := x1.size; simp at this ⊢; omega)) | (go_at_call 7; (first | (with_reducible refine (later_call _ (HR.out _)).mono ?_) | (with_reducible refine (call_later (HR.out _)).mono ?_)); rintro e w' ⟨rfl, x2, rfl⟩; have hzx2 : w.heap.size < x2.w.heap.size := (by have := x2.size; simp at this ⊢; omega)))
    go_upto_region 5 with ((go_at_call 10; (first | (with_reducible refine (later_call _ (HP'.out _)).mono ?_) | (with_reducible refine (call_later (HP'.out _)).mono ?_)); rintro e w' ⟨rfl, x3, rfl⟩; have hzx3 : w.heap.size < x3.w.heap.size := (by have := x3.size; simp at this ⊢; omega); have hy3 : w.heap.size < x3.w.heap.size + 1 := (by omega)))
    go_upto_region 6 with (first | (go_at_call 8; (first | (with_reducible refine (later_call _ (HF.out _)).mono ?_) | (with_reducible refine (call_later (HF.out _)).mono ?_)); rintro e w' ⟨rfl, x4, rfl⟩) | (go_at_call 11; (first | (with_reducible refine (later_call _ (HS'.out _)).mono ?_) | (with_reducible refine (call_later (HS'.out _)).mono ?_)); rintro e w' ⟨rfl, x5, rfl⟩))
    refine at_world ?_
    intro W0 hW
    have hb8 : Box W0 x3.w.heap.size 30 #[.bool o.ev.be, .bool o.ev.ad, .bool o.ev.fi, .bool o.ev.li, .bool o.ev.re, .int .u8 o.ev.by_] := by rw [← hW]; exact ((Box.new x3.w _ _).below x5.below (by simp)).alloc _
    have hb11 : Box W0 x5.w.heap.size 35 #[.int .i64 (n01 o.ev.be), .int .i64 (n01 o.ev.ad), .int .i64 (n01 o.ev.fi), .int .i64 (n01 o.ev.li), .int .i64 (n01 o.ev.re), .int .i64 o.ev.by_] := by rw [← hW]; exact Box.new _ _ _
    have hBB : Below w.heap.size w W0 := by rw [← hW]; (repeat (first | (with_reducible exact Below.refl _ _) | (with_reducible refine later_below _ ?_) | (with_reducible refine alloc_below ?_ _) | (with_reducible refine Below.drew ?_) | (refine Below.setCell ?_ (by first | exact Nat.le_refl _ | (simp; done) | (simp; omega) | omega) _)))
    have c0 : ∀ y : Later W0, y.w.cell? ⟨x3.w.heap.size, 0, none⟩ = some (.bool o.ev.be) := fun y => (y.below.cell (p := ⟨x3.w.heap.size, 0, none⟩) hb8.lt).trans (hb8.cell 0)
    have c1 : ∀ y : Later W0, y.w.cell? ⟨x3.w.heap.size, 1, none⟩ = some (.bool o.ev.ad) := fun y => (y.below.cell (p := ⟨x3.w.heap.size, 1, none⟩) hb8.lt).trans (hb8.cell 1)
    have c2 : ∀ y : Later W0, y.w.cell? ⟨x3.w.heap.size, 2, none⟩ = some (.bool o.ev.fi) := fun y => (y.below.cell (p := ⟨x3.w.heap.size, 2, none⟩) hb8.lt).trans (hb8.cell 2)
    have c3 : ∀ y : Later W0, y.w.cell? ⟨x3.w.heap.size, 3, none⟩ = some (.bool o.ev.li) := fun y => (y.below.cell (p := ⟨x3.w.heap.size, 3, none⟩) hb8.lt).trans (hb8.cell 3)
    have c4 : ∀ y : Later W0, y.w.cell? ⟨x3.w.heap.size, 4, none⟩ = some (.bool o.ev.re) := fun y => (y.below.cell (p := ⟨x3.w.heap.size, 4, none⟩) hb8.lt).trans (hb8.cell 4)
    have c5 : ∀ y : Later W0, y.w.cell? ⟨x3.w.heap.size, 5, none⟩ = some (.int .u8 o.ev.by_) := fun y => (y.below.cell (p := ⟨x3.w.heap.size, 5, none⟩) hb8.lt).trans (hb8.cell 5)
    have d0 : ∀ y : Later W0, y.w.cell? ⟨x5.w.heap.size, 0, none⟩ = some (.int .i64 (n01 o.ev.be)) := fun y => (y.below.cell (p := ⟨x5.w.heap.size, 0, none⟩) hb11.lt).trans (hb11.cell 0)
    have d1 : ∀ y : Later W0, y.w.cell? ⟨x5.w.heap.size, 1, none⟩ = some (.int .i64 (n01 o.ev.ad)) := fun y => (y.below.cell (p := ⟨x5.w.heap.size, 1, none⟩) hb11.lt).trans (hb11.cell 1)
    have d2 : ∀ y : Later W0, y.w.cell? ⟨x5.w.heap.size, 2, none⟩ = some (.int .i64 (n01 o.ev.fi)) := fun y => (y.below.cell (p := ⟨x5.w.heap.size, 2, none⟩) hb11.lt).trans (hb11.cell 2)
    have d3 : ∀ y : Later W0, y.w.cell? ⟨x5.w.heap.size, 3, none⟩ = some (.int .i64 (n01 o.ev.li)) := fun y => (y.below.cell (p := ⟨x5.w.heap.size, 3, none⟩) hb11.lt).trans (hb11.cell 3)
    have d4 : ∀ y : Later W0, y.w.cell? ⟨x5.w.heap.size, 4, none⟩ = some (.int .i64 (n01 o.ev.re)) := fun y => (y.below.cell (p := ⟨x5.w.heap.size, 4, none⟩) hb11.lt).trans (hb11.cell 4)
    have d5 : ∀ y : Later W0, y.w.cell? ⟨x5.w.heap.size, 5, none⟩ = some (.int .i64 o.ev.by_) := fun y => (y.below.cell (p := ⟨x5.w.heap.size, 5, none⟩) hb11.lt).trans (hb11.cell 5)
    clear hW
    refine wp_region_later_lit (by kernel_rfl) (by kernel_rfl) ?_
    repeat (go_big_quiet_step (first | (go_at_call 12; exact later_call _ (HL.out _)) | (go_at_call 9; exact later_call _ (HA.out _))))
    refine wpQuiet_nil ?_
    rintro w' ⟨y, rfl⟩
    go_wp2
    go_ret
    refine ⟨rfl, ?_⟩
    exact later_below _ hBB

set_option maxRecDepth 100000 in
theorem scanSteps_lifted (os : Os) (started : os.Started) (H : Type) (enc : TypeId × Value → H) :
    ReturnsInHanded {} Try.checked os 3 .any (Rows.scanStepsSpec.pre6 enc Try.prog Try.f3 Rows.scanStepsRow.domain false) (Rows.scanStepsSpec.post enc Try.prog Try.f3 false true false false) := by
  refine law_lift (C := Try.checked) (tb := 4) Try.own Try.laidOut started (by kernel_rfl) Try.func3
    (ChangeSpec.witness6 (enc := enc) (C := Try.checked) false ⟨#[], #[.agg #[.int .u8 0, .int .u8 0, .int .i64 0], .int .u8 0, .int .u8 0], []⟩ 8 (by kernel_rfl) (by kernel_rfl) (by kernel_rfl) (by kernel_rfl))
    rfl Try.underlying4 (by intro t ht; have ht' : t ∈ [23, 5, 5] := ht; simp at ht'; rcases ht' with rfl | rfl <;> exact ⟨by kernel_rfl, of_decide_eq_true (by kernel_rfl)⟩) rfl
    (fun ds h => match ds, h with | [_, _, _], _ => rfl) ?_
  intro W base args ds ps hh
  obtain ⟨v, v', v'', d, d', d'', p, p', p'', rfl, ⟨hv, hv', hv''⟩, h0, h0', h0''⟩ := handed_three Try.params3 hh
  obtain ⟨a, b, n, ha, hb, rfl⟩ := open_dialect hv h0
  obtain ⟨c, hc, rfl⟩ := open_byte hv' h0'
  obtain ⟨e, he, rfl⟩ := open_byte hv'' h0''
  exact steps_any a b c e n W ha hb hc he

theorem scanSteps_holds : Rows.ScanStepsSaid :=
  OpenClaim.holds_of_wide 3 Try.f3 rfl rfl rfl rfl rfl rfl rfl ⟨rfl, rfl, rfl, rfl, rfl⟩ rfl rfl rfl rfl rfl (by kernel_rfl) Try.func3 (by kernel_rfl)
    (of_decide_eq_true (by kernel_rfl)) (by unfold Func.isWrapper; first | (rw [if_pos (by decide +kernel)]; kernel_rfl) | (rw [if_neg (by decide +kernel)]; exact ⟨rfl, rfl⟩))
    (fun os started H enc _ => scanSteps_lifted os started H enc)
#print axioms scanSteps_holds

end Go.Proofs.Ytmolcpfbbhmabaa
