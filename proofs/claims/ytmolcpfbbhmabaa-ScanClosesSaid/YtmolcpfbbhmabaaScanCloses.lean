/-
  The law ScanCloses returns true for every state. Conditions: none.
-/
import Derived.Test.YtmolcpfbbhmabaaRows
import Derived.Test.YtmolcpfbbhmabaaOpenA
import Derived.Test.YtmolcpfbbhmabaaScanL
namespace Go.Proofs.Ytmolcpfbbhmabaa
open Go.ChangeShapes Go.WideShapes Go.ChangeAt Go.RowKit Go.Joins

theorem close_byte (s : Nat) : (closeV s).ev.by_ ≤ 255 := by
  unfold closeV
  repeat' split
  all_goals simp [ev0]

set_option maxHeartbeats 4000000 in
theorem closes_any (st : Nat) (w : World) (hst : st < 256) : Calls Try.prog 4 #[.int .u8 st] w (Gives (.bool true) w) := by
  apply Gives.of
  have hcell := fun (W : World) (x : Later W) => x.cell
  have hfrozen := fun (W : World) (x : Later W) => x.frozen
  have hset := set_same
  have HA := Lib.hid awake_any
  obtain ⟨m, hm⟩ : ∃ m, st % 7 = m := ⟨_, rfl⟩
  have hm6 : m ≤ 6 := by omega
  have t1 : Int.tmod (st : Int) 7 = (m : Int) := by rw [← hm]; rfl
  have t2 : (st : Int) % 7 = (m : Int) := by omega
  have t4 : wrap64 (st : Int) = (st : Int) := by unfold wrap64; omega
  have hby := close_byte m
  have HP := Lib.hid (fun W => close_any m W hm6)
  have HS := Lib.hid (fun W => rclose_any m W hm6)
  unfold closeP at HP
  unfold closeR at HS
  generalize closeV m = o at *
  have HP' := Lib.hid (show ∀ W, Calls Try.prog 13 #[.int .i64 m] W (Gives (.tuple #[.agg #[.bool o.ev.be, .bool o.ev.ad, .bool o.ev.fi, .bool o.ev.li, .bool o.ev.re, .int .u8 o.ev.by_], .int .i64 o.er]) W) from HP.out)
  have HS' := Lib.hid (show ∀ W, Calls Try.prog 14 #[.int .i64 m] W (Gives (.tuple #[.agg #[.int .i64 (n01 o.ev.be), .int .i64 (n01 o.ev.ad), .int .i64 (n01 o.ev.fi), .int .i64 (n01 o.ev.li), .int .i64 (n01 o.ev.re), .int .i64 o.ev.by_], .int .i64 o.er]) W) from HS.out)
  have HL := Lib.hid (show ∀ W, Calls Try.prog 12 #[.agg #[.bool o.ev.be, .bool o.ev.ad, .bool o.ev.fi, .bool o.ev.li, .bool o.ev.re, .int .u8 o.ev.by_]] W (Gives (.agg #[.int .i64 (n01 o.ev.be), .int .i64 (n01 o.ev.ad), .int .i64 (n01 o.ev.fi), .int .i64 (n01 o.ev.li), .int .i64 (n01 o.ev.re), .int .i64 o.ev.by_]) W) from fun W => lref_any o.ev W hby)
  clear HP HS hm hby
  go_enter Try.func4, Try.ntmps4
  go_upto_region 4 with (first | (go_at_call 13; (first | (with_reducible refine (later_call _ (HP'.out _)).mono ?_) | (with_reducible refine (call_later (HP'.out _)).mono ?_)); rintro e w' ⟨rfl, x1, rfl⟩) | (go_at_call 14; (first | (with_reducible refine (later_call _ (HS'.out _)).mono ?_) | (with_reducible refine (call_later (HS'.out _)).mono ?_)); rintro e w' ⟨rfl, x2, rfl⟩))
  refine at_world ?_
  intro W0 hW
  have hb8 : Box W0 x1.w.heap.size 30 #[.bool o.ev.be, .bool o.ev.ad, .bool o.ev.fi, .bool o.ev.li, .bool o.ev.re, .int .u8 o.ev.by_] := by rw [← hW]; exact ((Box.new x1.w _ _).below x2.below (by simp)).alloc _
  have hb11 : Box W0 x2.w.heap.size 35 #[.int .i64 (n01 o.ev.be), .int .i64 (n01 o.ev.ad), .int .i64 (n01 o.ev.fi), .int .i64 (n01 o.ev.li), .int .i64 (n01 o.ev.re), .int .i64 o.ev.by_] := by rw [← hW]; exact Box.new _ _ _
  have hBB : Below w.heap.size w W0 := by rw [← hW]; (repeat (first | (with_reducible exact Below.refl _ _) | (with_reducible refine later_below _ ?_) | (with_reducible refine alloc_below ?_ _) | (with_reducible refine Below.drew ?_) | (refine Below.setCell ?_ (by first | exact Nat.le_refl _ | (simp; done) | (simp; omega) | omega) _)))
  have c0 : ∀ y : Later W0, y.w.cell? ⟨x1.w.heap.size, 0, none⟩ = some (.bool o.ev.be) := fun y => (y.below.cell (p := ⟨x1.w.heap.size, 0, none⟩) hb8.lt).trans (hb8.cell 0)
  have c1 : ∀ y : Later W0, y.w.cell? ⟨x1.w.heap.size, 1, none⟩ = some (.bool o.ev.ad) := fun y => (y.below.cell (p := ⟨x1.w.heap.size, 1, none⟩) hb8.lt).trans (hb8.cell 1)
  have c2 : ∀ y : Later W0, y.w.cell? ⟨x1.w.heap.size, 2, none⟩ = some (.bool o.ev.fi) := fun y => (y.below.cell (p := ⟨x1.w.heap.size, 2, none⟩) hb8.lt).trans (hb8.cell 2)
  have c3 : ∀ y : Later W0, y.w.cell? ⟨x1.w.heap.size, 3, none⟩ = some (.bool o.ev.li) := fun y => (y.below.cell (p := ⟨x1.w.heap.size, 3, none⟩) hb8.lt).trans (hb8.cell 3)
  have c4 : ∀ y : Later W0, y.w.cell? ⟨x1.w.heap.size, 4, none⟩ = some (.bool o.ev.re) := fun y => (y.below.cell (p := ⟨x1.w.heap.size, 4, none⟩) hb8.lt).trans (hb8.cell 4)
  have c5 : ∀ y : Later W0, y.w.cell? ⟨x1.w.heap.size, 5, none⟩ = some (.int .u8 o.ev.by_) := fun y => (y.below.cell (p := ⟨x1.w.heap.size, 5, none⟩) hb8.lt).trans (hb8.cell 5)
  have d0 : ∀ y : Later W0, y.w.cell? ⟨x2.w.heap.size, 0, none⟩ = some (.int .i64 (n01 o.ev.be)) := fun y => (y.below.cell (p := ⟨x2.w.heap.size, 0, none⟩) hb11.lt).trans (hb11.cell 0)
  have d1 : ∀ y : Later W0, y.w.cell? ⟨x2.w.heap.size, 1, none⟩ = some (.int .i64 (n01 o.ev.ad)) := fun y => (y.below.cell (p := ⟨x2.w.heap.size, 1, none⟩) hb11.lt).trans (hb11.cell 1)
  have d2 : ∀ y : Later W0, y.w.cell? ⟨x2.w.heap.size, 2, none⟩ = some (.int .i64 (n01 o.ev.fi)) := fun y => (y.below.cell (p := ⟨x2.w.heap.size, 2, none⟩) hb11.lt).trans (hb11.cell 2)
  have d3 : ∀ y : Later W0, y.w.cell? ⟨x2.w.heap.size, 3, none⟩ = some (.int .i64 (n01 o.ev.li)) := fun y => (y.below.cell (p := ⟨x2.w.heap.size, 3, none⟩) hb11.lt).trans (hb11.cell 3)
  have d4 : ∀ y : Later W0, y.w.cell? ⟨x2.w.heap.size, 4, none⟩ = some (.int .i64 (n01 o.ev.re)) := fun y => (y.below.cell (p := ⟨x2.w.heap.size, 4, none⟩) hb11.lt).trans (hb11.cell 4)
  have d5 : ∀ y : Later W0, y.w.cell? ⟨x2.w.heap.size, 5, none⟩ = some (.int .i64 o.ev.by_) := fun y => (y.below.cell (p := ⟨x2.w.heap.size, 5, none⟩) hb11.lt).trans (hb11.cell 5)
  clear hW
  refine wp_region_later_lit (by kernel_rfl) (by kernel_rfl) ?_
  repeat (go_big_quiet_step (first | (go_at_call 12; exact later_call _ (HL.out _)) | (go_at_call 9; exact later_call _ (HA.out _))))
  refine wpQuiet_nil ?_
  rintro w' ⟨y, rfl⟩
  go_wp2
  go_ret
  refine ⟨rfl, ?_⟩
  exact later_below _ hBB

set_option maxRecDepth 100000 in
theorem scanCloses_lifted (os : Os) (started : os.Started) (H : Type) (enc : TypeId × Value → H) :
    ReturnsInHanded {} Try.checked os 4 .any (Rows.scanClosesSpec.pre6 enc Try.prog Try.f4 Rows.scanClosesRow.domain false) (Rows.scanClosesSpec.post enc Try.prog Try.f4 false true false false) := by
  refine law_lift (C := Try.checked) (tb := 4) Try.own Try.laidOut started (by kernel_rfl) Try.func4
    (ChangeSpec.witness6 (enc := enc) (C := Try.checked) false ⟨#[], #[.int .u8 0], []⟩ 8 (by kernel_rfl) (by kernel_rfl) (by kernel_rfl) (by kernel_rfl))
    rfl Try.underlying4 (by intro t ht; have ht' : t ∈ [5] := ht; simp at ht'; subst ht'; exact ⟨by kernel_rfl, of_decide_eq_true (by kernel_rfl)⟩) rfl
    (fun ds h => match ds, h with | [_], _ => rfl) ?_
  intro W base args ds ps hh
  obtain ⟨v, d, p, rfl, hv, h0⟩ := handed_one Try.params4 hh
  obtain ⟨c, hc, rfl⟩ := open_byte hv h0
  exact closes_any c W hc

theorem scanCloses_holds : Rows.ScanClosesSaid :=
  OpenClaim.holds_of_wide 4 Try.f4 rfl rfl rfl rfl rfl rfl rfl ⟨rfl, rfl, rfl, rfl, rfl⟩ rfl rfl rfl rfl rfl (by kernel_rfl) Try.func4 (by kernel_rfl)
    (of_decide_eq_true (by kernel_rfl)) (by unfold Func.isWrapper; first | (rw [if_pos (by decide +kernel)]; kernel_rfl) | (rw [if_neg (by decide +kernel)]; exact ⟨rfl, rfl⟩))
    (fun os started H enc _ => scanCloses_lifted os started H enc)
#print axioms scanCloses_holds

end Go.Proofs.Ytmolcpfbbhmabaa
