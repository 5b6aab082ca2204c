/-
  A field is read as it was of what is written of it, and what is quoted alone is read as one record of it: the law QuoteBack returns true for every dialect, field and place.
  Conditions: none (the tables that the row lists are held as the program's text lays them: the tied card).
-/
import Derived.Test.YtajedohgcepkiaaDoorRows
import Derived.Test.YtajedohgcepkiaaDoorCards
import Derived.Test.YtajedohgcepkiaaDoorTie
import Derived.Test.YtajedohgcepkiaaDoorOpenD
import Derived.Test.YtajedohgcepkiaaDoorOpenA
import Derived.Test.YtajedohgcepkiaaDoorLawT
import Derived.Test.YtajedohgcepkiaaDoorQtA
import Derived.Test.YtajedohgcepkiaaDoorPrs
import Derived.Test.YtajedohgcepkiaaDoorStB
import Derived.SevenTiedAt
import Derived.Deep.RegionHeld
import Derived.Deep.DeepCutAuto
namespace Go.Proofs.YtajedohgcepkiaaDoor
open Go.RowKit Qt Nd

theorem toB_q {q : Nat} (hq : q < 256) : (toB q).toNat = q := by have := toB_toNat (q : Int) (by omega) (by omega); omega

theorem back_long (p q : Nat) (n : Int) (f : ByteArray) (x : Nat) (w : World) (hM : MaxL w) (hf : 200 < f.size) : Calls Tryd.prog 5 #[.agg #[.int .u8 p, .int .u8 q, .int .i64 n], .string f, .int .u8 x] w (Gives (.bool true) w) := by
  apply Gives.of
  have hcell := fun (W : World) (x : Later W) => x.cell
  have HA := Lib.hid awake_any
  have h1 : (200 : Int) < (f.size : Int) := by omega
  have h2 : decide ((200 : Int) < (f.size : Int)) = true := decide_eq_true h1
  clear hf
  go_enter Tryd.func5, Tryd.ntmps5
  go_wp2_with ((go_at_call 9; (first | (with_reducible refine (later_call _ (HA.out _ (by (repeat (first | assumption | (with_reducible refine MaxL.later _ ?_) | (with_reducible refine MaxL.alloc ?_ _) | (with_reducible refine MaxL.drew ?_)))))).mono ?_) | (with_reducible refine (call_later (HA.out _ (by (repeat (first | assumption | (with_reducible refine MaxL.later _ ?_) | (with_reducible refine MaxL.alloc ?_ _) | (with_reducible refine MaxL.drew ?_)))))).mono ?_)); rintro e w' ⟨rfl, x, rfl⟩))
  go_ret
  refine ⟨rfl, ?_⟩
  (repeat (first | (with_reducible exact Below.refl _ _) | (with_reducible refine later_below _ ?_) | (with_reducible refine alloc_below ?_ _) | (with_reducible refine Below.drew ?_) | (refine Below.setCell ?_ (by first | exact Nat.le_refl _ | (simp; done) | (simp; omega) | omega) _)))
theorem back_bad (p q : Nat) (n : Int) (f : ByteArray) (x : Nat) (w : World) (hM : MaxL w) (hp : p < 256) (hq : q < 256) (hf : ¬ 200 < f.size) (hok : okB p q n = false) : Calls Tryd.prog 5 #[.agg #[.int .u8 p, .int .u8 q, .int .i64 n], .string f, .int .u8 x] w (Gives (.bool true) w) := by
  apply Gives.of
  have hcell := fun (W : World) (x : Later W) => x.cell
  have HA := Lib.hid awake_any
  have HF := Lib.hid (fun W => ref_any p q n W hp hq)
  have HR := Lib.hid (fun W => hok ▸ right_any p q n W)
  have h1 : ¬ (200 : Int) < (f.size : Int) := by omega
  have h2 : decide ((200 : Int) < (f.size : Int)) = false := decide_eq_false h1
  clear hf hp hq hok
  go_enter Tryd.func5, Tryd.ntmps5
  go_wp2_with (first | (go_at_call 9; (first | (with_reducible refine (later_call _ (HA.out _ (by (repeat (first | assumption | (with_reducible refine MaxL.later _ ?_) | (with_reducible refine MaxL.alloc ?_ _) | (with_reducible refine MaxL.drew ?_)))))).mono ?_) | (with_reducible refine (call_later (HA.out _ (by (repeat (first | assumption | (with_reducible refine MaxL.later _ ?_) | (with_reducible refine MaxL.alloc ?_ _) | (with_reducible refine MaxL.drew ?_)))))).mono ?_)); rintro e w' ⟨rfl, x, rfl⟩) | (go_at_call 8; (first | (with_reducible refine (later_call _ (HF.out _)).mono ?_) | (with_reducible refine (call_later (HF.out _)).mono ?_)); rintro e w' ⟨rfl, x, rfl⟩) | (go_at_call 7; (first | (with_reducible refine (later_call _ (HR.out _)).mono ?_) | (with_reducible refine (call_later (HR.out _)).mono ?_)); rintro e w' ⟨rfl, x, rfl⟩))
  go_ret
  refine ⟨rfl, ?_⟩
  (repeat (first | (with_reducible exact Below.refl _ _) | (with_reducible refine later_below _ ?_) | (with_reducible refine alloc_below ?_ _) | (with_reducible refine Below.drew ?_) | (refine Below.setCell ?_ (by first | exact Nat.le_refl _ | (simp; done) | (simp; omega) | omega) _)))

set_option maxHeartbeats 4000000 in
theorem back_torn (p q : Nat) (n : Int) (f : ByteArray) (x0 : Nat) (w : World) (hM : MaxL w) (hp : p < 256) (hq : q < 256) (hf : ¬ 200 < f.size) (hok : okB p q n = true) (hw : Utf.wholeN f < f.size) : Calls Tryd.prog 5 #[.agg #[.int .u8 p, .int .u8 q, .int .i64 n], .string f, .int .u8 x0] w (Gives (.bool true) w) := by
  apply Gives.of
  have hcell := fun (W : World) (x : Later W) => x.cell
  have HA := Lib.hid awake_any
  have HF := Lib.hid (fun W => ref_any p q n W hp hq)
  have HR := Lib.hid (fun W => hok ▸ right_any p q n W)
  have HW := Lib.hid (fun W => Utf.refWhole_any f W (by unfold maxLen; omega))
  have h1 : ¬ (200 : Int) < (f.size : Int) := by omega
  have h2 : decide ((200 : Int) < (f.size : Int)) = false := decide_eq_false h1
  obtain ⟨al, hal⟩ : ∃ al, (bits BinOp.and IntKind.u8 (x0 : Int) 1 == 1) = al := ⟨_, rfl⟩
  obtain ⟨fi, hfi⟩ : ∃ fi, (bits BinOp.and IntKind.u8 (x0 : Int) 2 == 2) = fi := ⟨_, rfl⟩
  have hz1 := quoB_le (toB q) f
  have hz2 : (wriB p q f al fi).size ≤ 402 := by unfold wriB; split <;> omega
  have H1 := Lib.hid (fun W h => progQuoted_any p q n f W h (by omega) hq)
  have H2 := Lib.hid (fun W h => written_any p q n f al fi W h (by omega) hp hq)
  have H3 := Lib.hid (fun W h => unquote_any p q n (quoB (toB q) f) W h (by omega) hp hq)
  have H4 := Lib.hid (fun W h => unquote_any p q n (wriB p q f al fi) W h (by omega) hp hq)
  rw [unq_quo] at H3
  rw [unq_wri _ _ _ hq] at H4
  unfold unqP at H3 H4
  simp only [] at H3 H4
  generalize (if whyN p q f al fi = 0 then false else true) = bq at H4
  generalize wriB p q f al fi = B at H2 H4
  generalize quoB (toB q) f = A at H1 H3
  generalize Utf.wholeN f = M at HW hw
  have k1 : (M : Int) < (f.size : Int) := by omega
  have k2 : decide ((M : Int) < (f.size : Int)) = true := decide_eq_true k1
  clear hf hok hp hq h1 hz1 hz2 hw
  go_enter Tryd.func5, Tryd.ntmps5
  go_wp2_with (first | (go_at_call 9; (first | (with_reducible refine (later_call _ (HA.out _ (by (repeat (first | assumption | (with_reducible refine MaxL.later _ ?_) | (with_reducible refine MaxL.alloc ?_ _) | (with_reducible refine MaxL.drew ?_)))))).mono ?_) | (with_reducible refine (call_later (HA.out _ (by (repeat (first | assumption | (with_reducible refine MaxL.later _ ?_) | (with_reducible refine MaxL.alloc ?_ _) | (with_reducible refine MaxL.drew ?_)))))).mono ?_)); rintro e w' ⟨rfl, x, rfl⟩) | (go_at_call 8; (first | (with_reducible refine (later_call _ (HF.out _)).mono ?_) | (with_reducible refine (call_later (HF.out _)).mono ?_)); rintro e w' ⟨rfl, x, rfl⟩) | (go_at_call 7; (first | (with_reducible refine (later_call _ (HR.out _)).mono ?_) | (with_reducible refine (call_later (HR.out _)).mono ?_)); rintro e w' ⟨rfl, x, rfl⟩))
  refine wp_region_anch x (by kernel_rfl) (by kernel_rfl) ?_
  repeat (go_big_quiet_step (first | (go_at_call 14; with_reducible exact later_call _ (H2.out _ (by (repeat (first | assumption | (with_reducible refine MaxL.later _ ?_) | (with_reducible refine MaxL.alloc ?_ _) | (with_reducible refine MaxL.drew ?_)))))) | (go_at_call 16; with_reducible exact later_call _ (H4.out _ (by (repeat (first | assumption | (with_reducible refine MaxL.later _ ?_) | (with_reducible refine MaxL.alloc ?_ _) | (with_reducible refine MaxL.drew ?_))))))))
  refine wpQuiet_nil ?_
  rintro w' ⟨y, rfl⟩
  go_wp2
  refine wp_region_anch y (by kernel_rfl) (by kernel_rfl) ?_
  repeat (go_big_quiet_step (first | (go_at_call 12; with_reducible exact later_call _ (H1.out _ (by (repeat (first | assumption | (with_reducible refine MaxL.later _ ?_) | (with_reducible refine MaxL.alloc ?_ _) | (with_reducible refine MaxL.drew ?_)))))) | (go_at_call 16; with_reducible exact later_call _ (H3.out _ (by (repeat (first | assumption | (with_reducible refine MaxL.later _ ?_) | (with_reducible refine MaxL.alloc ?_ _) | (with_reducible refine MaxL.drew ?_))))))))
  refine wpQuiet_nil ?_
  rintro w' ⟨y, rfl⟩
  go_wp2_with (first | (go_at_call 9; (first | (with_reducible refine (later_call _ (HA.out _ (by (repeat (first | assumption | (with_reducible refine MaxL.later _ ?_) | (with_reducible refine MaxL.alloc ?_ _) | (with_reducible refine MaxL.drew ?_)))))).mono ?_) | (with_reducible refine (call_later (HA.out _ (by (repeat (first | assumption | (with_reducible refine MaxL.later _ ?_) | (with_reducible refine MaxL.alloc ?_ _) | (with_reducible refine MaxL.drew ?_)))))).mono ?_)); rintro e w' ⟨rfl, x, rfl⟩) | (go_at_call 18; (first | (with_reducible refine (later_call _ (HW.out _)).mono ?_) | (with_reducible refine (call_later (HW.out _)).mono ?_)); rintro e w' ⟨rfl, x, rfl⟩))
  go_ret
  refine ⟨rfl, ?_⟩
  (repeat (first | (with_reducible exact Below.refl _ _) | (with_reducible refine later_below _ ?_) | (with_reducible refine alloc_below ?_ _) | (with_reducible refine Below.drew ?_) | (refine Below.setCell ?_ (by first | exact Nat.le_refl _ | (simp; done) | (simp; omega) | omega) _)))

set_option maxRecDepth 100000 in
set_option maxHeartbeats 4000000 in
theorem back_main (p q : Nat) (n : Int) (f : ByteArray) (x0 : Nat) (w : World) (hM : MaxL w) (hp : p < 256) (hq : q < 256) (hf : ¬ 200 < f.size) (hok : okB p q n = true) (hw : ¬ Utf.wholeN f < f.size) : Calls Tryd.prog 5 #[.agg #[.int .u8 p, .int .u8 q, .int .i64 n], .string f, .int .u8 x0] w (Gives (.bool true) w) := by
  apply Gives.of
  have hcell := fun (W : World) (x : Later W) => x.cell
  have HA := Lib.hid awake_any
  have HF := Lib.hid (fun W => ref_any p q n W hp hq)
  have HR := Lib.hid (fun W => hok ▸ right_any p q n W)
  have HW := Lib.hid (fun W => Utf.refWhole_any f W (by unfold maxLen; omega))
  have h1 : ¬ (200 : Int) < (f.size : Int) := by omega
  have h2 : decide ((200 : Int) < (f.size : Int)) = false := decide_eq_false h1
  obtain ⟨al, hal⟩ : ∃ al, (bits BinOp.and IntKind.u8 (x0 : Int) 1 == 1) = al := ⟨_, rfl⟩
  obtain ⟨fi, hfi⟩ : ∃ fi, (bits BinOp.and IntKind.u8 (x0 : Int) 2 == 2) = fi := ⟨_, rfl⟩
  have hz1 := quoB_le (toB q) f
  have hz2 : (wriB p q f al fi).size ≤ 402 := by unfold wriB; split <;> omega
  have H1 := Lib.hid (fun W h => progQuoted_any p q n f W h (by omega) hq)
  have H2 := Lib.hid (fun W h => written_any p q n f al fi W h (by omega) hp hq)
  have H3 := Lib.hid (fun W h => unquote_any p q n (quoB (toB q) f) W h (by omega) hp hq)
  have H4 := Lib.hid (fun W h => unquote_any p q n (wriB p q f al fi) W h (by omega) hp hq)
  rw [unq_quo] at H3
  rw [unq_wri _ _ _ hq] at H4
  unfold unqP at H3 H4
  simp only [] at H3 H4
  generalize (if whyN p q f al fi = 0 then false else true) = bq at H4
  have hrd := quo_read (x := toB q) hok (toB_q hq) (by omega) (whole_of hw)
  obtain ⟨A0, hP⟩ := parse_wide p q n (quoB (toB q) f) (by omega) hok
  rw [hrd.1, hrd.2] at hP
  clear hrd
  generalize wriB p q f al fi = B at H2 H4
  generalize quoB (toB q) f = A at H1 H3 hP
  generalize Utf.wholeN f = M at HW hw
  have HP := Lib.hid hP
  clear hP
  have k1 : ¬ (M : Int) < (f.size : Int) := by omega
  have k2 : decide ((M : Int) < (f.size : Int)) = false := decide_eq_false k1
  clear hf hok hp hq h1 hz1 hz2 hw
  go_enter Tryd.func5, Tryd.ntmps5
  go_wp2_with (first | (go_at_call 9; (first | (with_reducible refine (later_call _ (HA.out _ (by (repeat (first | assumption | (with_reducible refine MaxL.later _ ?_) | (with_reducible refine MaxL.alloc ?_ _) | (with_reducible refine MaxL.drew ?_)))))).mono ?_) | (with_reducible refine (call_later (HA.out _ (by (repeat (first | assumption | (with_reducible refine MaxL.later _ ?_) | (with_reducible refine MaxL.alloc ?_ _) | (with_reducible refine MaxL.drew ?_)))))).mono ?_)); rintro e w' ⟨rfl, x, rfl⟩) | (go_at_call 8; (first | (with_reducible refine (later_call _ (HF.out _)).mono ?_) | (with_reducible refine (call_later (HF.out _)).mono ?_)); rintro e w' ⟨rfl, x, rfl⟩) | (go_at_call 7; (first | (with_reducible refine (later_call _ (HR.out _)).mono ?_) | (with_reducible refine (call_later (HR.out _)).mono ?_)); rintro e w' ⟨rfl, x, rfl⟩))
  refine wp_region_anch x (by kernel_rfl) (by kernel_rfl) ?_
  repeat (go_big_quiet_step (first | (go_at_call 14; with_reducible exact later_call _ (H2.out _ (by (repeat (first | assumption | (with_reducible refine MaxL.later _ ?_) | (with_reducible refine MaxL.alloc ?_ _) | (with_reducible refine MaxL.drew ?_)))))) | (go_at_call 16; with_reducible exact later_call _ (H4.out _ (by (repeat (first | assumption | (with_reducible refine MaxL.later _ ?_) | (with_reducible refine MaxL.alloc ?_ _) | (with_reducible refine MaxL.drew ?_))))))))
  refine wpQuiet_nil ?_
  rintro w' ⟨y, rfl⟩
  go_wp2
  refine wp_region_anch y (by kernel_rfl) (by kernel_rfl) ?_
  repeat (go_big_quiet_step (first | (go_at_call 12; with_reducible exact later_call _ (H1.out _ (by (repeat (first | assumption | (with_reducible refine MaxL.later _ ?_) | (with_reducible refine MaxL.alloc ?_ _) | (with_reducible refine MaxL.drew ?_)))))) | (go_at_call 16; with_reducible exact later_call _ (H3.out _ (by (repeat (first | assumption | (with_reducible refine MaxL.later _ ?_) | (with_reducible refine MaxL.alloc ?_ _) | (with_reducible refine MaxL.drew ?_))))))))
  refine wpQuiet_nil ?_
  rintro w' ⟨y, rfl⟩
  go_upto_region 10 with (first | (go_at_call 9; (first | (with_reducible refine (later_call _ (HA.out _ (by (repeat (first | assumption | (with_reducible refine MaxL.later _ ?_) | (with_reducible refine MaxL.alloc ?_ _) | (with_reducible refine MaxL.drew ?_)))))).mono ?_) | (with_reducible refine (call_later (HA.out _ (by (repeat (first | assumption | (with_reducible refine MaxL.later _ ?_) | (with_reducible refine MaxL.alloc ?_ _) | (with_reducible refine MaxL.drew ?_)))))).mono ?_)); rintro e w' ⟨rfl, x, rfl⟩) | (go_at_call 18; (first | (with_reducible refine (later_call _ (HW.out _)).mono ?_) | (with_reducible refine (call_later (HW.out _)).mono ?_)); rintro e w' ⟨rfl, x, rfl⟩))
  have hx1 := x.lt1
  have hbd : Box x.w w.heap.size 23 #[.int .u8 p, .int .u8 q, .int .i64 n] := (Box.new w _ _).below x.below (by simp)
  have hd := hbd.alloc (.cells #[.int .i64 2147483648, .int .i64 2147483648, .int .i64 2147483648, .int .i64 0] 44)
  have hlb := Box.new x.w 44 #[.int .i64 2147483648, .int .i64 2147483648, .int .i64 2147483648, .int .i64 0]
  have HB1 := Lib.hid (alloc_below x.end1 (.cells #[.int .i64 2147483648, .int .i64 2147483648, .int .i64 2147483648, .int .i64 0] 44))
  have hM1 := ((hM.alloc (.cells #[.int .u8 p, .int .u8 q, .int .i64 n] 23)).later x).alloc (.cells #[.int .i64 2147483648, .int .i64 2147483648, .int .i64 2147483648, .int .i64 0] 44)
  obtain ⟨db, hdb⟩ : ∃ db, w.heap.size = db := ⟨_, rfl⟩
  obtain ⟨lb, hlbe⟩ : ∃ lb, x.w.heap.size = lb := ⟨_, rfl⟩
  generalize x.w.alloc (.cells #[.int .i64 2147483648, .int .i64 2147483648, .int .i64 2147483648, .int .i64 0] 44) = W1 at hd hlb HB1 hM1 ⊢
  rw [hdb] at hd ⊢
  rw [hlbe] at hlb ⊢
  have hS : PaS W1 db lb p q n W1 := ⟨hd.cell 0, hd.cell 1, hd.cell 2, hlb.cell 0, hlb.cell 1, hlb.cell 2, hlb.cell 3, hd.lt, hlb.lt, Below.refl _ _⟩
  clear hx1 hbd hd hlb hdb hlbe
  go_cut [14, 15, 16] (fun z6 z7 z8 wx => ∃ v2, z6 = v2 ∧ z7 = .int .i64 ((0 : Nat) : Int) ∧ z8 = .int .i64 (A0 : Int) ∧ Tbl wx v2 [[f]] ∧ Below W1.heap.size W1 wx)
  case first =>
    go_region_held (fun w' => w'.cell? ⟨db, 0, none⟩ = some (.int .u8 p) ∧ w'.cell? ⟨db, 1, none⟩ = some (.int .u8 q) ∧ w'.cell? ⟨db, 2, none⟩ = some (.int .i64 n) ∧
        w'.cell? ⟨lb, 0, none⟩ = some (.int .i64 2147483648) ∧ w'.cell? ⟨lb, 1, none⟩ = some (.int .i64 2147483648) ∧ w'.cell? ⟨lb, 2, none⟩ = some (.int .i64 2147483648) ∧ w'.cell? ⟨lb, 3, none⟩ = some (.int .i64 0) ∧
        db < w'.heap.size ∧ lb < w'.heap.size ∧ Below W1.heap.size W1 w')
      (first | exact paS_next (w := W1) (db := db) (lb := lb) (p := p) (q := q) (n := n) (by assumption) x.below | exact paS_next (w := W1) (db := db) (lb := lb) (p := p) (q := q) (n := n) hS (Below.refl _ _).drew | go_keep)
      (first
        | (go_at_call 8; refine (call_later (HF.out _)).mono ?_; rintro e w' ⟨rfl, x, rfl⟩)
        | (go_at_call 12; refine (call_later (H1.out _ (by first | exact hM1.drew | exact hM1 | exact MaxL.later _ hM1.drew | exact hM1.below (show PaS W1 db lb p q n _ from by assumption).2.2.2.2.2.2.2.2.2))).mono ?_; rintro e w' ⟨rfl, x, rfl⟩)
        | (go_at_call 19; refine (HP.out _).mono ?_; rintro e w' ⟨v2, rfl, ht2, hb2⟩; obtain ⟨x, rfl⟩ : ∃ x : Later _, w' = x.w := ⟨⟨w', hb2⟩, rfl⟩; have HT2 := Lib.hid ht2; clear ht2 hb2))
    all_goals
      go_wp2_with fail
      go_meet
      exact ⟨_, rfl, rfl, rfl, HT2.out, (show PaS W1 db lb p q n _ from by assumption).2.2.2.2.2.2.2.2.2⟩
  case rest =>
    obtain ⟨v2, rfl, rfl, rfl, ht2, hbw⟩ := hcut
    have HB3 := Lib.hid (HB1.out.trans (hbw.mono HB1.out.size))
    have hMc := hM1.below hbw
    clear hbw hS
    obtain ⟨A', c, rfl, hTc, hcm, hTA⟩ := ht2
    obtain ⟨a, r, rfl, ha, hr⟩ := hTA 0 [f] rfl
    have ha0 : wc.cell? a = some r := ha
    have hSt : Strs (wc.alloc (.cells #[.string f] 9)) (.slice (some ⟨wc.heap.size, 0, none⟩) 1 1) [f] := Strs.built wc 9 [f] (by unfold maxLen; simp)
    have hMd := hMc.alloc (.cells #[.string f] 9)
    have HQ := Lib.hid (decide_eq_true (rfl : [f] = [f]) ▸ same_any r _ [f] [f] (wc.alloc (.cells #[.string f] 9)) (hr.below (one_alloc _ _)) hSt)
    have HB4 := Lib.hid (alloc_below HB3.out (.cells #[.string f] 9))
    obtain ⟨rB, rD, hr0, _⟩ := hr
    subst hr0
    clear ha hSt hTc hTA
    go_wp2_with (first | (go_at_call 20; refine (call_later HQ.out).mono ?_; rintro e w' ⟨rfl, x, rfl⟩) | (go_at_call 9; (first | (with_reducible refine (later_call _ (HA.out _ (by (repeat (first | assumption | (with_reducible refine MaxL.later _ ?_) | (with_reducible refine MaxL.alloc ?_ _) | (with_reducible refine MaxL.drew ?_)))))).mono ?_) | (with_reducible refine (call_later (HA.out _ (by (repeat (first | assumption | (with_reducible refine MaxL.later _ ?_) | (with_reducible refine MaxL.alloc ?_ _) | (with_reducible refine MaxL.drew ?_)))))).mono ?_)); rintro e w' ⟨rfl, x, rfl⟩))
    go_ret
    exact ⟨rfl, HB4.out.trans (x.below.mono HB4.out.size)⟩

theorem back_any (p q : Nat) (n : Int) (f : ByteArray) (x : Nat) (w : World) (hM : MaxL w) (hp : p < 256) (hq : q < 256) : Calls Tryd.prog 5 #[.agg #[.int .u8 p, .int .u8 q, .int .i64 n], .string f, .int .u8 x] w (Gives (.bool true) w) := by
  by_cases h : 200 < f.size
  · exact back_long p q n f x w hM h
  · cases hok : okB p q n
    · exact back_bad p q n f x w hM hp hq h hok
    · by_cases hw : Utf.wholeN f < f.size
      · exact back_torn p q n f x w hM hp hq h hok hw
      · exact back_main p q n f x w hM hp hq h hok hw

open Go.ChangeShapes Go.WideShapes Go.ChangeAt Go.Joins

set_option maxRecDepth 100000 in
theorem quoteBack_lifted (os : Os) (started : os.Started) (H : Type) (enc : TypeId × Value → H) :
    ReturnsInHanded {} Tryd.checked os 5 .any (fun w args => (Rows.quoteBackSpec.pre enc Tryd.prog Tryd.f5 [] false w args ∧ laidMetH Tryd.prog Rows.quoteBackRow.laid w) ∧ sizedMet enc Tryd.prog Tryd.f5 (OpenSpec.ofChange Rows.quoteBackSpec) false w args) (Rows.quoteBackSpec.post enc Tryd.prog Tryd.f5 false true false false) := by
  refine law_lift_laid (C := Tryd.checked) (tb := 4) Tryd.own Tryd.laidOut started (by kernel_rfl) Tryd.func5
    (ChangeSpec.witness_shaped (enc := enc) (C := Tryd.checked) (os := os) (X := fun w _ => laidMetH Tryd.prog Rows.quoteBackRow.laid w) false (World.laidAll Tryd.prog os Rows.quoteBackRow.laid) #[.agg #[.int .u8 0, .int .u8 0, .int .i64 0], .string ⟨#[]⟩, .int .u8 0] 8 (World.laidAll_os _ _ _)
      (World.shaped_of_ZipB (by kernel_rfl) (by kernel_rfl)) (by kernel_rfl) (by kernel_rfl) (by kernel_rfl)
      (by rw [MakeChecks.laidMetH_plain _ _ _ (by kernel_rfl)]; exact laidMet_laidAll _ (by kernel_rfl) (by kernel_rfl)))
    rfl Tryd.underlying4 (by intro t ht; have ht' : t ∈ [23, 9, 5] := ht; simp at ht'; rcases ht' with rfl | rfl | rfl <;> exact ⟨by kernel_rfl, of_decide_eq_true (by kernel_rfl)⟩) rfl
    (fun ds h => match ds, h with | [_, _, _], _ => rfl) ?_
  intro W base args ds ps hshaped hh
  obtain ⟨v, v', v'', d, d', d'', p, p', p'', rfl, ⟨hv, hv', hv''⟩, h0, h0', h0''⟩ := handed_three Tryd.params5 hh
  obtain ⟨a, b, n, ha, hb, rfl⟩ := open_dialect hv h0
  obtain ⟨s, rfl, hs⟩ := open_text hv' h0'
  obtain ⟨x, hx, rfl⟩ := open_byte hv'' h0''
  exact back_any a b n s x W (maxL_shaped hshaped) ha hb

theorem quoteBack_holds : Rows.QuoteBackSaid :=
  OpenClaim.holds_of_wide 5 Tryd.f5 rfl rfl rfl rfl rfl rfl rfl ⟨rfl, rfl, rfl, rfl, rfl⟩ rfl rfl rfl rfl rfl (by kernel_rfl) Tryd.func5 (by kernel_rfl)
    (of_decide_eq_true (by kernel_rfl)) (by unfold Func.isWrapper; first | (rw [if_pos (by decide +kernel)]; kernel_rfl) | (rw [if_neg (by decide +kernel)]; exact ⟨rfl, rfl⟩))
    (fun os started H enc _ => quoteBack_lifted os started H enc)
theorem quoteBack_card : Rows.QuoteBackCardSaid :=
  Claim7.holds_tied_plain_at .later [] Rows.quoteBackCard.laidKinds true Rows.quoteBackCard.stood.harness false
    quoteBack_holds (fun _ h => by cases h) (by kernel_rfl) (fun _ h => by cases h) quoteBack_row_tie rfl ⟨rfl, rfl⟩ (by kernel_rfl) rfl
    (fun f fn hf hfn => by
      obtain rfl : f = 5 := Option.some.inj ((show Tryd.prog.funcNamed "quillpen/quillpenlaw09.QuoteBack" = some 5 by kernel_rfl).symm.trans hf) |>.symm
      obtain rfl : fn = Tryd.f5 := (Option.some.inj (Tryd.func5.symm.trans hfn)).symm
      exact ⟨by kernel_rfl, fun j t ht => by
        rw [Tryd.params5] at ht
        have hm : t ∈ [23, 9, 5] := by simpa using Array.mem_of_getElem? ht
        have hall : ([23, 9, 5].all fun u => !Tryd.prog.wantsStandIn u) = true := by kernel_rfl
        exact (show Tryd.prog.wantsStandIn t = false by simpa using List.all_eq_true.1 hall t hm)⟩)
    (by kernel_rfl)
#print axioms quoteBack_card

end Go.Proofs.YtajedohgcepkiaaDoor
