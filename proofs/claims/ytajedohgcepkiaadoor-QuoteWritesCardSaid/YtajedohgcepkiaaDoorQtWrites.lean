/-
  A field quoted, and as written, and how many bytes that is, is what the document says: the law QuoteWrites returns true for every dialect, field and place.
  Conditions: none (the tables that the row lists are held as the program's text lays them: the tied card).
-/
import Derived.Test.YtajedohgcepkiaaDoorRows
import Derived.Test.YtajedohgcepkiaaDoorCards
import Derived.Test.YtajedohgcepkiaaDoorTie
import Derived.Test.YtajedohgcepkiaaDoorOpenD
import Derived.Test.YtajedohgcepkiaaDoorOpenA
import Derived.Test.YtajedohgcepkiaaDoorLawT
import Derived.Test.YtajedohgcepkiaaDoorQtA
import Derived.Test.YtajedohgcepkiaaDoorQtD
import Derived.SevenTiedAt
namespace Go.Proofs.YtajedohgcepkiaaDoor
open Go.RowKit Qt

theorem writes_long (p q : Nat) (n : Int) (f : ByteArray) (x : Nat) (w : World) (hM : MaxL w) (hf : 200 < f.size) : Calls Tryd.prog 3 #[.agg #[.int .u8 p, .int .u8 q, .int .i64 n], .string f, .int .u8 x] w (Gives (.bool true) w) := by
  apply Gives.of
  have hcell := fun (W : World) (x : Later W) => x.cell
  have HA := Lib.hid awake_any
  have h1 : (200 : Int) < (f.size : Int) := by omega
  have h2 : decide ((200 : Int) < (f.size : Int)) = true := decide_eq_true h1
  clear hf
  go_enter Tryd.func3, Tryd.ntmps3
  go_wp2_with ((go_at_call 9; (first | (with_reducible refine (later_call _ (HA.out _ (by (repeat (first | assumption | (with_reducible refine MaxL.later _ ?_) | (with_reducible refine MaxL.alloc ?_ _) | (with_reducible refine MaxL.drew ?_)))))).mono ?_) | (with_reducible refine (call_later (HA.out _ (by (repeat (first | assumption | (with_reducible refine MaxL.later _ ?_) | (with_reducible refine MaxL.alloc ?_ _) | (with_reducible refine MaxL.drew ?_)))))).mono ?_)); rintro e w' ⟨rfl, x, rfl⟩))
  go_ret
  refine ⟨rfl, ?_⟩
  (repeat (first | (with_reducible exact Below.refl _ _) | (with_reducible refine later_below _ ?_) | (with_reducible refine alloc_below ?_ _) | (with_reducible refine Below.drew ?_) | (refine Below.setCell ?_ (by first | exact Nat.le_refl _ | (simp; done) | (simp; omega) | omega) _)))
theorem writes_bad (p q : Nat) (n : Int) (f : ByteArray) (x : Nat) (w : World) (hM : MaxL w) (hp : p < 256) (hq : q < 256) (hf : ¬ 200 < f.size) (hok : okB p q n = false) : Calls Tryd.prog 3 #[.agg #[.int .u8 p, .int .u8 q, .int .i64 n], .string f, .int .u8 x] w (Gives (.bool true) w) := by
  apply Gives.of
  have hcell := fun (W : World) (x : Later W) => x.cell
  have HA := Lib.hid awake_any
  have HF := Lib.hid (fun W => ref_any p q n W hp hq)
  have HR := Lib.hid (fun W => hok ▸ right_any p q n W)
  have h1 : ¬ (200 : Int) < (f.size : Int) := by omega
  have h2 : decide ((200 : Int) < (f.size : Int)) = false := decide_eq_false h1
  clear hf hp hq hok
  go_enter Tryd.func3, Tryd.ntmps3
  go_wp2_with (first | (go_at_call 9; (first | (with_reducible refine (later_call _ (HA.out _ (by (repeat (first | assumption | (with_reducible refine MaxL.later _ ?_) | (with_reducible refine MaxL.alloc ?_ _) | (with_reducible refine MaxL.drew ?_)))))).mono ?_) | (with_reducible refine (call_later (HA.out _ (by (repeat (first | assumption | (with_reducible refine MaxL.later _ ?_) | (with_reducible refine MaxL.alloc ?_ _) | (with_reducible refine MaxL.drew ?_)))))).mono ?_)); rintro e w' ⟨rfl, x, rfl⟩) | (go_at_call 8; (first | (with_reducible refine (later_call _ (HF.out _)).mono ?_) | (with_reducible refine (call_later (HF.out _)).mono ?_)); rintro e w' ⟨rfl, x, rfl⟩) | (go_at_call 7; (first | (with_reducible refine (later_call _ (HR.out _)).mono ?_) | (with_reducible refine (call_later (HR.out _)).mono ?_)); rintro e w' ⟨rfl, x, rfl⟩))
  go_ret
  refine ⟨rfl, ?_⟩
  (repeat (first | (with_reducible exact Below.refl _ _) | (with_reducible refine later_below _ ?_) | (with_reducible refine alloc_below ?_ _) | (with_reducible refine Below.drew ?_) | (refine Below.setCell ?_ (by first | exact Nat.le_refl _ | (simp; done) | (simp; omega) | omega) _)))

set_option maxHeartbeats 4000000 in
theorem writes_main (p q : Nat) (n : Int) (f : ByteArray) (x : Nat) (w : World) (hM : MaxL w) (hp : p < 256) (hq : q < 256) (hf : ¬ 200 < f.size) (hok : okB p q n = true) : Calls Tryd.prog 3 #[.agg #[.int .u8 p, .int .u8 q, .int .i64 n], .string f, .int .u8 x] w (Gives (.bool true) w) := by
  apply Gives.of
  have hcell := fun (W : World) (x : Later W) => x.cell
  have HA := Lib.hid awake_any
  have HF := Lib.hid (fun W => ref_any p q n W hp hq)
  have HR := Lib.hid (fun W => hok ▸ right_any p q n W)
  have h1 : ¬ (200 : Int) < (f.size : Int) := by omega
  have h2 : decide ((200 : Int) < (f.size : Int)) = false := decide_eq_false h1
  obtain ⟨al, hal⟩ : ∃ al, (bits BinOp.and IntKind.u8 (x : Int) 1 == 1) = al := ⟨_, rfl⟩
  obtain ⟨fi, hfi⟩ : ∃ fi, (bits BinOp.and IntKind.u8 (x : Int) 2 == 2) = fi := ⟨_, rfl⟩
  have HO : Hid (∀ b W, Calls Tryd.prog 11 #[.bool b] W (Gives (.int .i64 (one01 b)) W)) := Lib.hid (fun b W => one9_any b W)
  have H1 := Lib.hid (fun W h => progQuoted_any p q n f W h (by omega) hq)
  have H2 := Lib.hid (fun W h => written_any p q n f al fi W h (by omega) hp hq)
  have H3 := Lib.hid (fun W => size_any p q n f al fi W (by omega) hp hq)
  have H4 := Lib.hid (fun W => refQuoted_any p q n f W (by omega) hq)
  have H5 := Lib.hid (fun W => refWritten_any p q n f al fi W (by omega) hq)
  generalize quoB (toB q) f = A at H1 H4
  generalize wriB p q f al fi = B at H2 H3 H5
  clear hf hok hp hq h1
  go_enter Tryd.func3, Tryd.ntmps3
  go_wp2_with (first | (go_at_call 9; (first | (with_reducible refine (later_call _ (HA.out _ (by (repeat (first | assumption | (with_reducible refine MaxL.later _ ?_) | (with_reducible refine MaxL.alloc ?_ _) | (with_reducible refine MaxL.drew ?_)))))).mono ?_) | (with_reducible refine (call_later (HA.out _ (by (repeat (first | assumption | (with_reducible refine MaxL.later _ ?_) | (with_reducible refine MaxL.alloc ?_ _) | (with_reducible refine MaxL.drew ?_)))))).mono ?_)); rintro e w' ⟨rfl, x, rfl⟩) | (go_at_call 8; (first | (with_reducible refine (later_call _ (HF.out _)).mono ?_) | (with_reducible refine (call_later (HF.out _)).mono ?_)); rintro e w' ⟨rfl, x, rfl⟩) | (go_at_call 7; (first | (with_reducible refine (later_call _ (HR.out _)).mono ?_) | (with_reducible refine (call_later (HR.out _)).mono ?_)); rintro e w' ⟨rfl, x, rfl⟩) | (go_at_call 11; (first | (with_reducible refine (later_call _ (HO.out _ _)).mono ?_) | (with_reducible refine (call_later (HO.out _ _)).mono ?_)); rintro e w' ⟨rfl, x, rfl⟩) | (go_at_call 10; (first | (with_reducible refine (later_call _ (H5.out _)).mono ?_) | (with_reducible refine (call_later (H5.out _)).mono ?_)); rintro e w' ⟨rfl, x, rfl⟩))
  refine wp_region_anch x (by kernel_rfl) (by kernel_rfl) ?_
  repeat (go_big_quiet_step (first | (go_at_call 9; with_reducible exact later_call _ (HA.out _ (by (repeat (first | assumption | (with_reducible refine MaxL.later _ ?_) | (with_reducible refine MaxL.alloc ?_ _) | (with_reducible refine MaxL.drew ?_)))))) | (go_at_call 8; with_reducible exact later_call _ (HF.out _)) | (go_at_call 12; with_reducible exact later_call _ (H1.out _ (by (repeat (first | assumption | (with_reducible refine MaxL.later _ ?_) | (with_reducible refine MaxL.alloc ?_ _) | (with_reducible refine MaxL.drew ?_)))))) | (go_at_call 13; with_reducible exact later_call _ (H4.out _)) | (go_at_call 14; with_reducible exact later_call _ (H2.out _ (by (repeat (first | assumption | (with_reducible refine MaxL.later _ ?_) | (with_reducible refine MaxL.alloc ?_ _) | (with_reducible refine MaxL.drew ?_)))))) | (go_at_call 15; with_reducible exact later_call _ (H3.out _))))
  refine wpQuiet_nil ?_
  rintro w' ⟨y, rfl⟩
  go_wp2
  go_ret
  refine ⟨rfl, ?_⟩
  (repeat (first | (with_reducible exact Below.refl _ _) | (with_reducible refine later_below _ ?_) | (with_reducible refine alloc_below ?_ _) | (with_reducible refine Below.drew ?_) | (refine Below.setCell ?_ (by first | exact Nat.le_refl _ | (simp; done) | (simp; omega) | omega) _)))

theorem writes_any (p q : Nat) (n : Int) (f : ByteArray) (x : Nat) (w : World) (hM : MaxL w) (hp : p < 256) (hq : q < 256) : Calls Tryd.prog 3 #[.agg #[.int .u8 p, .int .u8 q, .int .i64 n], .string f, .int .u8 x] w (Gives (.bool true) w) := by
  by_cases h : 200 < f.size
  · exact writes_long p q n f x w hM h
  · cases hok : okB p q n
    · exact writes_bad p q n f x w hM hp hq h hok
    · exact writes_main p q n f x w hM hp hq h hok

open Go.ChangeShapes Go.WideShapes Go.ChangeAt Go.Joins

set_option maxRecDepth 100000 in
theorem quoteWrites_lifted (os : Os) (started : os.Started) (H : Type) (enc : TypeId × Value → H) :
    ReturnsInHanded {} Tryd.checked os 3 .any (fun w args => (Rows.quoteWritesSpec.pre enc Tryd.prog Tryd.f3 [] false w args ∧ laidMetH Tryd.prog Rows.quoteWritesRow.laid w) ∧ sizedMet enc Tryd.prog Tryd.f3 (OpenSpec.ofChange Rows.quoteWritesSpec) false w args) (Rows.quoteWritesSpec.post enc Tryd.prog Tryd.f3 false true false false) := by
  refine law_lift_laid (C := Tryd.checked) (tb := 4) Tryd.own Tryd.laidOut started (by kernel_rfl) Tryd.func3
    (ChangeSpec.witness_shaped (enc := enc) (C := Tryd.checked) (os := os) (X := fun w _ => laidMetH Tryd.prog Rows.quoteWritesRow.laid w) false (World.laidAll Tryd.prog os Rows.quoteWritesRow.laid) #[.agg #[.int .u8 0, .int .u8 0, .int .i64 0], .string ⟨#[]⟩, .int .u8 0] 8 (World.laidAll_os _ _ _)
      (World.shaped_of_ZipB (by kernel_rfl) (by kernel_rfl)) (by kernel_rfl) (by kernel_rfl) (by kernel_rfl)
      (by rw [MakeChecks.laidMetH_plain _ _ _ (by kernel_rfl)]; exact laidMet_laidAll _ (by kernel_rfl) (by kernel_rfl)))
    rfl Tryd.underlying4 (by intro t ht; have ht' : t ∈ [23, 9, 5] := ht; simp at ht'; rcases ht' with rfl | rfl | rfl <;> exact ⟨by kernel_rfl, of_decide_eq_true (by kernel_rfl)⟩) rfl
    (fun ds h => match ds, h with | [_, _, _], _ => rfl) ?_
  intro W base args ds ps hshaped hh
  obtain ⟨v, v', v'', d, d', d'', p, p', p'', rfl, ⟨hv, hv', hv''⟩, h0, h0', h0''⟩ := handed_three Tryd.params3 hh
  obtain ⟨a, b, n, ha, hb, rfl⟩ := open_dialect hv h0
  obtain ⟨s, rfl, hs⟩ := open_text hv' h0'
  obtain ⟨x, hx, rfl⟩ := open_byte hv'' h0''
  exact writes_any a b n s x W (maxL_shaped hshaped) ha hb

theorem quoteWrites_holds : Rows.QuoteWritesSaid :=
  OpenClaim.holds_of_wide 3 Tryd.f3 rfl rfl rfl rfl rfl rfl rfl ⟨rfl, rfl, rfl, rfl, rfl⟩ rfl rfl rfl rfl rfl (by kernel_rfl) Tryd.func3 (by kernel_rfl)
    (of_decide_eq_true (by kernel_rfl)) (by unfold Func.isWrapper; first | (rw [if_pos (by decide +kernel)]; kernel_rfl) | (rw [if_neg (by decide +kernel)]; exact ⟨rfl, rfl⟩))
    (fun os started H enc _ => quoteWrites_lifted os started H enc)
theorem quoteWrites_card : Rows.QuoteWritesCardSaid :=
  Claim7.holds_tied_plain_at .later [] Rows.quoteWritesCard.laidKinds true Rows.quoteWritesCard.stood.harness false
    quoteWrites_holds (fun _ h => by cases h) (by kernel_rfl) (fun _ h => by cases h) quoteWrites_row_tie rfl ⟨rfl, rfl⟩ (by kernel_rfl) rfl
    (fun f fn hf hfn => by
      obtain rfl : f = 3 := Option.some.inj ((show Tryd.prog.funcNamed "quillpen/quillpenlaw09.QuoteWrites" = some 3 by kernel_rfl).symm.trans hf) |>.symm
      obtain rfl : fn = Tryd.f3 := (Option.some.inj (Tryd.func3.symm.trans hfn)).symm
      exact ⟨by kernel_rfl, fun j t ht => by
        rw [Tryd.params3] at ht
        have hm : t ∈ [23, 9, 5] := by simpa using Array.mem_of_getElem? ht
        have hall : ([23, 9, 5].all fun u => !Tryd.prog.wantsStandIn u) = true := by kernel_rfl
        exact (show Tryd.prog.wantsStandIn t = false by simpa using List.all_eq_true.1 hall t hm)⟩)
    (by kernel_rfl)
#print axioms quoteWrites_card

end Go.Proofs.YtajedohgcepkiaaDoor
