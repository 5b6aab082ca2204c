/-
  Which field a text is, and whether it is quoted, or that it is none, is what the document says: the law QuoteReads returns true for every dialect and text.
  Conditions: none (the tables that the row lists are held as the program's text lays them: the tied card).
-/
import Derived.Test.YtajedohgcepkiaaDoorRows
import Derived.Test.YtajedohgcepkiaaDoorCards
import Derived.Test.YtajedohgcepkiaaDoorTie
import Derived.Test.YtajedohgcepkiaaDoorOpenD
import Derived.Test.YtajedohgcepkiaaDoorOpenA
import Derived.Test.YtajedohgcepkiaaDoorLawT
import Derived.Test.YtajedohgcepkiaaDoorQtA
import Derived.Test.YtajedohgcepkiaaDoorQtV
import Derived.SevenTiedAt
namespace Go.Proofs.YtajedohgcepkiaaDoor
open Go.RowKit Qt

theorem reads_long (p q : Nat) (n : Int) (f : ByteArray) (w : World) (hM : MaxL w) (hf : 200 < f.size) : Calls Tryd.prog 4 #[.agg #[.int .u8 p, .int .u8 q, .int .i64 n], .string f] w (Gives (.bool true) w) := by
  apply Gives.of
  have hcell := fun (W : World) (x : Later W) => x.cell
  have HA := Lib.hid awake_any
  have h1 : (200 : Int) < (f.size : Int) := by omega
  have h2 : decide ((200 : Int) < (f.size : Int)) = true := decide_eq_true h1
  clear hf
  go_enter Tryd.func4, Tryd.ntmps4
  go_wp2_with ((go_at_call 9; (first | (with_reducible refine (later_call _ (HA.out _ (by (repeat (first | assumption | (with_reducible refine MaxL.later _ ?_) | (with_reducible refine MaxL.alloc ?_ _) | (with_reducible refine MaxL.drew ?_)))))).mono ?_) | (with_reducible refine (call_later (HA.out _ (by (repeat (first | assumption | (with_reducible refine MaxL.later _ ?_) | (with_reducible refine MaxL.alloc ?_ _) | (with_reducible refine MaxL.drew ?_)))))).mono ?_)); rintro e w' ⟨rfl, x, rfl⟩))
  go_ret
  refine ⟨rfl, ?_⟩
  (repeat (first | (with_reducible exact Below.refl _ _) | (with_reducible refine later_below _ ?_) | (with_reducible refine alloc_below ?_ _) | (with_reducible refine Below.drew ?_) | (refine Below.setCell ?_ (by first | exact Nat.le_refl _ | (simp; done) | (simp; omega) | omega) _)))
theorem reads_bad (p q : Nat) (n : Int) (f : ByteArray) (w : World) (hM : MaxL w) (hp : p < 256) (hq : q < 256) (hf : ¬ 200 < f.size) (hok : okB p q n = false) : Calls Tryd.prog 4 #[.agg #[.int .u8 p, .int .u8 q, .int .i64 n], .string f] w (Gives (.bool true) w) := by
  apply Gives.of
  have hcell := fun (W : World) (x : Later W) => x.cell
  have HA := Lib.hid awake_any
  have HF := Lib.hid (fun W => ref_any p q n W hp hq)
  have HR := Lib.hid (fun W => hok ▸ right_any p q n W)
  have h1 : ¬ (200 : Int) < (f.size : Int) := by omega
  have h2 : decide ((200 : Int) < (f.size : Int)) = false := decide_eq_false h1
  clear hf hp hq hok
  go_enter Tryd.func4, Tryd.ntmps4
  go_wp2_with (first | (go_at_call 9; (first | (with_reducible refine (later_call _ (HA.out _ (by (repeat (first | assumption | (with_reducible refine MaxL.later _ ?_) | (with_reducible refine MaxL.alloc ?_ _) | (with_reducible refine MaxL.drew ?_)))))).mono ?_) | (with_reducible refine (call_later (HA.out _ (by (repeat (first | assumption | (with_reducible refine MaxL.later _ ?_) | (with_reducible refine MaxL.alloc ?_ _) | (with_reducible refine MaxL.drew ?_)))))).mono ?_)); rintro e w' ⟨rfl, x, rfl⟩) | (go_at_call 8; (first | (with_reducible refine (later_call _ (HF.out _)).mono ?_) | (with_reducible refine (call_later (HF.out _)).mono ?_)); rintro e w' ⟨rfl, x, rfl⟩) | (go_at_call 7; (first | (with_reducible refine (later_call _ (HR.out _)).mono ?_) | (with_reducible refine (call_later (HR.out _)).mono ?_)); rintro e w' ⟨rfl, x, rfl⟩))
  go_ret
  refine ⟨rfl, ?_⟩
  (repeat (first | (with_reducible exact Below.refl _ _) | (with_reducible refine later_below _ ?_) | (with_reducible refine alloc_below ?_ _) | (with_reducible refine Below.drew ?_) | (refine Below.setCell ?_ (by first | exact Nat.le_refl _ | (simp; done) | (simp; omega) | omega) _)))

set_option maxHeartbeats 4000000 in
theorem reads_main (p q : Nat) (n : Int) (f : ByteArray) (w : World) (hM : MaxL w) (hp : p < 256) (hq : q < 256) (hf : ¬ 200 < f.size) (hok : okB p q n = true) : Calls Tryd.prog 4 #[.agg #[.int .u8 p, .int .u8 q, .int .i64 n], .string f] w (Gives (.bool true) w) := by
  apply Gives.of
  have hcell := fun (W : World) (x : Later W) => x.cell
  have HA := Lib.hid awake_any
  have HF := Lib.hid (fun W => ref_any p q n W hp hq)
  have HR := Lib.hid (fun W => hok ▸ right_any p q n W)
  have h1 : ¬ (200 : Int) < (f.size : Int) := by omega
  have h2 : decide ((200 : Int) < (f.size : Int)) = false := decide_eq_false h1
  have H1 := Lib.hid (fun W h => unquote_any p q n f W h (by omega) hp hq)
  have H2 := Lib.hid (fun W => refUnq_any p q n f W (by omega) hq)
  generalize unqV p q f = V at H1 H2
  obtain ⟨g, b, e⟩ := V
  unfold unqP at H1
  unfold refV one01 at H2
  simp only [] at H1 H2
  clear hf hok hp hq h1
  cases b
  · rw [if_neg Bool.false_ne_true] at H2
    go_enter Tryd.func4, Tryd.ntmps4
    go_wp2_with (first | (go_at_call 9; (first | (with_reducible refine (later_call _ (HA.out _ (by (repeat (first | assumption | (with_reducible refine MaxL.later _ ?_) | (with_reducible refine MaxL.alloc ?_ _) | (with_reducible refine MaxL.drew ?_)))))).mono ?_) | (with_reducible refine (call_later (HA.out _ (by (repeat (first | assumption | (with_reducible refine MaxL.later _ ?_) | (with_reducible refine MaxL.alloc ?_ _) | (with_reducible refine MaxL.drew ?_)))))).mono ?_)); rintro e w' ⟨rfl, x, rfl⟩) | (go_at_call 8; (first | (with_reducible refine (later_call _ (HF.out _)).mono ?_) | (with_reducible refine (call_later (HF.out _)).mono ?_)); rintro e w' ⟨rfl, x, rfl⟩) | (go_at_call 7; (first | (with_reducible refine (later_call _ (HR.out _)).mono ?_) | (with_reducible refine (call_later (HR.out _)).mono ?_)); rintro e w' ⟨rfl, x, rfl⟩) | (go_at_call 16; (first | (with_reducible refine (later_call _ (H1.out _ (by (repeat (first | assumption | (with_reducible refine MaxL.later _ ?_) | (with_reducible refine MaxL.alloc ?_ _) | (with_reducible refine MaxL.drew ?_)))))).mono ?_) | (with_reducible refine (call_later (H1.out _ (by (repeat (first | assumption | (with_reducible refine MaxL.later _ ?_) | (with_reducible refine MaxL.alloc ?_ _) | (with_reducible refine MaxL.drew ?_)))))).mono ?_)); rintro e w' ⟨rfl, x, rfl⟩) | (go_at_call 17; (first | (with_reducible refine (later_call _ (H2.out _)).mono ?_) | (with_reducible refine (call_later (H2.out _)).mono ?_)); rintro e w' ⟨rfl, x, rfl⟩))
    go_ret
    refine ⟨rfl, ?_⟩
    (repeat (first | (with_reducible exact Below.refl _ _) | (with_reducible refine later_below _ ?_) | (with_reducible refine alloc_below ?_ _) | (with_reducible refine Below.drew ?_) | (refine Below.setCell ?_ (by first | exact Nat.le_refl _ | (simp; done) | (simp; omega) | omega) _)))
  · rw [if_pos rfl] at H2
    go_enter Tryd.func4, Tryd.ntmps4
    go_wp2_with (first | (go_at_call 9; (first | (with_reducible refine (later_call _ (HA.out _ (by (repeat (first | assumption | (with_reducible refine MaxL.later _ ?_) | (with_reducible refine MaxL.alloc ?_ _) | (with_reducible refine MaxL.drew ?_)))))).mono ?_) | (with_reducible refine (call_later (HA.out _ (by (repeat (first | assumption | (with_reducible refine MaxL.later _ ?_) | (with_reducible refine MaxL.alloc ?_ _) | (with_reducible refine MaxL.drew ?_)))))).mono ?_)); rintro e w' ⟨rfl, x, rfl⟩) | (go_at_call 8; (first | (with_reducible refine (later_call _ (HF.out _)).mono ?_) | (with_reducible refine (call_later (HF.out _)).mono ?_)); rintro e w' ⟨rfl, x, rfl⟩) | (go_at_call 7; (first | (with_reducible refine (later_call _ (HR.out _)).mono ?_) | (with_reducible refine (call_later (HR.out _)).mono ?_)); rintro e w' ⟨rfl, x, rfl⟩) | (go_at_call 16; (first | (with_reducible refine (later_call _ (H1.out _ (by (repeat (first | assumption | (with_reducible refine MaxL.later _ ?_) | (with_reducible refine MaxL.alloc ?_ _) | (with_reducible refine MaxL.drew ?_)))))).mono ?_) | (with_reducible refine (call_later (H1.out _ (by (repeat (first | assumption | (with_reducible refine MaxL.later _ ?_) | (with_reducible refine MaxL.alloc ?_ _) | (with_reducible refine MaxL.drew ?_)))))).mono ?_)); rintro e w' ⟨rfl, x, rfl⟩) | (go_at_call 17; (first | (with_reducible refine (later_call _ (H2.out _)).mono ?_) | (with_reducible refine (call_later (H2.out _)).mono ?_)); rintro e w' ⟨rfl, x, rfl⟩))
    go_ret
    refine ⟨rfl, ?_⟩
    (repeat (first | (with_reducible exact Below.refl _ _) | (with_reducible refine later_below _ ?_) | (with_reducible refine alloc_below ?_ _) | (with_reducible refine Below.drew ?_) | (refine Below.setCell ?_ (by first | exact Nat.le_refl _ | (simp; done) | (simp; omega) | omega) _)))

theorem reads_any (p q : Nat) (n : Int) (f : ByteArray) (w : World) (hM : MaxL w) (hp : p < 256) (hq : q < 256) : Calls Tryd.prog 4 #[.agg #[.int .u8 p, .int .u8 q, .int .i64 n], .string f] w (Gives (.bool true) w) := by
  by_cases h : 200 < f.size
  · exact reads_long p q n f w hM h
  · cases hok : okB p q n
    · exact reads_bad p q n f w hM hp hq h hok
    · exact reads_main p q n f w hM hp hq h hok

open Go.ChangeShapes Go.WideShapes Go.ChangeAt Go.Joins

set_option maxRecDepth 100000 in
theorem quoteReads_lifted (os : Os) (started : os.Started) (H : Type) (enc : TypeId × Value → H) :
    ReturnsInHanded {} Tryd.checked os 4 .any (fun w args => (Rows.quoteReadsSpec.pre enc Tryd.prog Tryd.f4 [] false w args ∧ laidMetH Tryd.prog Rows.quoteReadsRow.laid w) ∧ sizedMet enc Tryd.prog Tryd.f4 (OpenSpec.ofChange Rows.quoteReadsSpec) false w args) (Rows.quoteReadsSpec.post enc Tryd.prog Tryd.f4 false true false false) := by
  refine law_lift_laid (C := Tryd.checked) (tb := 4) Tryd.own Tryd.laidOut started (by kernel_rfl) Tryd.func4
    (ChangeSpec.witness_shaped (enc := enc) (C := Tryd.checked) (os := os) (X := fun w _ => laidMetH Tryd.prog Rows.quoteReadsRow.laid w) false (World.laidAll Tryd.prog os Rows.quoteReadsRow.laid) #[.agg #[.int .u8 0, .int .u8 0, .int .i64 0], .string ⟨#[]⟩] 8 (World.laidAll_os _ _ _)
      (World.shaped_of_ZipB (by kernel_rfl) (by kernel_rfl)) (by kernel_rfl) (by kernel_rfl) (by kernel_rfl)
      (by rw [MakeChecks.laidMetH_plain _ _ _ (by kernel_rfl)]; exact laidMet_laidAll _ (by kernel_rfl) (by kernel_rfl)))
    rfl Tryd.underlying4 (by intro t ht; have ht' : t ∈ [23, 9] := ht; simp at ht'; rcases ht' with rfl | rfl <;> exact ⟨by kernel_rfl, of_decide_eq_true (by kernel_rfl)⟩) rfl
    (fun ds h => match ds, h with | [_, _], _ => rfl) ?_
  intro W base args ds ps hshaped hh
  obtain ⟨v, v', d, d', p, p', rfl, hv, hv', h0, h0'⟩ := handed_two Tryd.params4 hh
  obtain ⟨a, b, n, ha, hb, rfl⟩ := open_dialect hv h0
  obtain ⟨s, rfl, hs⟩ := open_text hv' h0'
  exact reads_any a b n s W (maxL_shaped hshaped) ha hb

theorem quoteReads_holds : Rows.QuoteReadsSaid :=
  OpenClaim.holds_of_wide 4 Tryd.f4 rfl rfl rfl rfl rfl rfl rfl ⟨rfl, rfl, rfl, rfl, rfl⟩ rfl rfl rfl rfl rfl (by kernel_rfl) Tryd.func4 (by kernel_rfl)
    (of_decide_eq_true (by kernel_rfl)) (by unfold Func.isWrapper; first | (rw [if_pos (by decide +kernel)]; kernel_rfl) | (rw [if_neg (by decide +kernel)]; exact ⟨rfl, rfl⟩))
    (fun os started H enc _ => quoteReads_lifted os started H enc)
theorem quoteReads_card : Rows.QuoteReadsCardSaid :=
  Claim7.holds_tied_plain_at .later [] Rows.quoteReadsCard.laidKinds true Rows.quoteReadsCard.stood.harness false
    quoteReads_holds (fun _ h => by cases h) (by kernel_rfl) (fun _ h => by cases h) quoteReads_row_tie rfl ⟨rfl, rfl⟩ (by kernel_rfl) rfl
    (fun f fn hf hfn => by
      obtain rfl : f = 4 := Option.some.inj ((show Tryd.prog.funcNamed "quillpen/quillpenlaw09.QuoteReads" = some 4 by kernel_rfl).symm.trans hf) |>.symm
      obtain rfl : fn = Tryd.f4 := (Option.some.inj (Tryd.func4.symm.trans hfn)).symm
      exact ⟨by kernel_rfl, fun j t ht => by
        rw [Tryd.params4] at ht
        have hm : t ∈ [23, 9] := by simpa using Array.mem_of_getElem? ht
        have hall : ([23, 9].all fun u => !Tryd.prog.wantsStandIn u) = true := by kernel_rfl
        exact (show Tryd.prog.wantsStandIn t = false by simpa using List.all_eq_true.1 hall t hm)⟩)
    (by kernel_rfl)
#print axioms quoteReads_card

end Go.Proofs.YtajedohgcepkiaaDoor
