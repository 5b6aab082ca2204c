/-
  Unlike fields are written unlike: the law QuoteUnlike returns true for every dialect and all fields.
  Conditions: none (the tables that the row lists are held as the program's text lays them: the tied card).
-/
import Derived.Test.YtajedohgcepkiaaDoorRows
import Derived.Test.YtajedohgcepkiaaDoorCards
import Derived.Test.YtajedohgcepkiaaDoorTie
import Derived.Test.YtajedohgcepkiaaDoorOpenD
import Derived.Test.YtajedohgcepkiaaDoorOpenA
import Derived.Test.YtajedohgcepkiaaDoorLawT
import Derived.Test.YtajedohgcepkiaaDoorSame
import Derived.Test.YtajedohgcepkiaaDoorQtA
import Derived.SevenTiedAt
namespace Go.Proofs.YtajedohgcepkiaaDoor
open Go.RowKit Qt

theorem wriB_inj {p q : Nat} {f g : ByteArray} (hq : q < 256) (h : wriB p q f true true = wriB p q g true true) : f = g := by
  have e := congrArg (fun a => (unqV p q a).1) h
  simp only [unq_wri _ _ _ hq] at e
  exact e

theorem unlike_long (p q : Nat) (n : Int) (f g : ByteArray) (w : World) (hM : MaxL w) (hf : 200 < f.size) : Calls Tryd.prog 6 #[.agg #[.int .u8 p, .int .u8 q, .int .i64 n], .string f, .string g] w (Gives (.bool true) w) := by
  apply Gives.of
  have hcell := fun (W : World) (x : Later W) => x.cell
  have HA := Lib.hid awake_any
  have h1 : (200 : Int) < (f.size : Int) := by omega
  have h2 : decide ((200 : Int) < (f.size : Int)) = true := decide_eq_true h1
  clear hf
  go_enter Tryd.func6, Tryd.ntmps6
  go_wp2_with ((go_at_call 9; (first | (with_reducible refine (later_call _ (HA.out _ (by (repeat (first | assumption | (with_reducible refine MaxL.later _ ?_) | (with_reducible refine MaxL.alloc ?_ _) | (with_reducible refine MaxL.drew ?_)))))).mono ?_) | (with_reducible refine (call_later (HA.out _ (by (repeat (first | assumption | (with_reducible refine MaxL.later _ ?_) | (with_reducible refine MaxL.alloc ?_ _) | (with_reducible refine MaxL.drew ?_)))))).mono ?_)); rintro e w' ⟨rfl, x, rfl⟩))
  go_ret
  refine ⟨rfl, ?_⟩
  (repeat (first | (with_reducible exact Below.refl _ _) | (with_reducible refine later_below _ ?_) | (with_reducible refine alloc_below ?_ _) | (with_reducible refine Below.drew ?_) | (refine Below.setCell ?_ (by first | exact Nat.le_refl _ | (simp; done) | (simp; omega) | omega) _)))
theorem unlike_long' (p q : Nat) (n : Int) (f g : ByteArray) (w : World) (hM : MaxL w) (hf : ¬ 200 < f.size) (hg : 200 < g.size) : Calls Tryd.prog 6 #[.agg #[.int .u8 p, .int .u8 q, .int .i64 n], .string f, .string g] w (Gives (.bool true) w) := by
  apply Gives.of
  have hcell := fun (W : World) (x : Later W) => x.cell
  have HA := Lib.hid awake_any
  have h1 : ¬ (200 : Int) < (f.size : Int) := by omega
  have h2 : decide ((200 : Int) < (f.size : Int)) = false := decide_eq_false h1
  have h3 : (200 : Int) < (g.size : Int) := by omega
  have h4 : decide ((200 : Int) < (g.size : Int)) = true := decide_eq_true h3
  clear hf hg
  go_enter Tryd.func6, Tryd.ntmps6
  go_wp2_with ((go_at_call 9; (first | (with_reducible refine (later_call _ (HA.out _ (by (repeat (first | assumption | (with_reducible refine MaxL.later _ ?_) | (with_reducible refine MaxL.alloc ?_ _) | (with_reducible refine MaxL.drew ?_)))))).mono ?_) | (with_reducible refine (call_later (HA.out _ (by (repeat (first | assumption | (with_reducible refine MaxL.later _ ?_) | (with_reducible refine MaxL.alloc ?_ _) | (with_reducible refine MaxL.drew ?_)))))).mono ?_)); rintro e w' ⟨rfl, x, rfl⟩))
  go_ret
  refine ⟨rfl, ?_⟩
  (repeat (first | (with_reducible exact Below.refl _ _) | (with_reducible refine later_below _ ?_) | (with_reducible refine alloc_below ?_ _) | (with_reducible refine Below.drew ?_) | (refine Below.setCell ?_ (by first | exact Nat.le_refl _ | (simp; done) | (simp; omega) | omega) _)))
theorem unlike_bad (p q : Nat) (n : Int) (f g : ByteArray) (w : World) (hM : MaxL w) (hp : p < 256) (hq : q < 256) (hf : ¬ 200 < f.size) (hg : ¬ 200 < g.size) (hok : okB p q n = false) : Calls Tryd.prog 6 #[.agg #[.int .u8 p, .int .u8 q, .int .i64 n], .string f, .string g] w (Gives (.bool true) w) := by
  apply Gives.of
  have hcell := fun (W : World) (x : Later W) => x.cell
  have HA := Lib.hid awake_any
  have HF := Lib.hid (fun W => ref_any p q n W hp hq)
  have HR := Lib.hid (fun W => hok ▸ right_any p q n W)
  have h1 : ¬ (200 : Int) < (f.size : Int) := by omega
  have h2 : decide ((200 : Int) < (f.size : Int)) = false := decide_eq_false h1
  have h3 : ¬ (200 : Int) < (g.size : Int) := by omega
  have h4 : decide ((200 : Int) < (g.size : Int)) = false := decide_eq_false h3
  clear hf hg hp hq hok
  go_enter Tryd.func6, Tryd.ntmps6
  go_wp2_with (first | (go_at_call 9; (first | (with_reducible refine (later_call _ (HA.out _ (by (repeat (first | assumption | (with_reducible refine MaxL.later _ ?_) | (with_reducible refine MaxL.alloc ?_ _) | (with_reducible refine MaxL.drew ?_)))))).mono ?_) | (with_reducible refine (call_later (HA.out _ (by (repeat (first | assumption | (with_reducible refine MaxL.later _ ?_) | (with_reducible refine MaxL.alloc ?_ _) | (with_reducible refine MaxL.drew ?_)))))).mono ?_)); rintro e w' ⟨rfl, x, rfl⟩) | (go_at_call 8; (first | (with_reducible refine (later_call _ (HF.out _)).mono ?_) | (with_reducible refine (call_later (HF.out _)).mono ?_)); rintro e w' ⟨rfl, x, rfl⟩) | (go_at_call 7; (first | (with_reducible refine (later_call _ (HR.out _)).mono ?_) | (with_reducible refine (call_later (HR.out _)).mono ?_)); rintro e w' ⟨rfl, x, rfl⟩))
  go_ret
  refine ⟨rfl, ?_⟩
  (repeat (first | (with_reducible exact Below.refl _ _) | (with_reducible refine later_below _ ?_) | (with_reducible refine alloc_below ?_ _) | (with_reducible refine Below.drew ?_) | (refine Below.setCell ?_ (by first | exact Nat.le_refl _ | (simp; done) | (simp; omega) | omega) _)))

set_option maxHeartbeats 4000000 in
theorem unlike_main (p q : Nat) (n : Int) (f g : ByteArray) (w : World) (hM : MaxL w) (hp : p < 256) (hq : q < 256) (hf : ¬ 200 < f.size) (hg : ¬ 200 < g.size) (hok : okB p q n = true) : Calls Tryd.prog 6 #[.agg #[.int .u8 p, .int .u8 q, .int .i64 n], .string f, .string g] w (Gives (.bool true) w) := by
  apply Gives.of
  have hcell := fun (W : World) (x : Later W) => x.cell
  have HA := Lib.hid awake_any
  have HF := Lib.hid (fun W => ref_any p q n W hp hq)
  have HR := Lib.hid (fun W => hok ▸ right_any p q n W)
  have h1 : ¬ (200 : Int) < (f.size : Int) := by omega
  have h2 : decide ((200 : Int) < (f.size : Int)) = false := decide_eq_false h1
  have h3 : ¬ (200 : Int) < (g.size : Int) := by omega
  have h4 : decide ((200 : Int) < (g.size : Int)) = false := decide_eq_false h3
  have H1 := Lib.hid (fun W h => progQuoted_any p q n f W h (by omega) hq)
  have H2 := Lib.hid (fun W h => progQuoted_any p q n g W h (by omega) hq)
  have H3 := Lib.hid (fun W h => written_any p q n f true true W h (by omega) hp hq)
  have H4 := Lib.hid (fun W h => written_any p q n g true true W h (by omega) hp hq)
  have hA : quoB (toB q) f = quoB (toB q) g → f = g := quoB_inj _
  have hB : wriB p q f true true = wriB p q g true true → f = g := wriB_inj hq
  by_cases e : f = g
  · subst e
    generalize quoB (toB q) f = A at H1 H2
    generalize wriB p q f true true = B at H3 H4
    clear hf hg hp hq hok hA hB h1 h3
    go_enter Tryd.func6, Tryd.ntmps6
    go_wp2_with (first | (go_at_call 9; (first | (with_reducible refine (later_call _ (HA.out _ (by (repeat (first | assumption | (with_reducible refine MaxL.later _ ?_) | (with_reducible refine MaxL.alloc ?_ _) | (with_reducible refine MaxL.drew ?_)))))).mono ?_) | (with_reducible refine (call_later (HA.out _ (by (repeat (first | assumption | (with_reducible refine MaxL.later _ ?_) | (with_reducible refine MaxL.alloc ?_ _) | (with_reducible refine MaxL.drew ?_)))))).mono ?_)); rintro e w' ⟨rfl, x, rfl⟩) | (go_at_call 8; (first | (with_reducible refine (later_call _ (HF.out _)).mono ?_) | (with_reducible refine (call_later (HF.out _)).mono ?_)); rintro e w' ⟨rfl, x, rfl⟩) | (go_at_call 7; (first | (with_reducible refine (later_call _ (HR.out _)).mono ?_) | (with_reducible refine (call_later (HR.out _)).mono ?_)); rintro e w' ⟨rfl, x, rfl⟩))
    refine wp_region_anch x (by kernel_rfl) (by kernel_rfl) ?_
    repeat (go_big_quiet_step (first | (go_at_call 9; with_reducible exact later_call _ (HA.out _ (by (repeat (first | assumption | (with_reducible refine MaxL.later _ ?_) | (with_reducible refine MaxL.alloc ?_ _) | (with_reducible refine MaxL.drew ?_)))))) | (go_at_call 12; with_reducible exact later_call _ (H1.out _ (by (repeat (first | assumption | (with_reducible refine MaxL.later _ ?_) | (with_reducible refine MaxL.alloc ?_ _) | (with_reducible refine MaxL.drew ?_)))))) | (go_at_call 14; with_reducible exact later_call _ (H3.out _ (by (repeat (first | assumption | (with_reducible refine MaxL.later _ ?_) | (with_reducible refine MaxL.alloc ?_ _) | (with_reducible refine MaxL.drew ?_))))))))
    refine wpQuiet_nil ?_
    rintro w' ⟨y, rfl⟩
    go_wp2
    go_ret
    refine ⟨rfl, ?_⟩
    (repeat (first | (with_reducible exact Below.refl _ _) | (with_reducible refine later_below _ ?_) | (with_reducible refine alloc_below ?_ _) | (with_reducible refine Below.drew ?_) | (refine Below.setCell ?_ (by first | exact Nat.le_refl _ | (simp; done) | (simp; omega) | omega) _)))
  · have hA' := text_ne (fun c => e (hA c))
    have hB' := text_ne (fun c => e (hB c))
    have he := text_ne e
    generalize quoB (toB q) f = A at H1 hA'
    generalize quoB (toB q) g = A' at H2 hA'
    generalize wriB p q f true true = B at H3 hB'
    generalize wriB p q g true true = B' at H4 hB'
    clear hf hg hp hq hok hA hB e h1 h3
    go_enter Tryd.func6, Tryd.ntmps6
    go_wp2_with (first | (go_at_call 9; (first | (with_reducible refine (later_call _ (HA.out _ (by (repeat (first | assumption | (with_reducible refine MaxL.later _ ?_) | (with_reducible refine MaxL.alloc ?_ _) | (with_reducible refine MaxL.drew ?_)))))).mono ?_) | (with_reducible refine (call_later (HA.out _ (by (repeat (first | assumption | (with_reducible refine MaxL.later _ ?_) | (with_reducible refine MaxL.alloc ?_ _) | (with_reducible refine MaxL.drew ?_)))))).mono ?_)); rintro e w' ⟨rfl, x, rfl⟩) | (go_at_call 8; (first | (with_reducible refine (later_call _ (HF.out _)).mono ?_) | (with_reducible refine (call_later (HF.out _)).mono ?_)); rintro e w' ⟨rfl, x, rfl⟩) | (go_at_call 7; (first | (with_reducible refine (later_call _ (HR.out _)).mono ?_) | (with_reducible refine (call_later (HR.out _)).mono ?_)); rintro e w' ⟨rfl, x, rfl⟩))
    refine wp_region_anch x (by kernel_rfl) (by kernel_rfl) ?_
    repeat (go_big_quiet_step (first | (go_at_call 9; with_reducible exact later_call _ (HA.out _ (by (repeat (first | assumption | (with_reducible refine MaxL.later _ ?_) | (with_reducible refine MaxL.alloc ?_ _) | (with_reducible refine MaxL.drew ?_)))))) | (go_at_call 12; with_reducible exact later_call _ (H1.out _ (by (repeat (first | assumption | (with_reducible refine MaxL.later _ ?_) | (with_reducible refine MaxL.alloc ?_ _) | (with_reducible refine MaxL.drew ?_)))))) | (go_at_call 12; with_reducible exact later_call _ (H2.out _ (by (repeat (first | assumption | (with_reducible refine MaxL.later _ ?_) | (with_reducible refine MaxL.alloc ?_ _) | (with_reducible refine MaxL.drew ?_)))))) | (go_at_call 14; with_reducible exact later_call _ (H3.out _ (by (repeat (first | assumption | (with_reducible refine MaxL.later _ ?_) | (with_reducible refine MaxL.alloc ?_ _) | (with_reducible refine MaxL.drew ?_)))))) | (go_at_call 14; with_reducible exact later_call _ (H4.out _ (by (repeat (first | assumption | (with_reducible refine MaxL.later _ ?_) | (with_reducible refine MaxL.alloc ?_ _) | (with_reducible refine MaxL.drew ?_))))))))
    refine wpQuiet_nil ?_
    rintro w' ⟨y, rfl⟩
    go_wp2
    go_ret
    refine ⟨rfl, ?_⟩
    (repeat (first | (with_reducible exact Below.refl _ _) | (with_reducible refine later_below _ ?_) | (with_reducible refine alloc_below ?_ _) | (with_reducible refine Below.drew ?_) | (refine Below.setCell ?_ (by first | exact Nat.le_refl _ | (simp; done) | (simp; omega) | omega) _)))

theorem unlike_any (p q : Nat) (n : Int) (f g : ByteArray) (w : World) (hM : MaxL w) (hp : p < 256) (hq : q < 256) : Calls Tryd.prog 6 #[.agg #[.int .u8 p, .int .u8 q, .int .i64 n], .string f, .string g] w (Gives (.bool true) w) := by
  by_cases h : 200 < f.size
  · exact unlike_long p q n f g w hM h
  · by_cases h' : 200 < g.size
    · exact unlike_long' p q n f g w hM h h'
    · cases hok : okB p q n
      · exact unlike_bad p q n f g w hM hp hq h h' hok
      · exact unlike_main p q n f g w hM hp hq h h' hok

open Go.ChangeShapes Go.WideShapes Go.ChangeAt Go.Joins

set_option maxRecDepth 100000 in
theorem quoteUnlike_lifted (os : Os) (started : os.Started) (H : Type) (enc : TypeId × Value → H) :
    ReturnsInHanded {} Tryd.checked os 6 .any (fun w args => (Rows.quoteUnlikeSpec.pre enc Tryd.prog Tryd.f6 [] false w args ∧ laidMetH Tryd.prog Rows.quoteUnlikeRow.laid w) ∧ sizedMet enc Tryd.prog Tryd.f6 (OpenSpec.ofChange Rows.quoteUnlikeSpec) false w args) (Rows.quoteUnlikeSpec.post enc Tryd.prog Tryd.f6 false true false false) := by
  refine law_lift_laid (C := Tryd.checked) (tb := 4) Tryd.own Tryd.laidOut started (by kernel_rfl) Tryd.func6
    (ChangeSpec.witness_shaped (enc := enc) (C := Tryd.checked) (os := os) (X := fun w _ => laidMetH Tryd.prog Rows.quoteUnlikeRow.laid w) false (World.laidAll Tryd.prog os Rows.quoteUnlikeRow.laid) #[.agg #[.int .u8 0, .int .u8 0, .int .i64 0], .string ⟨#[]⟩, .string ⟨#[]⟩] 8 (World.laidAll_os _ _ _)
      (World.shaped_of_ZipB (by kernel_rfl) (by kernel_rfl)) (by kernel_rfl) (by kernel_rfl) (by kernel_rfl)
      (by rw [MakeChecks.laidMetH_plain _ _ _ (by kernel_rfl)]; exact laidMet_laidAll _ (by kernel_rfl) (by kernel_rfl)))
    rfl Tryd.underlying4 (by intro t ht; have ht' : t ∈ [23, 9, 9] := ht; simp at ht'; rcases ht' with rfl | rfl <;> exact ⟨by kernel_rfl, of_decide_eq_true (by kernel_rfl)⟩) rfl
    (fun ds h => match ds, h with | [_, _, _], _ => rfl) ?_
  intro W base args ds ps hshaped hh
  obtain ⟨v, v', v'', d, d', d'', p, p', p'', rfl, ⟨hv, hv', hv''⟩, h0, h0', h0''⟩ := handed_three Tryd.params6 hh
  obtain ⟨a, b, n, ha, hb, rfl⟩ := open_dialect hv h0
  obtain ⟨s, rfl, hs⟩ := open_text hv' h0'
  obtain ⟨t, rfl, ht⟩ := open_text hv'' h0''
  exact unlike_any a b n s t W (maxL_shaped hshaped) ha hb

theorem quoteUnlike_holds : Rows.QuoteUnlikeSaid :=
  OpenClaim.holds_of_wide 6 Tryd.f6 rfl rfl rfl rfl rfl rfl rfl ⟨rfl, rfl, rfl, rfl, rfl⟩ rfl rfl rfl rfl rfl (by kernel_rfl) Tryd.func6 (by kernel_rfl)
    (of_decide_eq_true (by kernel_rfl)) (by unfold Func.isWrapper; first | (rw [if_pos (by decide +kernel)]; kernel_rfl) | (rw [if_neg (by decide +kernel)]; exact ⟨rfl, rfl⟩))
    (fun os started H enc _ => quoteUnlike_lifted os started H enc)
theorem quoteUnlike_card : Rows.QuoteUnlikeCardSaid :=
  Claim7.holds_tied_plain_at .later [] Rows.quoteUnlikeCard.laidKinds true Rows.quoteUnlikeCard.stood.harness false
    quoteUnlike_holds (fun _ h => by cases h) (by kernel_rfl) (fun _ h => by cases h) quoteUnlike_row_tie rfl ⟨rfl, rfl⟩ (by kernel_rfl) rfl
    (fun f fn hf hfn => by
      obtain rfl : f = 6 := Option.some.inj ((show Tryd.prog.funcNamed "quillpen/quillpenlaw09.QuoteUnlike" = some 6 by kernel_rfl).symm.trans hf) |>.symm
      obtain rfl : fn = Tryd.f6 := (Option.some.inj (Tryd.func6.symm.trans hfn)).symm
      exact ⟨by kernel_rfl, fun j t ht => by
        rw [Tryd.params6] at ht
        have hm : t ∈ [23, 9, 9] := by simpa using Array.mem_of_getElem? ht
        have hall : ([23, 9, 9].all fun u => !Tryd.prog.wantsStandIn u) = true := by kernel_rfl
        exact (show Tryd.prog.wantsStandIn t = false by simpa using List.all_eq_true.1 hall t hm)⟩)
    (by kernel_rfl)
#print axioms quoteUnlike_card

end Go.Proofs.YtajedohgcepkiaaDoor
