/-
  The law BomStrips returns true for every text. Conditions: none.
-/
import Derived.Test.YtnmcbilnebfcfaaRows
import Derived.Test.YtnmcbilnebfcfaaOpenA
import Derived.Test.YtnmcbilnebfcfaaBomL
namespace Go.Proofs.Ytnmcbilnebfcfaa
open Go.ChangeShapes Go.WideShapes Go.ChangeAt Go.RowKit Go.Joins

theorem strips_any (s : ByteArray) (w : World) (hs : s.size ≤ maxLen) : Calls Try.prog 3 #[.string s] w (Gives (.bool true) w) := by
  apply Gives.of
  have HP := Lib.hid (fun W => stripP_any s W hs)
  have HR := Lib.hid (fun W => strip_ref s W hs)
  have hb := hadN_B s
  clear hs
  generalize stripS s = t at *
  generalize hadN s = x at *
  generalize hadB s = y at *
  go_enter Try.func3, Try.ntmps3
  go_wp2_with (first | (go_at_call 6; (first | (with_reducible refine (later_call _ (HP.out _)).mono ?_) | (with_reducible refine (call_later (HP.out _)).mono ?_)); rintro e w' ⟨rfl, x, rfl⟩) | (go_at_call 7; (first | (with_reducible refine (later_call _ (HR.out _)).mono ?_) | (with_reducible refine (call_later (HR.out _)).mono ?_)); rintro e w' ⟨rfl, x, rfl⟩) | (go_at_call 8; (first | (with_reducible refine (later_call _ (awake_any _)).mono ?_) | (with_reducible refine (call_later (awake_any _)).mono ?_)); rintro e w' ⟨rfl, x, rfl⟩))
  go_ret
  refine ⟨rfl, ?_⟩
  (repeat (first | (with_reducible exact Below.refl _ _) | (with_reducible refine later_below _ ?_) | (with_reducible refine alloc_below ?_ _) | (with_reducible refine Below.drew ?_) | (refine Below.setCell ?_ (by first | exact Nat.le_refl _ | (simp; done) | (simp; omega) | omega) _)))

set_option maxRecDepth 100000 in
theorem bomStrips_lifted (os : Os) (started : os.Started) (H : Type) (enc : TypeId × Value → H) :
    ReturnsInHanded {} Try.checked os 3 .any (Rows.bomStripsSpec.pre6 enc Try.prog Try.f3 Rows.bomStripsRow.domain false) (Rows.bomStripsSpec.post enc Try.prog Try.f3 false true false false) := by
  refine law_lift (C := Try.checked) (tb := 4) Try.own Try.laidOut started (by kernel_rfl) Try.func3
    (ChangeSpec.witness6 (enc := enc) (C := Try.checked) false ⟨#[], #[.string ⟨#[]⟩], []⟩ 8 (by kernel_rfl) (by kernel_rfl) (by kernel_rfl) (by kernel_rfl))
    rfl Try.underlying4 (by intro t ht; have ht' : t ∈ [9] := ht; simp at ht'; subst ht'; exact ⟨by kernel_rfl, of_decide_eq_true (by kernel_rfl)⟩) rfl
    (fun ds h => match ds, h with | [_], _ => rfl) ?_
  intro W base args ds ps hh
  obtain ⟨v, d, p, rfl, hv, h0⟩ := handed_one Try.params3 hh
  obtain ⟨s, rfl, hs⟩ := open_text hv h0
  exact strips_any s W hs

theorem bomStrips_holds : Rows.BomStripsSaid :=
  OpenClaim.holds_of_wide 3 Try.f3 rfl rfl rfl rfl rfl rfl rfl ⟨rfl, rfl, rfl, rfl, rfl⟩ rfl rfl rfl rfl rfl (by kernel_rfl) Try.func3 (by kernel_rfl)
    (of_decide_eq_true (by kernel_rfl)) (by unfold Func.isWrapper; first | (rw [if_pos (by decide +kernel)]; kernel_rfl) | (rw [if_neg (by decide +kernel)]; exact ⟨rfl, rfl⟩))
    (fun os started H enc _ => bomStrips_lifted os started H enc)
#print axioms bomStrips_holds

end Go.Proofs.Ytnmcbilnebfcfaa
