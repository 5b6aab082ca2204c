/-
  The pieces of any text of any sizes are what the document says, and joined they are the text.
  Conditions: none.
-/
import Derived.Test.YtmfhnmdgcjlnpaaRows
import Derived.Test.YtmfhnmdgcjlnpaaLaw
import Derived.Test.YtmfhnmdgcjlnpaaOpenI
import Derived.Test.YtmfhnmdgcjlnpaaCtL
import Derived.Lib.Hide
namespace Go.Proofs.Ytmfhnmdgcjlnpaa
open Go.RowKit

set_option maxHeartbeats 4000000 in
theorem cutsBy_any (s : ByteArray) (v : Value) (sz : List Int) (w : World) (h : Ints w v sz) : Calls Try.prog 4 #[.string s, v] w (Gives (.bool true) w) := by
  apply Gives.of
  by_cases h1 : s.size ≤ 200
  · by_cases h2 : sz.length ≤ 20
    · have i1 : ¬ ((s.size : Int) > 200) := by omega
      have i2 : ¬ ((sz.length : Int) > 20) := by omega
      have HI := Lib.hid h
      have HP := Lib.hid (by_any s v sz w h h1 h2)
      have HR := Lib.hid (fun W (hb : Below w.heap.size w W) => refBy_any s v sz W (h.below hb) h1 h2)
      obtain ⟨A, c, rfl, _, _, _⟩ := h
      go_enter Try.func4, Try.ntmps4
      go_wp2_with (first
        | (go_at_call 14; refine HP.out.mono ?_; rintro e w2 ⟨v2, rfl, L, ho2, hy2, hb2⟩; have HO2 := Lib.hid ho2; have HB2 := Lib.hid hb2; have HY := Lib.hid hy2; clear ho2 hb2 hy2)
        | (go_at_call 15; refine (HR.out _ HB2.out).mono ?_; rintro e w4 ⟨v4, rfl, L4, ho4, hy4, hb4⟩; obtain rfl := hy4.unique HY.out; have HO4 := Lib.hid (owns_later HO2.out hb4); have HS := Lib.hid (same_any _ v4 _ _ w4 (OwnS.strs HO4.out) (OwnS.strs ho4)); have HB4 := Lib.hid (below_next HB2.out (Nat.le_refl _) hb4); clear ho4 hb4 hy4)
        | (go_at_call 10; refine HS.out.mono ?_; rintro e w5 ⟨rfl, hb5⟩; have HO5 := Lib.hid (owns_later HO4.out hb5); have HB5 := Lib.hid (below_next HB4.out (Nat.le_refl _) hb5); have HJ := Lib.hid (joined_any _ _ w5 (OwnS.strs HO5.out) (by rw [HY.out.cat]; omega)); clear hb5)
        | (go_at_call 12; refine HJ.out.mono ?_; rintro e w6 ⟨rfl, hb6⟩; rw [HY.out.cat]; have HB6 := Lib.hid (below_next HB5.out (Nat.le_refl _) hb6); clear hb6)
        | (go_at_call 8; refine (awake_any w6).mono ?_; rintro e w8 ⟨rfl, hb8⟩; have HB8 := Lib.hid (below_next HB6.out (Nat.le_refl _) hb8); clear hb8))
      go_ret
      exact ⟨rfl, HB8.out⟩
    · have i1 : ¬ ((s.size : Int) > 200) := by omega
      have i2 : (sz.length : Int) > 20 := by omega
      obtain ⟨A, c, rfl, _, _, _⟩ := h
      have HW := Lib.hid (fun W => awake_any W)
      clear h2
      go_enter Try.func4, Try.ntmps4
      go_wp2_with ((go_at_call 8; (first | (with_reducible refine (later_call _ (HW.out _)).mono ?_) | (with_reducible refine (call_later (HW.out _)).mono ?_)); rintro e w' ⟨rfl, x, rfl⟩))
      go_ret
      exact ⟨rfl, x.below⟩
  · have i1 : (s.size : Int) > 200 := by omega
    obtain ⟨A, c, rfl, _, _, _⟩ := h
    have HW := Lib.hid (fun W => awake_any W)
    clear h1
    go_enter Try.func4, Try.ntmps4
    go_wp2_with ((go_at_call 8; (first | (with_reducible refine (later_call _ (HW.out _)).mono ?_) | (with_reducible refine (call_later (HW.out _)).mono ?_)); rintro e w' ⟨rfl, x, rfl⟩))
    go_ret
    exact ⟨rfl, x.below⟩

set_option maxRecDepth 100000 in
theorem cutsBy_lifted (os : Os) (started : os.Started) (H : Type) (enc : TypeId × Value → H) :
    ReturnsInHanded {} Try.checked os 4 .any (Rows.cutsBySpec.pre6 enc Try.prog Try.f4 Rows.cutsByRow.domain false) (Rows.cutsBySpec.post enc Try.prog Try.f4 false true false false) := by
  refine law_lift (C := Try.checked) (tb := 4) Try.own Try.laidOut started (by kernel_rfl) Try.func4
    (ChangeSpec.witness6 (enc := enc) (C := Try.checked) false ⟨#[], #[.string ⟨#[]⟩, .slice none 0 0], []⟩ 8 (by kernel_rfl) (by kernel_rfl) (by kernel_rfl) (by kernel_rfl))
    rfl Try.underlying4 (by intro t ht; have ht' : t ∈ [9, 22] := ht; simp at ht'; rcases ht' with rfl | rfl <;> exact ⟨by kernel_rfl, of_decide_eq_true (by kernel_rfl)⟩) rfl
    (fun ds h => match ds, h with | [_, _], _ => rfl) ?_
  intro W base args ds ps hh
  obtain ⟨v, v', d, d', p, p', rfl, hv, hv', h0, h0'⟩ := handed_two Try.params4 hh
  obtain ⟨s, rfl, hs⟩ := open_text hv h0
  obtain ⟨L, hL, hla⟩ := open_nums hv' h0'
  exact cutsBy_any s v' L W hL

theorem cutsBy_holds : Rows.CutsBySaid :=
  OpenClaim.holds_of_wide 4 Try.f4 rfl rfl rfl rfl rfl rfl rfl ⟨rfl, rfl, rfl, rfl, rfl⟩ rfl rfl rfl rfl rfl (by kernel_rfl) Try.func4 (by kernel_rfl)
    (of_decide_eq_true (by kernel_rfl)) (by unfold Func.isWrapper; first | (rw [if_pos (by decide +kernel)]; kernel_rfl) | (rw [if_neg (by decide +kernel)]; exact ⟨rfl, rfl⟩))
    (fun os started H enc _ => cutsBy_lifted os started H enc)
#print axioms cutsBy_holds

end Go.Proofs.Ytmfhnmdgcjlnpaa
