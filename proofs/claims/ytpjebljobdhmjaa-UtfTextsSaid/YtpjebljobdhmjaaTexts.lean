/-
  The law UtfTexts returns true for every two texts and byte. Conditions: none.
-/
import Derived.Test.YtpjebljobdhmjaaRows
import Derived.Test.YtpjebljobdhmjaaOpenA
import Derived.Test.YtpjebljobdhmjaaUtfL
namespace Go.Proofs.Ytpjebljobdhmjaa
open Go.ChangeShapes Go.WideShapes Go.ChangeAt Go.RowKit Go.Joins

theorem longest_G' (s : ByteArray) (w : World) (hs : s.size ≤ maxLen) : Calls Try.prog 16 #[.string s] w (Gives (.int .i64 (wholeN s)) w) := Gives.same_left (longest_any s w hs)

theorem state_left (a b : ByteArray) (i : Nat) (hi : i ≤ a.size) : stateAt (a ++ b) i = stateAt a i := by
  induction i with
  | zero => rfl
  | succ i ih =>
    unfold stateAt
    rw [ih (by omega), byt_append, if_pos (show i < a.size by omega), ByteArray.size_append, if_pos (by omega), if_pos (by omega)]

theorem state_right (a b : ByteArray) (h : stateAt a a.size = 0) (i : Nat) : stateAt (a ++ b) (a.size + i) = stateAt b i := by
  induction i with
  | zero => rw [Nat.add_zero, state_left a b a.size (Nat.le_refl _), h]; rfl
  | succ i ih =>
    have e : stateAt (a ++ b) (a.size + (i + 1)) = if a.size + i < (a ++ b).size then stepI (stateAt (a ++ b) (a.size + i)) (byt (a ++ b) (a.size + i)) else -1 := rfl
    rw [e, ih, ByteArray.size_append, byt_append, if_neg (show ¬ a.size + i < a.size by omega), show a.size + i - a.size = i by omega]
    unfold stateAt
    by_cases hi : i < b.size
    · rw [if_pos (by omega), if_pos hi]
      cases i <;> rfl
    · rw [if_neg (by omega), if_neg hi]

theorem valid_append (a b : ByteArray) (h : validM a = true) : validM (a ++ b) = validM b := by
  unfold validM at *
  rw [decide_eq_true_eq] at h
  rw [ByteArray.size_append, state_right a b h]

theorem whole_append (a b : ByteArray) (h : validM a = true) : wholeN (a ++ b) = a.size + wholeN b := by
  unfold validM at h
  rw [decide_eq_true_eq] at h
  have hb := wholeN_is b
  refine whole_unique _ _ _ (wholeN_is _) ⟨by rw [ByteArray.size_append]; have := hb.1; omega, by rw [state_right a b h]; exact hb.2.1, fun j hj => ?_⟩
  rw [show j = a.size + (j - a.size) by omega, state_right a b h]
  exact hb.2.2 _ (by omega)

def oneC (c : Nat) : ByteArray := ⟨#[UInt8.ofNat c]⟩
theorem valid_one (c : Nat) (hc : c < 256) : validM ⟨#[UInt8.ofNat c]⟩ = decide ((c : Int) < 128) := by
  have e : stateAt ⟨#[UInt8.ofNat c]⟩ 1 = stepI 0 (c : Int) := by
    have h1 : 0 < (⟨#[UInt8.ofNat c]⟩ : ByteArray).size := Nat.zero_lt_one
    unfold stateAt
    rw [if_pos h1, ← byt_eq _ 0 h1]
    show stepI 0 ((UInt8.ofNat c).toNat : Int) = _
    rw [UInt8.toNat_ofNat', Nat.mod_eq_of_lt (by omega)]
  unfold validM
  show decide (stateAt ⟨#[UInt8.ofNat c]⟩ 1 = 0) = _
  rw [e]
  have hs := step0 (c : Int)
  by_cases h : (c : Int) < 128
  · rw [decide_eq_true h]; refine decide_eq_true ?_; omega
  · rw [decide_eq_false h]; refine decide_eq_false ?_; omega

theorem byteC (n : Nat) (h : n < 256) : (n : Int) = ((UInt8.ofNat n).toNat : Int) := by
  rw [UInt8.toNat_ofNat', Nat.mod_eq_of_lt (by omega)]

set_option maxRecDepth 100000 in
theorem texts_any (a b : ByteArray) (c : Nat) (w : World) (hc : c < 256) : Calls Try.prog 6 #[.string a, .string b, .int .u8 c] w (Gives (.bool true) w) := by
  apply Gives.of
  have hcell := fun (W : World) (x : Later W) => x.cell
  by_cases ha : 100 < a.size
  · have haI : (100 : Int) < (a.size : Int) := by omega
    have hd1 : decide ((100 : Int) < (a.size : Int)) = true := decide_eq_true haI
    go_enter Try.func6, Try.ntmps6
    go_wp2_with (go_at_call 10; (first | (with_reducible refine (later_call _ (awake_any _)).mono ?_) | (with_reducible refine (call_later (awake_any _)).mono ?_)); rintro e w' ⟨rfl, x, rfl⟩)
    go_ret
    refine ⟨rfl, ?_⟩
    (repeat (first | (with_reducible exact Below.refl _ _) | (with_reducible refine later_below _ ?_) | (with_reducible refine alloc_below ?_ _) | (with_reducible refine Below.drew ?_) | (refine Below.setCell ?_ (by first | exact Nat.le_refl _ | (simp; done) | (simp; omega) | omega) _)))
  by_cases hb : 100 < b.size
  · have haI : ¬ (100 : Int) < (a.size : Int) := by omega
    have hbI : (100 : Int) < (b.size : Int) := by omega
    have hd1 : decide ((100 : Int) < (a.size : Int)) = false := decide_eq_false haI
    have hd2 : decide ((100 : Int) < (b.size : Int)) = true := decide_eq_true hbI
    go_enter Try.func6, Try.ntmps6
    go_wp2_with (go_at_call 10; (first | (with_reducible refine (later_call _ (awake_any _)).mono ?_) | (with_reducible refine (call_later (awake_any _)).mono ?_)); rintro e w' ⟨rfl, x, rfl⟩)
    go_ret
    refine ⟨rfl, ?_⟩
    (repeat (first | (with_reducible exact Below.refl _ _) | (with_reducible refine later_below _ ?_) | (with_reducible refine alloc_below ?_ _) | (with_reducible refine Below.drew ?_) | (refine Below.setCell ?_ (by first | exact Nat.le_refl _ | (simp; done) | (simp; omega) | omega) _)))
  have haI : ¬ (100 : Int) < (a.size : Int) := by omega
  have hbI : ¬ (100 : Int) < (b.size : Int) := by omega
  have hd1 : decide ((100 : Int) < (a.size : Int)) = false := decide_eq_false haI
  have hd2 : decide ((100 : Int) < (b.size : Int)) = false := decide_eq_false hbI
  have hma : a.size ≤ maxLen := by unfold maxLen; omega
  have hmb : b.size ≤ maxLen := by unfold maxLen; omega
  have HA := Lib.hid (fun W => valid_any a W hma)
  cases hv : validM a
  · rw [hv] at HA
    clear hv
    go_enter Try.func6, Try.ntmps6
    go_wp2_with (first | (go_at_call 15; (first | (with_reducible refine (later_call _ (HA.out _)).mono ?_) | (with_reducible refine (call_later (HA.out _)).mono ?_)); rintro e w' ⟨rfl, x, rfl⟩) | (go_at_call 10; (first | (with_reducible refine (later_call _ (awake_any _)).mono ?_) | (with_reducible refine (call_later (awake_any _)).mono ?_)); rintro e w' ⟨rfl, x, rfl⟩))
    go_ret
    refine ⟨rfl, ?_⟩
    (repeat (first | (with_reducible exact Below.refl _ _) | (with_reducible refine later_below _ ?_) | (with_reducible refine alloc_below ?_ _) | (with_reducible refine Below.drew ?_) | (refine Below.setCell ?_ (by first | exact Nat.le_refl _ | (simp; done) | (simp; omega) | omega) _)))
  · have hmab : (a ++ b).size ≤ maxLen := by rw [ByteArray.size_append]; unfold maxLen; omega
    have hmac : (a ++ ⟨#[UInt8.ofNat c]⟩).size ≤ maxLen := by rw [ByteArray.size_append]; have : (⟨#[UInt8.ofNat c]⟩ : ByteArray).size = 1 := rfl; unfold maxLen; omega
    have hone : (⟨#[UInt8.ofNat c]⟩ : ByteArray).size = 1 := rfl
    have HB := Lib.hid (fun W => valid_any b W hmb)
    have HAB := Lib.hid (fun W => valid_append a b hv ▸ valid_any (a ++ b) W hmab)
    have HAC : Hid (∀ W, Calls Try.prog 15 #[.string (a ++ ⟨#[UInt8.ofNat c]⟩)] W (Gives (.bool (decide ((c : Int) < 128))) W)) := by
      rw [← valid_one c hc, ← valid_append a _ hv]
      exact fun W => valid_any _ W hmac
    have HL := Lib.hid (fun W => whole_append a b hv ▸ longest_G' (a ++ b) W hmab)
    have HLB := Lib.hid (fun W => longest_G' b W hmb)
    have hcv := fun W => convert_oneI (P := Try.prog) W 26 9 5 Try.underlying26 Try.underlying5 Try.underlying9 c (UInt8.ofNat c) (byteC c hc)
    have hwb : (wholeN b : Int) ≤ (b.size : Int) := by have := (wholeN_is b).1; omega
    have hcast : ((a.size + wholeN b : Nat) : Int) = (a.size : Int) + (wholeN b : Int) := by omega
    rw [hv] at HA
    rw [hcast] at HL
    clear hcast
    generalize validM b = vb at *
    by_cases hc8 : (c : Int) < 128
    · have hd3 : decide ((c : Int) < 128) = true := decide_eq_true hc8
      rw [hd3] at HAC
      clear hv hma hmb hmab hmac
      cases vb
      all_goals
        go_enter Try.func6, Try.ntmps6
        go_wp2_with (first | (go_at_call 15; (first | (with_reducible refine (later_call _ (HA.out _)).mono ?_) | (with_reducible refine (call_later (HA.out _)).mono ?_)); rintro e w' ⟨rfl, x, rfl⟩) | (go_at_call 15; (first | (with_reducible refine (later_call _ (HB.out _)).mono ?_) | (with_reducible refine (call_later (HB.out _)).mono ?_)); rintro e w' ⟨rfl, x, rfl⟩) | (go_at_call 15; (first | (with_reducible refine (later_call _ (HAB.out _)).mono ?_) | (with_reducible refine (call_later (HAB.out _)).mono ?_)); rintro e w' ⟨rfl, x, rfl⟩) | (go_at_call 15; (first | (with_reducible refine (later_call _ (HAC.out _)).mono ?_) | (with_reducible refine (call_later (HAC.out _)).mono ?_)); rintro e w' ⟨rfl, x, rfl⟩) | (go_at_call 16; (first | (with_reducible refine (later_call _ (HL.out _)).mono ?_) | (with_reducible refine (call_later (HL.out _)).mono ?_)); rintro e w' ⟨rfl, x, rfl⟩) | (go_at_call 16; (first | (with_reducible refine (later_call _ (HLB.out _)).mono ?_) | (with_reducible refine (call_later (HLB.out _)).mono ?_)); rintro e w' ⟨rfl, x, rfl⟩) | (go_at_call 10; (first | (with_reducible refine (later_call _ (awake_any _)).mono ?_) | (with_reducible refine (call_later (awake_any _)).mono ?_)); rintro e w' ⟨rfl, x, rfl⟩))
        go_ret
        refine ⟨rfl, ?_⟩
        (repeat (first | (with_reducible exact Below.refl _ _) | (with_reducible refine later_below _ ?_) | (with_reducible refine alloc_below ?_ _) | (with_reducible refine Below.drew ?_) | (refine Below.setCell ?_ (by first | exact Nat.le_refl _ | (simp; done) | (simp; omega) | omega) _)))
    · have hd3 : decide ((c : Int) < 128) = false := decide_eq_false hc8
      rw [hd3] at HAC
      clear hv hma hmb hmab hmac
      cases vb
      all_goals
        go_enter Try.func6, Try.ntmps6
        go_wp2_with (first | (go_at_call 15; (first | (with_reducible refine (later_call _ (HA.out _)).mono ?_) | (with_reducible refine (call_later (HA.out _)).mono ?_)); rintro e w' ⟨rfl, x, rfl⟩) | (go_at_call 15; (first | (with_reducible refine (later_call _ (HB.out _)).mono ?_) | (with_reducible refine (call_later (HB.out _)).mono ?_)); rintro e w' ⟨rfl, x, rfl⟩) | (go_at_call 15; (first | (with_reducible refine (later_call _ (HAB.out _)).mono ?_) | (with_reducible refine (call_later (HAB.out _)).mono ?_)); rintro e w' ⟨rfl, x, rfl⟩) | (go_at_call 15; (first | (with_reducible refine (later_call _ (HAC.out _)).mono ?_) | (with_reducible refine (call_later (HAC.out _)).mono ?_)); rintro e w' ⟨rfl, x, rfl⟩) | (go_at_call 16; (first | (with_reducible refine (later_call _ (HL.out _)).mono ?_) | (with_reducible refine (call_later (HL.out _)).mono ?_)); rintro e w' ⟨rfl, x, rfl⟩) | (go_at_call 16; (first | (with_reducible refine (later_call _ (HLB.out _)).mono ?_) | (with_reducible refine (call_later (HLB.out _)).mono ?_)); rintro e w' ⟨rfl, x, rfl⟩) | (go_at_call 10; (first | (with_reducible refine (later_call _ (awake_any _)).mono ?_) | (with_reducible refine (call_later (awake_any _)).mono ?_)); rintro e w' ⟨rfl, x, rfl⟩))
        go_ret
        refine ⟨rfl, ?_⟩
        (repeat (first | (with_reducible exact Below.refl _ _) | (with_reducible refine later_below _ ?_) | (with_reducible refine alloc_below ?_ _) | (with_reducible refine Below.drew ?_) | (refine Below.setCell ?_ (by first | exact Nat.le_refl _ | (simp; done) | (simp; omega) | omega) _)))

set_option maxRecDepth 100000 in
theorem utfTexts_lifted (os : Os) (started : os.Started) (H : Type) (enc : TypeId × Value → H) :
    ReturnsInHanded {} Try.checked os 6 .any (Rows.utfTextsSpec.pre6 enc Try.prog Try.f6 Rows.utfTextsRow.domain false) (Rows.utfTextsSpec.post enc Try.prog Try.f6 false true false false) := by
  refine law_lift (C := Try.checked) (tb := 4) Try.own Try.laidOut started (by kernel_rfl) Try.func6
    (ChangeSpec.witness6 (enc := enc) (C := Try.checked) false ⟨#[], #[.string ⟨#[]⟩, .string ⟨#[]⟩, .int .u8 0], []⟩ 8 (by kernel_rfl) (by kernel_rfl) (by kernel_rfl) (by kernel_rfl))
    rfl Try.underlying4 (by intro t ht; have ht' : t ∈ [9, 9, 5] := ht; simp at ht'; rcases ht' with rfl | rfl <;> exact ⟨by kernel_rfl, of_decide_eq_true (by kernel_rfl)⟩) rfl
    (fun ds h => match ds, h with | [_, _, _], _ => rfl) ?_
  intro W base args ds ps hh
  obtain ⟨v, v', v'', d, d', d'', p, p', p'', rfl, ⟨hv, hv', hv''⟩, h0, h0', h0''⟩ := handed_three Try.params6 hh
  obtain ⟨a, rfl, _⟩ := open_text hv h0
  obtain ⟨b, rfl, _⟩ := open_text hv' h0'
  obtain ⟨c, hc, rfl⟩ := open_byte hv'' h0''
  exact texts_any a b c W hc

theorem utfTexts_holds : Rows.UtfTextsSaid :=
  OpenClaim.holds_of_wide 6 Try.f6 rfl rfl rfl rfl rfl rfl rfl ⟨rfl, rfl, rfl, rfl, rfl⟩ rfl rfl rfl rfl rfl (by kernel_rfl) Try.func6 (by kernel_rfl)
    (of_decide_eq_true (by kernel_rfl)) (by unfold Func.isWrapper; first | (rw [if_pos (by decide +kernel)]; kernel_rfl) | (rw [if_neg (by decide +kernel)]; exact ⟨rfl, rfl⟩))
    (fun os started H enc _ => utfTexts_lifted os started H enc)
#print axioms utfTexts_holds

end Go.Proofs.Ytpjebljobdhmjaa
