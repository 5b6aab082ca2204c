/-
  The law UtfBad returns true for every text. Conditions: none.
-/
import Derived.Test.YtpjebljobdhmjaaRows
import Derived.Test.YtpjebljobdhmjaaOpenA
import Derived.Test.YtpjebljobdhmjaaUtfL
namespace Go.Proofs.Ytpjebljobdhmjaa
open Go.ChangeShapes Go.WideShapes Go.ChangeAt Go.RowKit Go.Joins

def refBad (s : ByteArray) : Int := if goesN s < s.size then (goesN s : Int) else -1
theorem refBad_any (s : ByteArray) (w : World) (hs : s.size ≤ 4294967296) : Calls Try.prog 14 #[.string s] w (Gives (.int .i64 (refBad s)) w) := by
  refine (bad_W s w hs).mono ?_
  rintro e w' ⟨⟨n, hg, h⟩, hb⟩
  refine ⟨?_, hb⟩
  have hn : n = goesN s := goes_unique s n _ hg (goesN_is s)
  subst hn
  unfold refBad
  rcases h with ⟨h1, h2⟩ | ⟨h1, h2⟩
  · rw [if_pos h1, h2]
  · rw [if_neg (by omega), h2]
theorem refWhole_any (s : ByteArray) (w : World) (hs : s.size ≤ maxLen) : Calls Try.prog 13 #[.string s] w (Gives (.int .i64 (wholeN s)) w) := by
  refine (whole_W s w hs).mono ?_
  rintro e w' ⟨⟨k, he, hk⟩, hb⟩
  have hn : k = wholeN s := whole_unique s k _ hk (wholeN_is s)
  subst hn
  exact ⟨he, hb⟩
theorem longest_G (s : ByteArray) (w : World) (hs : s.size ≤ maxLen) : Calls Try.prog 16 #[.string s] w (Gives (.int .i64 (wholeN s)) w) := Gives.same_left (longest_any s w hs)

theorem ubad_long (s : ByteArray) (w : World) (h : 200 < s.size) : Calls Try.prog 4 #[.string s] w (Gives (.bool true) w) := by
  apply Gives.of
  go_enter Try.func4, Try.ntmps4
  go_wp2_with (go_at_call 10; (first | (with_reducible refine (later_call _ (awake_any _)).mono ?_) | (with_reducible refine (call_later (awake_any _)).mono ?_)); rintro e w' ⟨rfl, x, rfl⟩)
  go_ret
  refine ⟨rfl, ?_⟩
  (repeat (first | (with_reducible exact Below.refl _ _) | (with_reducible refine later_below _ ?_) | (with_reducible refine alloc_below ?_ _) | (with_reducible refine Below.drew ?_) | (refine Below.setCell ?_ (by first | exact Nat.le_refl _ | (simp; done) | (simp; omega) | omega) _)))

set_option maxRecDepth 100000 in
theorem ubad_a (s : ByteArray) (w : World) (h : s.size ≤ 200) (h1 : goesN s < s.size) : Calls Try.prog 4 #[.string s] w (Gives (.bool true) w) := by
  apply Gives.of
  have hcell := fun (W : World) (x : Later W) => x.cell
  have hset := set_same
  have hk : badK s = 3 := by unfold badK; rw [if_pos h1]
  have ha : badA s = goesN s := by unfold badA; rw [if_pos h1]
  have hr : refBad s = goesN s := by unfold refBad; rw [if_pos h1]
  have hv : validM s = false := by
    cases hv : validM s
    · rfl
    · have := (validM_goes s).1 hv; omega
  have hwlt : (wholeN s : Int) < (s.size : Int) := by have := whole_goes s; omega
  have hwd : ((wholeN s : Int) == (s.size : Int)) = false := by simp; omega
  have hg0 : (0 : Int) ≤ (goesN s : Int) := by omega
  have hm : s.size ≤ maxLen := by unfold maxLen; omega
  have HB := Lib.hid (fun W => hk ▸ ha ▸ badU_any s W hm)
  have HR := Lib.hid (fun W => hr ▸ refBad_any s W (by omega))
  have HW := Lib.hid (fun W => refWhole_any s W hm)
  have HV := Lib.hid (fun W => hv ▸ valid_any s W hm)
  have HL := Lib.hid (fun W => longest_G s W hm)
  clear hk ha hr hv
  go_enter Try.func4, Try.ntmps4
  go_wp2_with (first | ((go_at_call 12; (first | (with_reducible refine (later_call _ (HB.out _)).mono ?_) | (with_reducible refine (call_later (HB.out _)).mono ?_)); rintro e w' ⟨rfl, x, rfl⟩); have hz0 := Nat.lt_succ_of_le x.size) | ((go_at_call 13; (first | (with_reducible refine (later_call _ (HW.out _)).mono ?_) | (with_reducible refine (call_later (HW.out _)).mono ?_)); rintro e w' ⟨rfl, x, rfl⟩); have hz := Later.lt1 x) | ((go_at_call 14; (first | (with_reducible refine (later_call _ (HR.out _)).mono ?_) | (with_reducible refine (call_later (HR.out _)).mono ?_)); rintro e w' ⟨rfl, x, rfl⟩); have hz2 := Later.lt1 x; have hz3 := Nat.lt_succ_of_lt hz2) | (go_at_call 15; (first | (with_reducible refine (later_call _ (HV.out _)).mono ?_) | (with_reducible refine (call_later (HV.out _)).mono ?_)); rintro e w' ⟨rfl, x, rfl⟩) | (go_at_call 16; (first | (with_reducible refine (later_call _ (HL.out _)).mono ?_) | (with_reducible refine (call_later (HL.out _)).mono ?_)); rintro e w' ⟨rfl, x, rfl⟩) | (go_at_call 10; (first | (with_reducible refine (later_call _ (awake_any _)).mono ?_) | (with_reducible refine (call_later (awake_any _)).mono ?_)); rintro e w' ⟨rfl, x, rfl⟩))
  go_ret
  refine ⟨rfl, ?_⟩
  (repeat (first | (with_reducible exact Below.refl _ _) | (with_reducible refine later_below _ ?_) | (with_reducible refine alloc_below ?_ _) | (with_reducible refine Below.drew ?_) | (refine Below.setCell ?_ (by first | exact Nat.le_refl _ | (simp; done) | (simp; omega) | omega) _)))

set_option maxRecDepth 100000 in
theorem ubad_b (s : ByteArray) (w : World) (h : s.size ≤ 200) (h1 : goesN s = s.size) (h2 : stateAt s (goesN s) ≠ 0) : Calls Try.prog 4 #[.string s] w (Gives (.bool true) w) := by
  apply Gives.of
  have hcell := fun (W : World) (x : Later W) => x.cell
  have hset := set_same
  have hk : badK s = 12 := by unfold badK; rw [if_neg (by omega), if_neg h2]
  have ha : badA s = s.size := by unfold badA; rw [if_neg (by omega), if_neg h2, h1]
  have hr : refBad s = -1 := by unfold refBad; rw [if_neg (by omega)]
  have hv : validM s = false := by
    cases hv : validM s
    · rfl
    · have := (validM_goes s).1 hv; omega
  have hwl : wholeN s ≠ goesN s := by
    intro hc
    rw [← hc] at h2
    exact h2 (wholeN_is s).2.1
  have hwlt : (wholeN s : Int) < (s.size : Int) := by have := whole_goes s; omega
  have hwd : ((wholeN s : Int) == (s.size : Int)) = false := by simp; omega
  have hm : s.size ≤ maxLen := by unfold maxLen; omega
  have HB := Lib.hid (fun W => hk ▸ ha ▸ badU_any s W hm)
  have HR := Lib.hid (fun W => hr ▸ refBad_any s W (by omega))
  have HW := Lib.hid (fun W =>  refWhole_any s W hm)
  have HV := Lib.hid (fun W => hv ▸ valid_any s W hm)
  have HL := Lib.hid (fun W =>  longest_G s W hm)
  clear hk ha hr hv h2 hwl h1
  go_enter Try.func4, Try.ntmps4
  go_wp2_with (first | ((go_at_call 12; (first | (with_reducible refine (later_call _ (HB.out _)).mono ?_) | (with_reducible refine (call_later (HB.out _)).mono ?_)); rintro e w' ⟨rfl, x, rfl⟩); have hz0 := Nat.lt_succ_of_le x.size) | ((go_at_call 13; (first | (with_reducible refine (later_call _ (HW.out _)).mono ?_) | (with_reducible refine (call_later (HW.out _)).mono ?_)); rintro e w' ⟨rfl, x, rfl⟩); have hz := Later.lt1 x) | ((go_at_call 14; (first | (with_reducible refine (later_call _ (HR.out _)).mono ?_) | (with_reducible refine (call_later (HR.out _)).mono ?_)); rintro e w' ⟨rfl, x, rfl⟩); have hz2 := Later.lt1 x; have hz3 := Nat.lt_succ_of_lt hz2) | (go_at_call 15; (first | (with_reducible refine (later_call _ (HV.out _)).mono ?_) | (with_reducible refine (call_later (HV.out _)).mono ?_)); rintro e w' ⟨rfl, x, rfl⟩) | (go_at_call 16; (first | (with_reducible refine (later_call _ (HL.out _)).mono ?_) | (with_reducible refine (call_later (HL.out _)).mono ?_)); rintro e w' ⟨rfl, x, rfl⟩) | (go_at_call 10; (first | (with_reducible refine (later_call _ (awake_any _)).mono ?_) | (with_reducible refine (call_later (awake_any _)).mono ?_)); rintro e w' ⟨rfl, x, rfl⟩))
  go_ret
  refine ⟨rfl, ?_⟩
  (repeat (first | (with_reducible exact Below.refl _ _) | (with_reducible refine later_below _ ?_) | (with_reducible refine alloc_below ?_ _) | (with_reducible refine Below.drew ?_) | (refine Below.setCell ?_ (by first | exact Nat.le_refl _ | (simp; done) | (simp; omega) | omega) _)))

set_option maxRecDepth 100000 in
theorem ubad_c (s : ByteArray) (w : World) (h : s.size ≤ 200) (h1 : goesN s = s.size) (h2 : stateAt s (goesN s) = 0) : Calls Try.prog 4 #[.string s] w (Gives (.bool true) w) := by
  apply Gives.of
  have hcell := fun (W : World) (x : Later W) => x.cell
  have hset := set_same
  have hk : badK s = 0 := by unfold badK; rw [if_neg (by omega), if_pos h2]
  have ha : badA s = 0 := badA_zero s hk
  have hr : refBad s = -1 := by unfold refBad; rw [if_neg (by omega)]
  have hv : validM s = true := (validM_goes s).2 hk
  have hwl : wholeN s = s.size := by
    refine whole_unique s _ _ (wholeN_is s) ⟨Nat.le_refl _, by rw [← h1]; exact h2, fun j hj => by rw [stateAt_end s j hj]; omega⟩
  have hm : s.size ≤ maxLen := by unfold maxLen; omega
  have HB := Lib.hid (fun W => hk ▸ ha ▸ badU_any s W hm)
  have HR := Lib.hid (fun W => hr ▸ refBad_any s W (by omega))
  have HW := Lib.hid (fun W => hwl ▸ refWhole_any s W hm)
  have HV := Lib.hid (fun W => hv ▸ valid_any s W hm)
  have HL := Lib.hid (fun W => hwl ▸ longest_G s W hm)
  clear hk ha hr hv h2 hwl h1
  go_enter Try.func4, Try.ntmps4
  go_wp2_with (first | ((go_at_call 12; (first | (with_reducible refine (later_call _ (HB.out _)).mono ?_) | (with_reducible refine (call_later (HB.out _)).mono ?_)); rintro e w' ⟨rfl, x, rfl⟩); have hz0 := Nat.lt_succ_of_le x.size) | ((go_at_call 13; (first | (with_reducible refine (later_call _ (HW.out _)).mono ?_) | (with_reducible refine (call_later (HW.out _)).mono ?_)); rintro e w' ⟨rfl, x, rfl⟩); have hz := Later.lt1 x) | ((go_at_call 14; (first | (with_reducible refine (later_call _ (HR.out _)).mono ?_) | (with_reducible refine (call_later (HR.out _)).mono ?_)); rintro e w' ⟨rfl, x, rfl⟩); have hz2 := Later.lt1 x; have hz3 := Nat.lt_succ_of_lt hz2) | (go_at_call 15; (first | (with_reducible refine (later_call _ (HV.out _)).mono ?_) | (with_reducible refine (call_later (HV.out _)).mono ?_)); rintro e w' ⟨rfl, x, rfl⟩) | (go_at_call 16; (first | (with_reducible refine (later_call _ (HL.out _)).mono ?_) | (with_reducible refine (call_later (HL.out _)).mono ?_)); rintro e w' ⟨rfl, x, rfl⟩) | (go_at_call 10; (first | (with_reducible refine (later_call _ (awake_any _)).mono ?_) | (with_reducible refine (call_later (awake_any _)).mono ?_)); rintro e w' ⟨rfl, x, rfl⟩))
  go_ret
  refine ⟨rfl, ?_⟩
  (repeat (first | (with_reducible exact Below.refl _ _) | (with_reducible refine later_below _ ?_) | (with_reducible refine alloc_below ?_ _) | (with_reducible refine Below.drew ?_) | (refine Below.setCell ?_ (by first | exact Nat.le_refl _ | (simp; done) | (simp; omega) | omega) _)))

theorem ubad_any (s : ByteArray) (w : World) : Calls Try.prog 4 #[.string s] w (Gives (.bool true) w) := by
  by_cases h : 200 < s.size
  · exact ubad_long s w h
  by_cases h1 : goesN s < s.size
  · exact ubad_a s w (by omega) h1
  have hg := (goesN_is s).1
  by_cases h2 : stateAt s (goesN s) = 0
  · exact ubad_c s w (by omega) (by omega) h2
  · exact ubad_b s w (by omega) (by omega) h2

set_option maxRecDepth 100000 in
theorem utfBad_lifted (os : Os) (started : os.Started) (H : Type) (enc : TypeId × Value → H) :
    ReturnsInHanded {} Try.checked os 4 .any (Rows.utfBadSpec.pre6 enc Try.prog Try.f4 Rows.utfBadRow.domain false) (Rows.utfBadSpec.post enc Try.prog Try.f4 false true false false) := by
  refine law_lift (C := Try.checked) (tb := 4) Try.own Try.laidOut started (by kernel_rfl) Try.func4
    (ChangeSpec.witness6 (enc := enc) (C := Try.checked) false ⟨#[], #[.string ⟨#[]⟩], []⟩ 8 (by kernel_rfl) (by kernel_rfl) (by kernel_rfl) (by kernel_rfl))
    rfl Try.underlying4 (by intro t ht; have ht' : t ∈ [9] := ht; simp at ht'; subst ht'; exact ⟨by kernel_rfl, of_decide_eq_true (by kernel_rfl)⟩) rfl
    (fun ds h => match ds, h with | [_], _ => rfl) ?_
  intro W base args ds ps hh
  obtain ⟨v, d, p, rfl, hv, h0⟩ := handed_one Try.params4 hh
  obtain ⟨s, rfl, _⟩ := open_text hv h0
  exact ubad_any s W

theorem utfBad_holds : Rows.UtfBadSaid :=
  OpenClaim.holds_of_wide 4 Try.f4 rfl rfl rfl rfl rfl rfl rfl ⟨rfl, rfl, rfl, rfl, rfl⟩ rfl rfl rfl rfl rfl (by kernel_rfl) Try.func4 (by kernel_rfl)
    (of_decide_eq_true (by kernel_rfl)) (by unfold Func.isWrapper; first | (rw [if_pos (by decide +kernel)]; kernel_rfl) | (rw [if_neg (by decide +kernel)]; exact ⟨rfl, rfl⟩))
    (fun os started H enc _ => utfBad_lifted os started H enc)
#print axioms utfBad_holds

end Go.Proofs.Ytpjebljobdhmjaa
