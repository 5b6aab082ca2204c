/-
  The law DialectBack returns true for every two dialects. Conditions: none.
-/
import Derived.Test.YtcnahofojjkacaaRows
import Derived.Test.YtcnahofojjkacaaOpens
import Derived.Test.YtcnahofojjkacaaDialM
namespace Go.Proofs.Ytcnahofojjkacaa
open Go.ChangeShapes Go.WideShapes Go.ChangeAt Go.RowKit Go.Joins

theorem back_no1 (p q p' q' : Nat) (n n' : Int) (w : World) (hp' : p' < 256) (hq' : q' < 256) (hk : okB p q n = false) :
    Calls Try.prog 6 #[.agg #[.int .u8 p, .int .u8 q, .int .i64 n], .agg #[.int .u8 p', .int .u8 q', .int .i64 n']] w (Gives (.bool true) w) := by
  apply Gives.of
  have hcell := fun (W : World) (x : Later W) => x.cell
  have h1 := Lib.hid (fun W => text_no p q n W hk)
  cases hk' : okB p' q' n'
  · have h2 := Lib.hid (fun W => text_no p' q' n' W hk')
    go_enter Try.func6, Try.ntmps6
    go_wp2_with (first | (go_at_call 7; (first | (with_reducible refine (later_call _ (h1.out _)).mono ?_) | (with_reducible refine (call_later (h1.out _)).mono ?_)); rintro e w' ⟨rfl, x, rfl⟩) | (go_at_call 7; (first | (with_reducible refine (later_call _ (h2.out _)).mono ?_) | (with_reducible refine (call_later (h2.out _)).mono ?_)); rintro e w' ⟨rfl, x, rfl⟩) | (go_at_call 12; (first | (with_reducible refine (later_call _ (awake_any _)).mono ?_) | (with_reducible refine (call_later (awake_any _)).mono ?_)); rintro e w' ⟨rfl, x, rfl⟩))
    go_ret
    refine ⟨rfl, ?_⟩
    (repeat (first | (with_reducible exact Below.refl _ _) | (with_reducible refine later_below _ ?_) | (with_reducible refine alloc_below ?_ _) | (with_reducible refine Below.drew ?_) | (refine Below.setCell ?_ (by first | exact Nat.le_refl _ | (simp; done) | (simp; omega) | omega) _)))
  · have h2 := Lib.hid (fun W => text_ok p' q' n' W hp' hq' hk')
    go_enter Try.func6, Try.ntmps6
    go_wp2_with (first | (go_at_call 7; (first | (with_reducible refine (later_call _ (h1.out _)).mono ?_) | (with_reducible refine (call_later (h1.out _)).mono ?_)); rintro e w' ⟨rfl, x, rfl⟩) | (go_at_call 7; (first | (with_reducible refine (later_call _ (h2.out _)).mono ?_) | (with_reducible refine (call_later (h2.out _)).mono ?_)); rintro e w' ⟨rfl, x, rfl⟩) | (go_at_call 12; (first | (with_reducible refine (later_call _ (awake_any _)).mono ?_) | (with_reducible refine (call_later (awake_any _)).mono ?_)); rintro e w' ⟨rfl, x, rfl⟩))
    go_ret
    refine ⟨rfl, ?_⟩
    (repeat (first | (with_reducible exact Below.refl _ _) | (with_reducible refine later_below _ ?_) | (with_reducible refine alloc_below ?_ _) | (with_reducible refine Below.drew ?_) | (refine Below.setCell ?_ (by first | exact Nat.le_refl _ | (simp; done) | (simp; omega) | omega) _)))

theorem back_no2 (p q p' q' : Nat) (n n' : Int) (w : World) (hp : p < 256) (hq : q < 256) (hk : okB p q n = true) (hk' : okB p' q' n' = false) :
    Calls Try.prog 6 #[.agg #[.int .u8 p, .int .u8 q, .int .i64 n], .agg #[.int .u8 p', .int .u8 q', .int .i64 n']] w (Gives (.bool true) w) := by
  apply Gives.of
  have hcell := fun (W : World) (x : Later W) => x.cell
  have h1 := Lib.hid (fun W => text_ok p q n W hp hq hk)
  have h2 := Lib.hid (fun W => text_no p' q' n' W hk')
  go_enter Try.func6, Try.ntmps6
  go_wp2_with (first | (go_at_call 7; (first | (with_reducible refine (later_call _ (h1.out _)).mono ?_) | (with_reducible refine (call_later (h1.out _)).mono ?_)); rintro e w' ⟨rfl, x, rfl⟩) | (go_at_call 7; (first | (with_reducible refine (later_call _ (h2.out _)).mono ?_) | (with_reducible refine (call_later (h2.out _)).mono ?_)); rintro e w' ⟨rfl, x, rfl⟩) | (go_at_call 12; (first | (with_reducible refine (later_call _ (awake_any _)).mono ?_) | (with_reducible refine (call_later (awake_any _)).mono ?_)); rintro e w' ⟨rfl, x, rfl⟩))
  go_ret
  refine ⟨rfl, ?_⟩
  (repeat (first | (with_reducible exact Below.refl _ _) | (with_reducible refine later_below _ ?_) | (with_reducible refine alloc_below ?_ _) | (with_reducible refine Below.drew ?_) | (refine Below.setCell ?_ (by first | exact Nat.le_refl _ | (simp; done) | (simp; omega) | omega) _)))

theorem parsePart (p q : Nat) (n : Int) (hp : p < 256) (hq : q < 256) (hn : n = 1 ∨ n = 2 ∨ n = 3) : Parts (dialT p q n) p q n := by
  obtain ⟨p', q', n', hp', hq', hn', he, hP⟩ := form_is _ (is_form p q n hp hq hn)
  obtain ⟨rfl, rfl, rfl⟩ := dialT_inj p q p' q' n n' hp hq hp' hq' hn hn' he
  exact hP

set_option maxRecDepth 100000 in
theorem back_same (p q : Nat) (n : Int) (w : World) (hp : p < 256) (hq : q < 256) (hk : okB p q n = true) (hn : n = 1 ∨ n = 2 ∨ n = 3) :
    Calls Try.prog 6 #[.agg #[.int .u8 p, .int .u8 q, .int .i64 n], .agg #[.int .u8 p, .int .u8 q, .int .i64 n]] w (Gives (.bool true) w) := by
  apply Gives.of
  have hcell := fun (W : World) (x : Later W) => x.cell
  have hs := dialT_size p q n hn
  have h1 := Lib.hid (fun W => text_ok p q n W hp hq hk)
  have h3 := Lib.hid (fun W => parse_yes (dialT p q n) p q n W (by unfold maxLen; omega) (parsePart p q n hp hq hn) hk)
  clear hn hs
  go_enter Try.func6, Try.ntmps6
  go_wp2_with (first | (go_at_call 7; (first | (with_reducible refine (later_call _ (h1.out _)).mono ?_) | (with_reducible refine (call_later (h1.out _)).mono ?_)); rintro e w' ⟨rfl, x, rfl⟩) | ((go_at_call 19; (first | (with_reducible refine (later_call _ (h3.out _)).mono ?_) | (with_reducible refine (call_later (h3.out _)).mono ?_)); rintro e w' ⟨rfl, x, rfl⟩); have hz := Later.lt2 x; have hz1 := Nat.lt_succ_of_lt hz.1; have hz2 := Nat.lt_succ_of_lt hz.2) | (go_at_call 12; (first | (with_reducible refine (later_call _ (awake_any _)).mono ?_) | (with_reducible refine (call_later (awake_any _)).mono ?_)); rintro e w' ⟨rfl, x, rfl⟩))
  go_ret
  refine ⟨rfl, ?_⟩
  (repeat (first | (with_reducible exact Below.refl _ _) | (with_reducible refine later_below _ ?_) | (with_reducible refine alloc_below ?_ _) | (with_reducible refine Below.drew ?_) | (refine Below.setCell ?_ (by first | exact Nat.le_refl _ | (simp; done) | (simp; omega) | omega) _)))

set_option maxRecDepth 100000 in
theorem back_other (p q p' q' : Nat) (n n' : Int) (w : World) (hp : p < 256) (hq : q < 256) (hk : okB p q n = true) (hn : n = 1 ∨ n = 2 ∨ n = 3) (hp' : p' < 256) (hq' : q' < 256) (hk' : okB p' q' n' = true)
    (hne : ((dialT p q n).toList == (dialT p' q' n').toList) = false) :
    Calls Try.prog 6 #[.agg #[.int .u8 p, .int .u8 q, .int .i64 n], .agg #[.int .u8 p', .int .u8 q', .int .i64 n']] w (Gives (.bool true) w) := by
  apply Gives.of
  have hcell := fun (W : World) (x : Later W) => x.cell
  have hs := dialT_size p q n hn
  have h1 := Lib.hid (fun W => text_ok p q n W hp hq hk)
  have h2 := Lib.hid (fun W => text_ok p' q' n' W hp' hq' hk')
  have h3 := Lib.hid (fun W => parse_yes (dialT p q n) p q n W (by unfold maxLen; omega) (parsePart p q n hp hq hn) hk)
  clear hn hs
  go_enter Try.func6, Try.ntmps6
  go_wp2_with (first | (go_at_call 7; (first | (with_reducible refine (later_call _ (h1.out _)).mono ?_) | (with_reducible refine (call_later (h1.out _)).mono ?_)); rintro e w' ⟨rfl, x, rfl⟩) | (go_at_call 7; (first | (with_reducible refine (later_call _ (h2.out _)).mono ?_) | (with_reducible refine (call_later (h2.out _)).mono ?_)); rintro e w' ⟨rfl, x, rfl⟩) | ((go_at_call 19; (first | (with_reducible refine (later_call _ (h3.out _)).mono ?_) | (with_reducible refine (call_later (h3.out _)).mono ?_)); rintro e w' ⟨rfl, x, rfl⟩); have hz := Later.lt2 x; have hz1 := Nat.lt_succ_of_lt hz.1; have hz2 := Nat.lt_succ_of_lt hz.2) | (go_at_call 12; (first | (with_reducible refine (later_call _ (awake_any _)).mono ?_) | (with_reducible refine (call_later (awake_any _)).mono ?_)); rintro e w' ⟨rfl, x, rfl⟩))
  · exfalso
    have e1 : p = p' := by omega
    have e2 : q = q' := by omega
    have e3 : n = n' := by assumption
    subst e1 e2 e3
    simp at hne
  all_goals
    go_ret
    refine ⟨rfl, ?_⟩
    (repeat (first | (with_reducible exact Below.refl _ _) | (with_reducible refine later_below _ ?_) | (with_reducible refine alloc_below ?_ _) | (with_reducible refine Below.drew ?_) | (refine Below.setCell ?_ (by first | exact Nat.le_refl _ | (simp; done) | (simp; omega) | omega) _)))

theorem okB_word {p q n : Int} (h : okB p q n = true) : n = 1 ∨ n = 2 ∨ n = 3 := by unfold okB at h; simp at h; omega

theorem back_any (p q p' q' : Nat) (n n' : Int) (w : World) (hp : p < 256) (hq : q < 256) (hp' : p' < 256) (hq' : q' < 256) :
    Calls Try.prog 6 #[.agg #[.int .u8 p, .int .u8 q, .int .i64 n], .agg #[.int .u8 p', .int .u8 q', .int .i64 n']] w (Gives (.bool true) w) := by
  cases hk : okB p q n
  · exact back_no1 p q p' q' n n' w hp' hq' hk
  cases hk' : okB p' q' n'
  · exact back_no2 p q p' q' n n' w hp hq hk hk'
  by_cases he : p = p' ∧ q = q' ∧ n = n'
  · obtain ⟨rfl, rfl, rfl⟩ := he
    exact back_same p q n w hp hq hk (okB_word hk)
  · refine back_other p q p' q' n n' w hp hq hk (okB_word hk) hp' hq' hk' ?_
    rw [ByteArray.toList_eq, ByteArray.toList_eq]
    simp only [beq_eq_false_iff_ne, ne_eq]
    intro h
    exact he (dialT_inj p q p' q' n n' hp hq hp' hq' (okB_word hk) (okB_word hk') (bytes_ext h))

set_option maxRecDepth 100000 in
theorem dialectBack_lifted (os : Os) (started : os.Started) (H : Type) (enc : TypeId × Value → H) :
    ReturnsInHanded {} Try.checked os 6 .any (Rows.dialectBackSpec.pre6 enc Try.prog Try.f6 Rows.dialectBackRow.domain false) (Rows.dialectBackSpec.post enc Try.prog Try.f6 false true false false) := by
  refine law_lift (C := Try.checked) (tb := 4) Try.own Try.laidOut started (by kernel_rfl) Try.func6
    (ChangeSpec.witness6 (enc := enc) (C := Try.checked) false ⟨#[], #[.agg #[.int .u8 0, .int .u8 0, .int .i64 0], .agg #[.int .u8 0, .int .u8 0, .int .i64 0]], []⟩ 8 (by kernel_rfl) (by kernel_rfl) (by kernel_rfl) (by kernel_rfl))
    rfl Try.underlying4 (by intro t ht; have ht' : t ∈ [23, 23] := ht; simp at ht'; rcases ht' with rfl <;> exact ⟨by kernel_rfl, of_decide_eq_true (by kernel_rfl)⟩) rfl
    (fun ds h => match ds, h with | [_, _], _ => rfl) ?_
  intro W base args ds ps hh
  obtain ⟨v, v', d, d', p, p', rfl, hv, hv', h0, h1⟩ := handed_two Try.params6 hh
  obtain ⟨a, b, n, ha, hb, rfl⟩ := open_dialect hv h0
  obtain ⟨a', b', n', ha', hb', rfl⟩ := open_dialect hv' h1
  exact back_any a b a' b' n n' W ha hb ha' hb'

theorem dialectBack_holds : Rows.DialectBackSaid :=
  OpenClaim.holds_of_wide 6 Try.f6 rfl rfl rfl rfl rfl rfl rfl ⟨rfl, rfl, rfl, rfl, rfl⟩ rfl rfl rfl rfl rfl (by kernel_rfl) Try.func6 (by kernel_rfl)
    (of_decide_eq_true (by kernel_rfl)) (by unfold Func.isWrapper; first | (rw [if_pos (by decide +kernel)]; kernel_rfl) | (rw [if_neg (by decide +kernel)]; exact ⟨rfl, rfl⟩))
    (fun os started H enc _ => dialectBack_lifted os started H enc)
#print axioms dialectBack_holds

end Go.Proofs.Ytcnahofojjkacaa
