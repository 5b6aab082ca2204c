/-
  The law DialectParses returns true for every text. Conditions: none.
-/
import Derived.Test.YtcnahofojjkacaaRows
import Derived.Test.YtcnahofojjkacaaOpens
import Derived.Test.YtcnahofojjkacaaRefP
namespace Go.Proofs.Ytcnahofojjkacaa
open Go.ChangeShapes Go.WideShapes Go.ChangeAt Go.RowKit Go.Joins
open Go.ChangeMaps (open_string shut_string)

theorem refParse_len (s : ByteArray) (w : World) (h : s.size < 8 ∨ 12 < s.size) :
    Calls Try.prog 20 #[.string s] w (Gives (.tuple #[.agg #[.int .i64 0, .int .i64 0, .int .i64 0], .bool false]) w) := by
  apply Gives.of
  by_cases h8 : s.size < 8
  · clear h
    go_enter Try.func20, Try.ntmps20
    go_wp2
    refine bodyPost_ret (v := .tuple #[.agg #[.int .i64 0, .int .i64 0, .int .i64 0], .bool false]) (by simp (maxDischargeDepth := 8) [results, Try.results20, go_sem, List.getD_cons_zero]) rfl ⟨rfl, ?_⟩
    (repeat (first | (with_reducible exact Below.refl _ _) | (with_reducible refine later_below _ ?_) | (with_reducible refine alloc_below ?_ _) | (with_reducible refine Below.drew ?_) | (refine Below.setCell ?_ (by first | exact Nat.le_refl _ | (simp; done) | (simp; omega) | omega) _)))
  · have h12 : 12 < s.size := h.resolve_left h8
    clear h
    go_enter Try.func20, Try.ntmps20
    go_wp2
    refine bodyPost_ret (v := .tuple #[.agg #[.int .i64 0, .int .i64 0, .int .i64 0], .bool false]) (by simp (maxDischargeDepth := 8) [results, Try.results20, go_sem, List.getD_cons_zero]) rfl ⟨rfl, ?_⟩
    (repeat (first | (with_reducible exact Below.refl _ _) | (with_reducible refine later_below _ ?_) | (with_reducible refine alloc_below ?_ _) | (with_reducible refine Below.drew ?_) | (refine Below.setCell ?_ (by first | exact Nat.le_refl _ | (simp; done) | (simp; omega) | omega) _)))

theorem refP_no (s : ByteArray) (w : World) (h : NoForm s) : Calls Try.prog 20 #[.string s] w (Gives (.tuple #[.agg #[.int .i64 0, .int .i64 0, .int .i64 0], .bool false]) w) := by
  by_cases hs : 8 ≤ s.size ∧ s.size ≤ 12
  · refine (refParse_any s w hs.1 hs.2).mono ?_
    rintro e w' ⟨hh, hb⟩
    rcases hh with ⟨p, q, n, hp, hq, hn, he, _⟩ | ⟨_, he⟩
    · exact absurd he (h p q n hp hq hn)
    · exact ⟨he, hb⟩
  · exact refParse_len s w (by omega)

theorem refP_yes (p q : Nat) (n : Int) (w : World) (hp : p < 256) (hq : q < 256) (hn : n = 1 ∨ n = 2 ∨ n = 3) :
    Calls Try.prog 20 #[.string (dialT p q n)] w (Gives (.tuple #[.agg #[.int .i64 p, .int .i64 q, .int .i64 n], .bool true]) w) := by
  have hs := dialT_size p q n hn
  refine (refParse_any _ w hs.1 hs.2).mono ?_
  rintro e w' ⟨hh, hb⟩
  rcases hh with ⟨p', q', n', hp', hq', hn', he, hv⟩ | ⟨h, _⟩
  · obtain ⟨rfl, rfl, rfl⟩ := dialT_inj p q p' q' n n' hp hq hp' hq' hn hn' he
    exact ⟨hv, hb⟩
  · exact absurd rfl (h p q n hp hq hn)

theorem parts_of (p q : Nat) (n : Int) (hp : p < 256) (hq : q < 256) (hn : n = 1 ∨ n = 2 ∨ n = 3) : Parts (dialT p q n) p q n := by
  obtain ⟨p', q', n', hp', hq', hn', he, hP⟩ := form_is _ (is_form p q n hp hq hn)
  obtain ⟨rfl, rfl, rfl⟩ := dialT_inj p q p' q' n n' hp hq hp' hq' hn hn' he
  exact hP

theorem formB_no (s : ByteArray) (h : NoForm s) : formB s = false := by
  cases hf : formB s
  · rfl
  · obtain ⟨p, q, n, hp, hq, hn, he, _⟩ := form_is s hf
    exact absurd he (h p q n hp hq hn)

theorem parses_long (s : ByteArray) (w : World) (h : 60 < s.size) : Calls Try.prog 5 #[.string s] w (Gives (.bool true) w) := by
  apply Gives.of
  go_enter Try.func5, Try.ntmps5
  go_wp2_with (go_at_call 12; (first | (with_reducible refine (later_call _ (awake_any _)).mono ?_) | (with_reducible refine (call_later (awake_any _)).mono ?_)); rintro e w' ⟨rfl, x, rfl⟩)
  go_ret
  refine ⟨rfl, ?_⟩
  (repeat (first | (with_reducible exact Below.refl _ _) | (with_reducible refine later_below _ ?_) | (with_reducible refine alloc_below ?_ _) | (with_reducible refine Below.drew ?_) | (refine Below.setCell ?_ (by first | exact Nat.le_refl _ | (simp; done) | (simp; omega) | omega) _)))

theorem parses_no (s : ByteArray) (w : World) (h : s.size ≤ 60) (hn : NoForm s) : Calls Try.prog 5 #[.string s] w (Gives (.bool true) w) := by
  apply Gives.of
  have h1 := Lib.hid (fun W => parse_no s W (by unfold maxLen; omega) (formB_no s hn))
  have h2 := Lib.hid (fun W => refP_no s W hn)
  clear hn
  have hcell := fun (W : World) (x : Later W) => x.cell
  go_enter Try.func5, Try.ntmps5
  go_wp2_with (first | ((go_at_call 19; (first | (with_reducible refine (later_call _ (h1.out _)).mono ?_) | (with_reducible refine (call_later (h1.out _)).mono ?_)); rintro e w' ⟨rfl, x, rfl⟩)) | ((go_at_call 20; (first | (with_reducible refine (later_call _ (h2.out _)).mono ?_) | (with_reducible refine (call_later (h2.out _)).mono ?_)); rintro e w' ⟨rfl, x, rfl⟩); have hz := Later.lt1 x; have hz' := Nat.lt_succ_of_lt hz) | (go_at_call 12; (first | (with_reducible refine (later_call _ (awake_any _)).mono ?_) | (with_reducible refine (call_later (awake_any _)).mono ?_)); rintro e w' ⟨rfl, x, rfl⟩))
  go_ret
  refine ⟨rfl, ?_⟩
  (repeat (first | (with_reducible exact Below.refl _ _) | (with_reducible refine later_below _ ?_) | (with_reducible refine alloc_below ?_ _) | (with_reducible refine Below.drew ?_) | (refine Below.setCell ?_ (by first | exact Nat.le_refl _ | (simp; done) | (simp; omega) | omega) _)))

set_option maxRecDepth 100000 in
theorem parses_bad (s : ByteArray) (p q : Nat) (n : Int) (w : World) (hp : p < 256) (hq : q < 256) (hn : n = 1 ∨ n = 2 ∨ n = 3) (hk : okB p q n = false) (hS : s = dialT p q n) (hs : 8 ≤ s.size ∧ s.size ≤ 12) :
    Calls Try.prog 5 #[.string s] w (Gives (.bool true) w) := by
  apply Gives.of
  have h1 : Hid (∀ W, Calls Try.prog 19 #[.string s] W (Gives (.tuple #[.agg #[.int .u8 0, .int .u8 0, .int .i64 0], .int .i64 1]) W)) := fun W => parse_bad s p q n W (by unfold maxLen; omega) (hS ▸ parts_of p q n hp hq hn) hk
  have h2 : Hid (∀ W, Calls Try.prog 20 #[.string s] W (Gives (.tuple #[.agg #[.int .i64 p, .int .i64 q, .int .i64 n], .bool true]) W)) := by rw [hS]; exact fun W => refP_yes p q n W hp hq hn
  have h3 : Hid (∀ W, Calls Try.prog 8 #[.agg #[.int .i64 p, .int .i64 q, .int .i64 n]] W (Gives (.bool false) W)) := fun W => hk ▸ right_any p q n W
  have hcell := fun (W : World) (x : Later W) => x.cell
  clear hn hS
  go_enter Try.func5, Try.ntmps5
  go_wp2_with (first | ((go_at_call 19; (first | (with_reducible refine (later_call _ (h1.out _)).mono ?_) | (with_reducible refine (call_later (h1.out _)).mono ?_)); rintro e w' ⟨rfl, x, rfl⟩)) | ((go_at_call 20; (first | (with_reducible refine (later_call _ (h2.out _)).mono ?_) | (with_reducible refine (call_later (h2.out _)).mono ?_)); rintro e w' ⟨rfl, x, rfl⟩); have hz := Later.lt1 x; have hz' := Nat.lt_succ_of_lt hz) | (go_at_call 12; (first | (with_reducible refine (later_call _ (awake_any _)).mono ?_) | (with_reducible refine (call_later (awake_any _)).mono ?_)); rintro e w' ⟨rfl, x, rfl⟩) | (go_at_call 8; (first | (with_reducible refine (later_call _ (h3.out _)).mono ?_) | (with_reducible refine (call_later (h3.out _)).mono ?_)); rintro e w' ⟨rfl, x, rfl⟩))
  go_ret
  refine ⟨rfl, ?_⟩
  (repeat (first | (with_reducible exact Below.refl _ _) | (with_reducible refine later_below _ ?_) | (with_reducible refine alloc_below ?_ _) | (with_reducible refine Below.drew ?_) | (refine Below.setCell ?_ (by first | exact Nat.le_refl _ | (simp; done) | (simp; omega) | omega) _)))

set_option maxRecDepth 100000 in
theorem parses_yes (s : ByteArray) (p q : Nat) (n : Int) (w : World) (hp : p < 256) (hq : q < 256) (hn : n = 1 ∨ n = 2 ∨ n = 3) (hk : okB p q n = true) (hS : s = dialT p q n) (hs : 8 ≤ s.size ∧ s.size ≤ 12) :
    Calls Try.prog 5 #[.string s] w (Gives (.bool true) w) := by
  apply Gives.of
  have h1 : Hid (∀ W, Calls Try.prog 19 #[.string s] W (Gives (.tuple #[.agg #[.int .u8 p, .int .u8 q, .int .i64 n], .int .i64 0]) W)) := fun W => parse_yes s p q n W (by unfold maxLen; omega) (hS ▸ parts_of p q n hp hq hn) hk
  have h2 : Hid (∀ W, Calls Try.prog 20 #[.string s] W (Gives (.tuple #[.agg #[.int .i64 p, .int .i64 q, .int .i64 n], .bool true]) W)) := by rw [hS]; exact fun W => refP_yes p q n W hp hq hn
  have h3 : Hid (∀ W, Calls Try.prog 8 #[.agg #[.int .i64 p, .int .i64 q, .int .i64 n]] W (Gives (.bool true) W)) := fun W => hk ▸ right_any p q n W
  have h4 : Hid (∀ W, Calls Try.prog 7 #[.agg #[.int .u8 p, .int .u8 q, .int .i64 n]] W (Gives (.tuple #[.string s, .int .i64 0]) W)) := by rw [hS]; exact fun W => text_ok p q n W hp hq hk
  have hcell := fun (W : World) (x : Later W) => x.cell
  clear hn hS
  go_enter Try.func5, Try.ntmps5
  go_wp2_with (first | ((go_at_call 19; (first | (with_reducible refine (later_call _ (h1.out _)).mono ?_) | (with_reducible refine (call_later (h1.out _)).mono ?_)); rintro e w' ⟨rfl, x, rfl⟩)) | ((go_at_call 20; (first | (with_reducible refine (later_call _ (h2.out _)).mono ?_) | (with_reducible refine (call_later (h2.out _)).mono ?_)); rintro e w' ⟨rfl, x, rfl⟩); have hz := Later.lt1 x; have hz' := Nat.lt_succ_of_lt hz) | (go_at_call 8; (first | (with_reducible refine (later_call _ (h3.out _)).mono ?_) | (with_reducible refine (call_later (h3.out _)).mono ?_)); rintro e w' ⟨rfl, x, rfl⟩) | (go_at_call 7; (first | (with_reducible refine (later_call _ (h4.out _)).mono ?_) | (with_reducible refine (call_later (h4.out _)).mono ?_)); rintro e w' ⟨rfl, x, rfl⟩))
  refine wp_region_anch _ (by kernel_rfl) (by kernel_rfl) ?_
  repeat (go_big_quiet_step (first | (go_at_call 9; exact later_call _ (ref_any _ _ _ _ hp hq)) | (go_at_call 12; exact later_call _ (awake_any _))))
  refine wpQuiet_nil ?_
  rintro w' ⟨y, rfl⟩
  go_wp2
  go_ret
  refine ⟨rfl, ?_⟩
  (repeat (first | (with_reducible exact Below.refl _ _) | (with_reducible refine later_below _ ?_) | (with_reducible refine alloc_below ?_ _) | (with_reducible refine Below.drew ?_) | (refine Below.setCell ?_ (by first | exact Nat.le_refl _ | (simp; done) | (simp; omega) | omega) _)))

theorem parses_any (s : ByteArray) (w : World) : Calls Try.prog 5 #[.string s] w (Gives (.bool true) w) := by
  by_cases hl : 60 < s.size
  · exact parses_long s w hl
  by_cases hf : NoForm s
  · exact parses_no s w (by omega) hf
  have hh : ∃ (p q : Nat) (n : Int), p < 256 ∧ q < 256 ∧ (n = 1 ∨ n = 2 ∨ n = 3) ∧ s = dialT p q n := by
    refine Classical.byContradiction fun hc => hf fun p q n hp hq hn hs => hc ⟨p, q, n, hp, hq, hn, hs⟩
  obtain ⟨p, q, n, hp, hq, hn, hs⟩ := hh
  have hz := dialT_size p q n hn
  rw [← hs] at hz
  cases hk : okB p q n
  · exact parses_bad s p q n w hp hq hn hk hs hz
  · exact parses_yes s p q n w hp hq hn hk hs hz

set_option maxRecDepth 100000 in
theorem dialectParses_lifted (os : Os) (started : os.Started) (H : Type) (enc : TypeId × Value → H) :
    ReturnsInHanded {} Try.checked os 5 .any (Rows.dialectParsesSpec.pre6 enc Try.prog Try.f5 Rows.dialectParsesRow.domain false) (Rows.dialectParsesSpec.post enc Try.prog Try.f5 false true false false) := by
  refine law_lift (C := Try.checked) (tb := 4) Try.own Try.laidOut started (by kernel_rfl) Try.func5
    (ChangeSpec.witness6 (enc := enc) (C := Try.checked) false ⟨#[], #[.string ⟨#[]⟩], []⟩ 8 (by kernel_rfl) (by kernel_rfl) (by kernel_rfl) (by kernel_rfl))
    rfl Try.underlying4 (by intro t ht; have ht' : t ∈ [9] := ht; simp at ht'; subst ht'; exact ⟨by kernel_rfl, of_decide_eq_true (by kernel_rfl)⟩) rfl
    (fun ds h => match ds, h with | [_], _ => rfl) ?_
  intro W base args ds ps hh
  obtain ⟨v, d, p, rfl, hv, h0⟩ := handed_one Try.params5 hh
  obtain ⟨s, rfl, _, _, _⟩ := open_string Try.underlying9 hv h0
  exact parses_any s W

theorem dialectParses_holds : Rows.DialectParsesSaid :=
  OpenClaim.holds_of_wide 5 Try.f5 rfl rfl rfl rfl rfl rfl rfl ⟨rfl, rfl, rfl, rfl, rfl⟩ rfl rfl rfl rfl rfl (by kernel_rfl) Try.func5 (by kernel_rfl)
    (of_decide_eq_true (by kernel_rfl)) (by unfold Func.isWrapper; first | (rw [if_pos (by decide +kernel)]; kernel_rfl) | (rw [if_neg (by decide +kernel)]; exact ⟨rfl, rfl⟩))
    (fun os started H enc _ => dialectParses_lifted os started H enc)
#print axioms dialectParses_holds

end Go.Proofs.Ytcnahofojjkacaa
