/-
  What must be quoted, laid bare, is not read as it was: the law NeedMust returns true for every dialect and field.
  Conditions: none.
-/
import Derived.Test.YtmaoeeonpedllaaRows
import Derived.Test.YtmaoeeonpedllaaOpenD
import Derived.Test.YtmaoeeonpedllaaNdE
import Derived.Deep.RegionHeld
import Derived.Deep.DeepCutAuto
namespace Go.Proofs.Ytmaoeeonpedllaa
open Go.RowKit Nd

theorem must_long (p q : Nat) (n : Int) (f : ByteArray) (w : World) (hf : 200 < f.size) : Calls Try.prog 6 #[.agg #[.int .u8 p, .int .u8 q, .int .i64 n], .string f] w (Gives (.bool true) w) := by
  apply Gives.of
  have hcell := fun (W : World) (x : Later W) => x.cell
  have HA := Lib.hid awake_any
  have h1 : (200 : Int) < (f.size : Int) := by omega
  have h2 : decide ((200 : Int) < (f.size : Int)) = true := decide_eq_true h1
  clear hf
  go_enter Try.func6, Try.ntmps6
  go_wp2_with ((go_at_call 9; (first | (with_reducible refine (later_call _ (HA.out _)).mono ?_) | (with_reducible refine (call_later (HA.out _)).mono ?_)); rintro e w' ⟨rfl, x, rfl⟩))
  go_ret
  refine ⟨rfl, ?_⟩
  (repeat (first | (with_reducible exact Below.refl _ _) | (with_reducible refine later_below _ ?_) | (with_reducible refine alloc_below ?_ _) | (with_reducible refine Below.drew ?_) | (refine Below.setCell ?_ (by first | exact Nat.le_refl _ | (simp; done) | (simp; omega) | omega) _)))

theorem must_bad (p q : Nat) (n : Int) (f : ByteArray) (w : World) (hp : p < 256) (hq : q < 256) (hf : ¬ 200 < f.size) (hno : okB p q n = false ∨ Utf.wholeN f < f.size ∨ whyN p q f true true = 0) : Calls Try.prog 6 #[.agg #[.int .u8 p, .int .u8 q, .int .i64 n], .string f] w (Gives (.bool true) w) := by
  apply Gives.of
  have hcell := fun (W : World) (x : Later W) => x.cell
  have HA := Lib.hid awake_any
  have HF := Lib.hid (fun W => ref_any p q n W hp hq)
  have HR := Lib.hid (fun W => right_any p q n W)
  have HW := Lib.hid (fun W => Utf.refWhole_any f W (by unfold maxLen; omega))
  have HN := Lib.hid (fun W => need_any p q n f true true W (by omega) hp hq)
  have h1 : ¬ (200 : Int) < (f.size : Int) := by omega
  have h2 : decide ((200 : Int) < (f.size : Int)) = false := decide_eq_false h1
  obtain ⟨B, hB⟩ : ∃ B, okB p q n = B := ⟨_, rfl⟩
  obtain ⟨M, hM⟩ : ∃ M, Utf.wholeN f = M := ⟨_, rfl⟩
  obtain ⟨V, hV⟩ : ∃ V, whyN p q f true true = V := ⟨_, rfl⟩
  rw [hB] at HR hno
  rw [hM] at HW hno
  rw [hV] at HN hno
  clear hp hq hB hM hV
  by_cases c1 : B = false
  · subst c1
    clear hf hno
    go_enter Try.func6, Try.ntmps6
    go_wp2_with (first | (go_at_call 9; (first | (with_reducible refine (later_call _ (HA.out _)).mono ?_) | (with_reducible refine (call_later (HA.out _)).mono ?_)); rintro e w' ⟨rfl, x, rfl⟩) | (go_at_call 8; (first | (with_reducible refine (later_call _ (HF.out _)).mono ?_) | (with_reducible refine (call_later (HF.out _)).mono ?_)); rintro e w' ⟨rfl, x, rfl⟩) | (go_at_call 7; (first | (with_reducible refine (later_call _ (HR.out _)).mono ?_) | (with_reducible refine (call_later (HR.out _)).mono ?_)); rintro e w' ⟨rfl, x, rfl⟩))
    go_ret
    refine ⟨rfl, ?_⟩
    (repeat (first | (with_reducible exact Below.refl _ _) | (with_reducible refine later_below _ ?_) | (with_reducible refine alloc_below ?_ _) | (with_reducible refine Below.drew ?_) | (refine Below.setCell ?_ (by first | exact Nat.le_refl _ | (simp; done) | (simp; omega) | omega) _)))
  · obtain rfl : B = true := by cases B <;> simp_all
    by_cases c2 : M < f.size
    · have k1 : (M : Int) < (f.size : Int) := by omega
      have k2 : decide ((M : Int) < (f.size : Int)) = true := decide_eq_true k1
      clear hf hno c1 c2
      go_enter Try.func6, Try.ntmps6
      go_wp2_with (first | (go_at_call 9; (first | (with_reducible refine (later_call _ (HA.out _)).mono ?_) | (with_reducible refine (call_later (HA.out _)).mono ?_)); rintro e w' ⟨rfl, x, rfl⟩) | (go_at_call 8; (first | (with_reducible refine (later_call _ (HF.out _)).mono ?_) | (with_reducible refine (call_later (HF.out _)).mono ?_)); rintro e w' ⟨rfl, x, rfl⟩) | (go_at_call 7; (first | (with_reducible refine (later_call _ (HR.out _)).mono ?_) | (with_reducible refine (call_later (HR.out _)).mono ?_)); rintro e w' ⟨rfl, x, rfl⟩) | (go_at_call 16; (first | (with_reducible refine (later_call _ (HW.out _)).mono ?_) | (with_reducible refine (call_later (HW.out _)).mono ?_)); rintro e w' ⟨rfl, x, rfl⟩))
      go_ret
      refine ⟨rfl, ?_⟩
      (repeat (first | (with_reducible exact Below.refl _ _) | (with_reducible refine later_below _ ?_) | (with_reducible refine alloc_below ?_ _) | (with_reducible refine Below.drew ?_) | (refine Below.setCell ?_ (by first | exact Nat.le_refl _ | (simp; done) | (simp; omega) | omega) _)))
    · have k1 : ¬ (M : Int) < (f.size : Int) := by omega
      have k2 : decide ((M : Int) < (f.size : Int)) = false := decide_eq_false k1
      obtain rfl : V = 0 := by rcases hno with h | h | h; cases h; exact absurd h c2; exact h
      clear hf hno c1 c2
      go_enter Try.func6, Try.ntmps6
      go_wp2_with (first | (go_at_call 9; (first | (with_reducible refine (later_call _ (HA.out _)).mono ?_) | (with_reducible refine (call_later (HA.out _)).mono ?_)); rintro e w' ⟨rfl, x, rfl⟩) | (go_at_call 8; (first | (with_reducible refine (later_call _ (HF.out _)).mono ?_) | (with_reducible refine (call_later (HF.out _)).mono ?_)); rintro e w' ⟨rfl, x, rfl⟩) | (go_at_call 7; (first | (with_reducible refine (later_call _ (HR.out _)).mono ?_) | (with_reducible refine (call_later (HR.out _)).mono ?_)); rintro e w' ⟨rfl, x, rfl⟩) | (go_at_call 16; (first | (with_reducible refine (later_call _ (HW.out _)).mono ?_) | (with_reducible refine (call_later (HW.out _)).mono ?_)); rintro e w' ⟨rfl, x, rfl⟩) | (go_at_call 13; (first | (with_reducible refine (later_call _ (HN.out _)).mono ?_) | (with_reducible refine (call_later (HN.out _)).mono ?_)); rintro e w' ⟨rfl, x, rfl⟩))
      go_ret
      refine ⟨rfl, ?_⟩
      (repeat (first | (with_reducible exact Below.refl _ _) | (with_reducible refine later_below _ ?_) | (with_reducible refine alloc_below ?_ _) | (with_reducible refine Below.drew ?_) | (refine Below.setCell ?_ (by first | exact Nat.le_refl _ | (simp; done) | (simp; omega) | omega) _)))

set_option maxHeartbeats 4000000 in
theorem must_main (p q : Nat) (n : Int) (f : ByteArray) (w : World) (hp : p < 256) (hq : q < 256) (hf : ¬ 200 < f.size) (hok : okB p q n = true) (hw : ¬ Utf.wholeN f < f.size) (hy : whyN p q f true true ≠ 0) : Calls Try.prog 6 #[.agg #[.int .u8 p, .int .u8 q, .int .i64 n], .string f] w (Gives (.bool true) w) := by
  apply Gives.of
  have hcell := fun (W : World) (x : Later W) => x.cell
  have HA := Lib.hid awake_any
  have HF := Lib.hid (fun W => ref_any p q n W hp hq)
  have HR := Lib.hid (fun W => hok ▸ right_any p q n W)
  have HW := Lib.hid (fun W => Utf.refWhole_any f W (by unfold maxLen; omega))
  have HN := Lib.hid (fun W => decide_eq_true hy ▸ need_any p q n f true true W (by omega) hp hq)
  have HE := Lib.hid (fun W => end_any p q n W)
  have hno := must_no (l := wLim) hok (whole_of hw) hy
  have hsz := endS_size n
  obtain ⟨A0, hP⟩ := parse_wide p q n (f ++ endS n) (by rw [ByteArray.size_append]; omega) hok
  generalize recs (finU p q n wLim (Bom.stripS (f ++ endS n))) = T at hP hno
  generalize (finU p q n wLim (Bom.stripS (f ++ endS n))).ft.1 = K at hP hno
  generalize endS n = es at HE hP hsz
  have HP := Lib.hid hP
  have HNO := Lib.hid hno
  have h1 : ¬ (200 : Int) < (f.size : Int) := by omega
  have h2 : decide ((200 : Int) < (f.size : Int)) = false := decide_eq_false h1
  have h3 : f.size + es.size ≤ 9223372036854775807 := by omega
  have h3' : (f.size : Int) + (es.size : Int) ≤ 9223372036854775807 := by omega
  generalize Utf.wholeN f = M at HW hw
  have k1 : ¬ (M : Int) < (f.size : Int) := by omega
  have k2 : decide ((M : Int) < (f.size : Int)) = false := decide_eq_false k1
  clear hf hok hw hy hp hq hP hno hsz
  go_enter Try.func6, Try.ntmps6
  go_upto_region 4 with (first | (go_at_call 9; (first | (with_reducible refine (later_call _ (HA.out _)).mono ?_) | (with_reducible refine (call_later (HA.out _)).mono ?_)); rintro e w' ⟨rfl, x, rfl⟩) | (go_at_call 8; (first | (with_reducible refine (later_call _ (HF.out _)).mono ?_) | (with_reducible refine (call_later (HF.out _)).mono ?_)); rintro e w' ⟨rfl, x, rfl⟩) | (go_at_call 7; (first | (with_reducible refine (later_call _ (HR.out _)).mono ?_) | (with_reducible refine (call_later (HR.out _)).mono ?_)); rintro e w' ⟨rfl, x, rfl⟩) | (go_at_call 16; (first | (with_reducible refine (later_call _ (HW.out _)).mono ?_) | (with_reducible refine (call_later (HW.out _)).mono ?_)); rintro e w' ⟨rfl, x, rfl⟩) | (go_at_call 13; (first | (with_reducible refine (later_call _ (HN.out _)).mono ?_) | (with_reducible refine (call_later (HN.out _)).mono ?_)); rintro e w' ⟨rfl, x, rfl⟩))
  have hx1 := x.lt1
  have hbd : Box x.w w.heap.size 23 #[.int .u8 p, .int .u8 q, .int .i64 n] := (Box.new w _ _).below x.below (by simp)
  have hd := hbd.alloc (.cells #[.int .i64 2147483648, .int .i64 2147483648, .int .i64 2147483648, .int .i64 0] 42)
  have hlb := Box.new x.w 42 #[.int .i64 2147483648, .int .i64 2147483648, .int .i64 2147483648, .int .i64 0]
  have HB1 := Lib.hid (alloc_below x.end1 (.cells #[.int .i64 2147483648, .int .i64 2147483648, .int .i64 2147483648, .int .i64 0] 42))
  obtain ⟨db, hdb⟩ : ∃ db, w.heap.size = db := ⟨_, rfl⟩
  obtain ⟨lb, hlbe⟩ : ∃ lb, x.w.heap.size = lb := ⟨_, rfl⟩
  generalize x.w.alloc (.cells #[.int .i64 2147483648, .int .i64 2147483648, .int .i64 2147483648, .int .i64 0] 42) = W1 at hd hlb HB1 ⊢
  rw [hdb] at hd ⊢
  rw [hlbe] at hlb ⊢
  have hS : PaS W1 db lb p q n W1 := ⟨hd.cell 0, hd.cell 1, hd.cell 2, hlb.cell 0, hlb.cell 1, hlb.cell 2, hlb.cell 3, hd.lt, hlb.lt, Below.refl _ _⟩
  clear hx1 hbd hd hlb hdb hlbe
  go_cut [6, 7, 8] (fun z6 z7 z8 wx => ∃ v2, z6 = v2 ∧ z7 = .int .i64 (K : Int) ∧ z8 = .int .i64 (A0 : Int) ∧ Tbl wx v2 T ∧ Below W1.heap.size W1 wx)
  case first =>
    go_region_held (fun w' => w'.cell? ⟨db, 0, none⟩ = some (.int .u8 p) ∧ w'.cell? ⟨db, 1, none⟩ = some (.int .u8 q) ∧ w'.cell? ⟨db, 2, none⟩ = some (.int .i64 n) ∧
        w'.cell? ⟨lb, 0, none⟩ = some (.int .i64 2147483648) ∧ w'.cell? ⟨lb, 1, none⟩ = some (.int .i64 2147483648) ∧ w'.cell? ⟨lb, 2, none⟩ = some (.int .i64 2147483648) ∧ w'.cell? ⟨lb, 3, none⟩ = some (.int .i64 0) ∧
        db < w'.heap.size ∧ lb < w'.heap.size ∧ Below W1.heap.size W1 w')
      (first | exact paS_next (w := W1) (db := db) (lb := lb) (p := p) (q := q) (n := n) (by assumption) x.below | exact paS_next (w := W1) (db := db) (lb := lb) (p := p) (q := q) (n := n) hS (Below.refl _ _).drew | go_keep)
      (first
        | (go_at_call 8; refine (call_later (HF.out _)).mono ?_; rintro e w' ⟨rfl, x, rfl⟩)
        | (go_at_call 18; refine (call_later (HE.out _)).mono ?_; rintro e w' ⟨rfl, x, rfl⟩)
        | (go_at_call 17; refine (HP.out _).mono ?_; rintro e w' ⟨v2, rfl, ht2, hb2⟩; obtain ⟨x, rfl⟩ : ∃ x : Later _, w' = x.w := ⟨⟨w', hb2⟩, rfl⟩; have HT2 := Lib.hid ht2; clear ht2 hb2))
    all_goals
      go_wp2_with fail
      go_meet
      exact ⟨_, rfl, rfl, rfl, HT2.out, (show PaS W1 db lb p q n _ from by assumption).2.2.2.2.2.2.2.2.2⟩
  case rest =>
    obtain ⟨v2, rfl, rfl, rfl, ht2, hbw⟩ := hcut
    have HB3 := Lib.hid (HB1.out.trans (hbw.mono HB1.out.size))
    clear hbw hS
    obtain ⟨A, c, rfl, hTc, hcm, hTA⟩ := ht2
    have HTA := Lib.hid hTA
    clear hTA
    by_cases hk : K = 0
    · have j1 : ((K : Int) == 0) = true := beq_iff_eq.2 (by omega)
      by_cases hl : T.length = 1
      · have j2 : ((T.length : Int) == 1) = true := beq_iff_eq.2 (by omega)
        obtain ⟨R, hR⟩ : ∃ R, T = [R] := by
          match T, hl with
          | [R], _ => exact ⟨R, rfl⟩
        subst hR
        obtain ⟨a, r, rfl, ha, hr⟩ := HTA.out 0 R rfl
        have ha0 : wc.cell? a = some r := ha
        have hne : ¬ R = [f] := fun e => HNO.out ⟨hk, by rw [e]⟩
        have hSt : Strs (wc.alloc (.cells #[.string f] 9)) (.slice (some ⟨wc.heap.size, 0, none⟩) 1 1) [f] := Strs.built wc 9 [f] (by unfold maxLen; simp)
        have HQ := Lib.hid (decide_eq_false hne ▸ same_any r _ R [f] (wc.alloc (.cells #[.string f] 9)) (hr.below (one_alloc _ _)) hSt)
        have HB4 := Lib.hid (alloc_below HB3.out (.cells #[.string f] 9))
        obtain ⟨rB, rD, hr0, _⟩ := hr
        subst hr0
        clear ha hne hSt hk hl hTc
        go_wp2_with (first | (go_at_call 19; refine (call_later HQ.out).mono ?_; rintro e w' ⟨rfl, x, rfl⟩) | (go_at_call 9; (first | (with_reducible refine (later_call _ (HA.out _)).mono ?_) | (with_reducible refine (call_later (HA.out _)).mono ?_)); rintro e w' ⟨rfl, x, rfl⟩))
        go_ret
        exact ⟨rfl, HB4.out.trans (x.below.mono HB4.out.size)⟩
      · have j2 : ((T.length : Int) == 1) = false := beq_eq_false_iff_ne.2 (by omega)
        clear hk hl
        go_wp2_with (go_at_call 9; (first | (with_reducible refine (later_call _ (HA.out _)).mono ?_) | (with_reducible refine (call_later (HA.out _)).mono ?_)); rintro e w' ⟨rfl, x, rfl⟩)
        go_ret
        exact ⟨rfl, HB3.out.trans (x.below.mono HB3.out.size)⟩
    · have j1 : ((K : Int) == 0) = false := beq_eq_false_iff_ne.2 (by omega)
      clear hk
      go_wp2_with (go_at_call 9; (first | (with_reducible refine (later_call _ (HA.out _)).mono ?_) | (with_reducible refine (call_later (HA.out _)).mono ?_)); rintro e w' ⟨rfl, x, rfl⟩)
      go_ret
      exact ⟨rfl, HB3.out.trans (x.below.mono HB3.out.size)⟩

theorem must_any (p q : Nat) (n : Int) (f : ByteArray) (w : World) (hp : p < 256) (hq : q < 256) : Calls Try.prog 6 #[.agg #[.int .u8 p, .int .u8 q, .int .i64 n], .string f] w (Gives (.bool true) w) := by
  by_cases h : 200 < f.size
  · exact must_long p q n f w h
  · cases hok : okB p q n
    · exact must_bad p q n f w hp hq h (.inl hok)
    · by_cases hw : Utf.wholeN f < f.size
      · exact must_bad p q n f w hp hq h (.inr (.inl hw))
      · by_cases hy : whyN p q f true true = 0
        · exact must_bad p q n f w hp hq h (.inr (.inr hy))
        · exact must_main p q n f w hp hq h hok hw hy

open Go.ChangeShapes Go.WideShapes Go.ChangeAt Go.Joins

set_option maxRecDepth 100000 in
theorem needMust_lifted (os : Os) (started : os.Started) (H : Type) (enc : TypeId × Value → H) :
    ReturnsInHanded {} Try.checked os 6 .any (Rows.needMustSpec.pre6 enc Try.prog Try.f6 Rows.needMustRow.domain false) (Rows.needMustSpec.post enc Try.prog Try.f6 false true false false) := by
  refine law_lift (C := Try.checked) (tb := 4) Try.own Try.laidOut started (by kernel_rfl) Try.func6
    (ChangeSpec.witness6 (enc := enc) (C := Try.checked) false ⟨#[], #[.agg #[.int .u8 0, .int .u8 0, .int .i64 0], .string ⟨#[]⟩], []⟩ 8 (by kernel_rfl) (by kernel_rfl) (by kernel_rfl) (by kernel_rfl))
    rfl Try.underlying4 (by intro t ht; have ht' : t ∈ [23, 9] := ht; simp at ht'; rcases ht' with rfl | rfl <;> exact ⟨by kernel_rfl, of_decide_eq_true (by kernel_rfl)⟩) rfl
    (fun ds h => match ds, h with | [_, _], _ => rfl) ?_
  intro W base args ds ps hh
  obtain ⟨v, v', d, d', p, p', rfl, hv, hv', h0, h0'⟩ := handed_two Try.params6 hh
  obtain ⟨a, b, n, ha, hb, rfl⟩ := open_dialect hv h0
  obtain ⟨s, rfl, hs⟩ := open_text hv' h0'
  exact must_any a b n s W ha hb

theorem needMust_holds : Rows.NeedMustSaid :=
  OpenClaim.holds_of_wide 6 Try.f6 rfl rfl rfl rfl rfl rfl rfl ⟨rfl, rfl, rfl, rfl, rfl⟩ rfl rfl rfl rfl rfl (by kernel_rfl) Try.func6 (by kernel_rfl)
    (of_decide_eq_true (by kernel_rfl)) (by unfold Func.isWrapper; first | (rw [if_pos (by decide +kernel)]; kernel_rfl) | (rw [if_neg (by decide +kernel)]; exact ⟨rfl, rfl⟩))
    (fun os started H enc _ => needMust_lifted os started H enc)
#print axioms needMust_holds

end Go.Proofs.Ytmaoeeonpedllaa
