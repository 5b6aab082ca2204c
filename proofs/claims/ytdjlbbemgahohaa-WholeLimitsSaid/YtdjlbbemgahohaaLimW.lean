/-
  The law WholeLimits returns true for every dialect, all limits and every text. Conditions: none.
-/
import Derived.Test.YtdjlbbemgahohaaRows
import Derived.Test.YtdjlbbemgahohaaLma
import Derived.Test.YtdjlbbemgahohaaAwk
import Derived.Test.YtdjlbbemgahohaaOpenD
import Derived.Test.YtdjlbbemgahohaaOpenL
namespace Go.Proofs.Ytdjlbbemgahohaa
open Go.ChangeShapes Go.WideShapes Go.ChangeAt Go.RowKit Go.Joins

theorem res_wide {p q : Nat} {n : Int} {l : Lim} {s : ByteArray} (h : resK p q n l s = 0) :
    resA p q n l s = 0 ∧ ((resT p q n l s).length : Int) ≤ l.rs ∧ (∀ R ∈ resT p q n l s, 0 < R.length ∧ (R.length : Int) ≤ l.fl ∧ (∀ u ∈ R, (u.size : Int) ≤ l.fs) ∧ (l.un = true → ∀ S, (resT p q n l s)[0]? = some S → R.length = S.length)) ∧
      resT p q n wLim s = resT p q n l s ∧ resK p q n wLim s = 0 ∧ resA p q n wLim s = 0 := by
  have hy : ¬ whyE p q n l ≠ 0 := fun hc => by
    unfold resK at h
    rw [if_pos hc] at h
    exact hc h
  obtain ⟨hok, hf⟩ := why_zero hy
  have hyw := whyE_wide (p := p) (q := q) (n := n) hok
  unfold resK resA resT at *
  simp only [if_neg hy, if_neg hyw] at h ⊢
  rw [finU_w (inW_fits hf) h]
  obtain ⟨a, b⟩ := limits_plain (p := p) (q := q) (n := n) (t := Bom.stripS s) hf
  simp only [if_pos h]
  refine ⟨?_, a, b, ?_, h, ?_⟩ <;> trivial

theorem lim_long (p q : Nat) (n : Int) (l : Lim) (s : ByteArray) (w : World) (h : 300 < s.size) (hs : s.size ≤ maxLen) : Calls Try.prog 6 #[.agg #[.int .u8 p, .int .u8 q, .int .i64 n], .agg #[.int .i64 l.fs, .int .i64 l.fl, .int .i64 l.rs, .bool l.un], .string s] w (Gives (.bool true) w) := by
  apply Gives.of
  unfold maxLen at hs
  have d1 : decide ((300 : Int) < (s.size : Int)) = true := decide_eq_true (by omega)
  go_enter Try.func6, Try.ntmps6
  go_wp2_with (go_at_call 7; (first | (with_reducible refine (later_call _ (awake_any _)).mono ?_) | (with_reducible refine (call_later (awake_any _)).mono ?_)); rintro e w' ⟨rfl, x, rfl⟩)
  go_ret
  refine ⟨rfl, ?_⟩
  (repeat (first | (with_reducible exact Below.refl _ _) | (with_reducible refine later_below _ ?_) | (with_reducible refine alloc_below ?_ _) | (with_reducible refine Below.drew ?_) | (refine Below.setCell ?_ (by first | exact Nat.le_refl _ | (simp; done) | (simp; omega) | omega) _)))

theorem lim_fault (p q : Nat) (n : Int) (l : Lim) (s : ByteArray) (w : World) (h : s.size ≤ 300) (hk : resK p q n l s ≠ 0) : Calls Try.prog 6 #[.agg #[.int .u8 p, .int .u8 q, .int .i64 n], .agg #[.int .i64 l.fs, .int .i64 l.fl, .int .i64 l.rs, .bool l.un], .string s] w (Gives (.bool true) w) := by
  apply Gives.of
  have hcell := fun (W : World) (x : Later W) => x.cell
  have d1 : decide ((300 : Int) < (s.size : Int)) = false := decide_eq_false (by omega)
  have HP := Lib.hid (fun W => parse_any p q n l s W (by omega))
  unfold ParP at HP
  generalize resK p q n l s = K at HP hk
  generalize resA p q n l s = A at HP
  have z1 : ((K : Int) != 0) = true := by simp [hk]
  have z2 : decide ((K : Int) = 0) = false := decide_eq_false (by omega)
  go_enter Try.func6, Try.ntmps6
  go_wp2_with (first | (go_at_call 8; refine (HP.out _).mono ?_; rintro e w1 ⟨v, rfl, _, hb⟩; have HB := Lib.hid hb; clear hb) | (go_at_call 7; (first | (with_reducible refine (later_call _ (awake_any _)).mono ?_) | (with_reducible refine (call_later (awake_any _)).mono ?_)); rintro e w' ⟨rfl, x, rfl⟩))
  go_ret
  refine ⟨rfl, ?_⟩
  have h1 : Below w.heap.size w w1 := (((Below.refl _ _).alloc (Nat.le_refl _) _).alloc (by simp) _).trans (HB.out.mono (by simp; omega))
  exact (h1.alloc h1.size _).trans (x.below.mono (Nat.le_trans h1.size (by simp)))

set_option maxRecDepth 100000 in
set_option maxHeartbeats 8000000 in
theorem lim_main (p q : Nat) (n : Int) (l : Lim) (s : ByteArray) (w : World) (h : s.size ≤ 300) (hk : resK p q n l s = 0) : Calls Try.prog 6 #[.agg #[.int .u8 p, .int .u8 q, .int .i64 n], .agg #[.int .i64 l.fs, .int .i64 l.fl, .int .i64 l.rs, .bool l.un], .string s] w (Gives (.bool true) w) := by
  apply Gives.of
  have hcell := fun (W : World) (x : Later W) => x.cell
  have d1 : decide ((300 : Int) < (s.size : Int)) = false := decide_eq_false (by omega)
  obtain ⟨e1, e2, e3, e4, e5, e6⟩ := res_wide hk
  have HP := Lib.hid (fun W => parse_any p q n l s W (by omega))
  have HP2 : Hid (∀ W : World, Calls Try.prog 8 #[.agg #[.int .u8 p, .int .u8 q, .int .i64 n], .agg #[.int .i64 2147483648, .int .i64 2147483648, .int .i64 2147483648, .bool false], .string s] W (ParP W p q n wLim s)) := Lib.hid (fun W => parse_any p q n wLim s W (by omega))
  unfold ParP at HP HP2
  rw [hk, e1] at HP
  rw [e4, e5, e6] at HP2
  generalize resT p q n l s = T at HP HP2 e2 e3
  have H2 := Lib.hid e2
  have H3 := Lib.hid e3
  clear e1 e2 e3 e4 e5 e6 hk
  go_enter Try.func6, Try.ntmps6
  go_upto_region 4 with (go_at_call 8; refine (HP.out _).mono ?_; rintro e w1 ⟨v, rfl, ht, hb⟩; have HT := Lib.hid ht; have HB := Lib.hid hb; clear ht hb)
  have hw1 : Below w.heap.size w w1 := (((Below.refl _ _).alloc (Nat.le_refl _) _).alloc (by simp) _).trans (HB.out.mono (by simp; omega))
  have hdb : Box w1 w.heap.size 23 #[.int .u8 p, .int .u8 q, .int .i64 n] := ((Box.new w _ _).alloc _).below HB.out (by simp; omega)
  have hlb : Box w1 (w.heap.size + 1) 25 #[.int .i64 l.fs, .int .i64 l.fl, .int .i64 l.rs, .bool l.un] := (show Box ((w.alloc (.cells #[.int .u8 p, .int .u8 q, .int .i64 n] 23)).alloc (.cells #[.int .i64 l.fs, .int .i64 l.fl, .int .i64 l.rs, .bool l.un] 25)) (w.heap.size + 1) 25 #[.int .i64 l.fs, .int .i64 l.fl, .int .i64 l.rs, .bool l.un] from by have := Box.new (w.alloc (.cells #[.int .u8 p, .int .u8 q, .int .i64 n] 23)) 25 #[.int .i64 l.fs, .int .i64 l.fl, .int .i64 l.rs, .bool l.un]; simpa using this).below HB.out (by simp)
  have hfx := Box.new w1 30 #[.int .i64 0, .int .i64 0]
  have hal : Below w1.heap.size w1 (w1.alloc (.cells #[.int .i64 0, .int .i64 0] 30)) := (Below.refl _ _).alloc (Nat.le_refl _) _
  have ht1 := HT.out.below hal
  have hd1 := hdb.below hal hdb.lt
  have hl1 := hlb.below hal hlb.lt
  have hw2 := hw1.trans (hal.mono hw1.size)
  obtain ⟨fb, hfe⟩ : ∃ fb, w1.heap.size = fb := ⟨_, rfl⟩
  generalize w1.alloc (.cells #[.int .i64 0, .int .i64 0] 30) = W1 at hfx ht1 hd1 hl1 hw2 ⊢
  rw [hfe] at hfx ⊢
  obtain ⟨A, c, rfl, hTc, hcm, hA⟩ := ht1.at_
  have hTb : (T.length : Int) ≤ 9223372036854775807 := by omega
  clear hTc hcm
  have HT1 := Lib.hid ht1
  have HA := Lib.hid hA
  have HW2 := Lib.hid hw2
  have f0 : W1.cell? ⟨fb, 0, none⟩ = some (.int .i64 0) := hfx.cell 0
  have k0 : W1.cell? ⟨w.heap.size, 0, none⟩ = some (.int .u8 p) := hd1.cell 0
  have k1 : W1.cell? ⟨w.heap.size, 1, none⟩ = some (.int .u8 q) := hd1.cell 1
  have k2 : W1.cell? ⟨w.heap.size, 2, none⟩ = some (.int .i64 n) := hd1.cell 2
  have l0 : W1.cell? ⟨w.heap.size + 1, 0, none⟩ = some (.int .i64 l.fs) := hl1.cell 0
  have l1 : W1.cell? ⟨w.heap.size + 1, 1, none⟩ = some (.int .i64 l.fl) := hl1.cell 1
  have l2 : W1.cell? ⟨w.heap.size + 1, 2, none⟩ = some (.int .i64 l.rs) := hl1.cell 2
  have l3 : W1.cell? ⟨w.heap.size + 1, 3, none⟩ = some (.bool l.un) := hl1.cell 3
  clear HT HB HP hw1 hdb hlb hfx hal ht1 hd1 hl1 hw2 hfe hA
  go_wp2_with fail
  go_loopw [10, 12, 32] (fun _ _ z32 (wr : World) => ∃ i : Nat, i ≤ T.length ∧ z32 = .int .i64 i ∧ wr = W1) (fun _ _ z32 _ => T.length - (intOf z32).toNat)
  case atStart => exact ⟨0, Nat.zero_le _, rfl, rfl⟩
  case round =>
    obtain ⟨i, hi, rfl, rfl⟩ := hrel
    by_cases c1 : i < T.length
    · have b1 : decide (i < T.length) = true := decide_eq_true c1
      have b2 : (i : Int) < (T.length : Int) := Int.ofNat_lt.2 c1
      have b0 : (0 : Int) < (T.length : Int) := by omega
      have b0' : 0 < T.length := by omega
      obtain ⟨R, hR⟩ : ∃ R, T[i]? = some R := ⟨_, List.getElem?_eq_getElem c1⟩
      obtain ⟨S, hS⟩ : ∃ S, T[0]? = some S := ⟨_, List.getElem?_eq_getElem b0'⟩
      obtain ⟨p1, p2, p3, p4⟩ := H3.out R (List.mem_of_getElem? hR)
      obtain ⟨a, u, rfl, hc, hs1⟩ := HA.out i R hR
      obtain ⟨a0, u0, ha0, hc0, hs0⟩ := HA.out 0 S hS
      injection ha0 with ha0
      subst ha0
      obtain ⟨B, d, rfl, hRd, hdm, hB⟩ := hs1
      have hRb : (R.length : Int) ≤ 9223372036854775807 := by unfold maxLen at hdm; omega
      clear hRd hdm
      obtain ⟨B0, d0, rfl, _, _, _⟩ := hs0
      have g0 : wr.cell? a = some (.slice B0 S.length d0) := hc0
      have n1 : ((R.length : Int) == 0) = false := beq_eq_false_iff_ne.2 (by omega)
      have n1' : decide ((R.length : Int) = 0) = false := decide_eq_false (by omega)
      have n1n : ¬ R.length = 0 := by omega
      have n2 : decide (l.fl < (R.length : Int)) = false := decide_eq_false (Int.not_lt.2 p2)
      have n2' : ¬ (l.fl < (R.length : Int)) := Int.not_lt.2 p2
      have P3 := Lib.hid p3
      have HSB := Lib.hid hB
      have HI := Lib.hid c1
      clear p1 p2 p3 hB hR hc0 c1 hi
      cases hu : l.un
      · rw [hu] at l3
        clear p4 hS
        go_wp2_with fail
        go_loopw [12, 61] (fun _ z61 (wi : World) => ∃ j : Nat, j ≤ R.length ∧ z61 = .int .i64 j ∧ wi = wr) (fun _ z61 _ => R.length - (intOf z61).toNat)
        case atStart => exact ⟨0, Nat.zero_le _, rfl, rfl⟩
        case round =>
          obtain ⟨j, hj, rfl, rfl⟩ := hrel
          by_cases cj : j < R.length
          · have j1 : decide (j < R.length) = true := decide_eq_true cj
            have j2 : (j : Int) < (R.length : Int) := Int.ofNat_lt.2 cj
            obtain ⟨u, hu'⟩ : ∃ u, R[j]? = some u := ⟨_, List.getElem?_eq_getElem cj⟩
            obtain ⟨b, rfl, hcu⟩ := HSB.out j u hu'
            have hle := P3.out u (List.mem_of_getElem? hu')
            have m1 : decide (l.fs < (u.size : Int)) = false := decide_eq_false (Int.not_lt.2 hle)
            have m2 : ¬ (l.fs < (u.size : Int)) := Int.not_lt.2 hle
            have HJ := Lib.hid cj
            clear hle hu' cj
            go_wp2_with fail
            go_roundw
            case rel => exact ⟨j + 1, HJ.out, (by first | go_num | rfl | (simp; done) | omega), (by first | trivial | rfl)⟩
            case measure => (have := HJ.out; simp [intOf]; omega)
          · have j1 : decide (j < R.length) = false := decide_eq_false cj
            have j2 : ¬ (j : Int) < (R.length : Int) := fun hc => cj (Int.ofNat_lt.1 hc)
            clear cj
            go_wp2_with fail
            go_roundw
            case rel => exact ⟨i + 1, HI.out, (by first | go_num | rfl | (simp; done) | omega), (by first | trivial | rfl)⟩
            case measure => (have := HI.out; simp [intOf]; omega)
      · rw [hu] at l3
        have p5 := p4 hu S hS
        rw [← p5] at g0
        clear p4 hS p5
        go_wp2_with fail
        go_loopw [12, 61] (fun _ z61 (wi : World) => ∃ j : Nat, j ≤ R.length ∧ z61 = .int .i64 j ∧ wi = wr) (fun _ z61 _ => R.length - (intOf z61).toNat)
        case atStart => exact ⟨0, Nat.zero_le _, rfl, rfl⟩
        case round =>
          obtain ⟨j, hj, rfl, rfl⟩ := hrel
          by_cases cj : j < R.length
          · have j1 : decide (j < R.length) = true := decide_eq_true cj
            have j2 : (j : Int) < (R.length : Int) := Int.ofNat_lt.2 cj
            obtain ⟨u, hu'⟩ : ∃ u, R[j]? = some u := ⟨_, List.getElem?_eq_getElem cj⟩
            obtain ⟨b, rfl, hcu⟩ := HSB.out j u hu'
            have hle := P3.out u (List.mem_of_getElem? hu')
            have m1 : decide (l.fs < (u.size : Int)) = false := decide_eq_false (Int.not_lt.2 hle)
            have m2 : ¬ (l.fs < (u.size : Int)) := Int.not_lt.2 hle
            have HJ := Lib.hid cj
            clear hle hu' cj
            go_wp2_with fail
            go_roundw
            case rel => exact ⟨j + 1, HJ.out, (by first | go_num | rfl | (simp; done) | omega), (by first | trivial | rfl)⟩
            case measure => (have := HJ.out; simp [intOf]; omega)
          · have j1 : decide (j < R.length) = false := decide_eq_false cj
            have j2 : ¬ (j : Int) < (R.length : Int) := fun hc => cj (Int.ofNat_lt.1 hc)
            clear cj
            go_wp2_with fail
            go_roundw
            case rel => exact ⟨i + 1, HI.out, (by first | go_num | rfl | (simp; done) | omega), (by first | trivial | rfl)⟩
            case measure => (have := HI.out; simp [intOf]; omega)
    · have b1 : decide (i < T.length) = false := decide_eq_false c1
      have b2 : ¬ (i : Int) < (T.length : Int) := fun hc => c1 (Int.ofNat_lt.1 hc)
      have q1 : decide ((T.length : Int) ≤ l.rs) = true := decide_eq_true H2.out
      have HQ := Lib.hid (fun (W : World) (v : Value) (h1 : Tbl W (.slice A T.length c) T) (h2 : Tbl W v T) => (show decide (T = T) = true from decide_eq_true rfl) ▸ sameTable_any (.slice A T.length c) v T T W h1 h2)
      clear c1 hi
      have hlt : w.heap.size + 1 < wr.heap.size := World.block_lt_of_cell? wr _ l2
      go_upto_region 19 with (go_at_call 8; refine (HP2.out _).mono ?_; rintro e w3 ⟨v, rfl, ht, hb⟩; have HT3 := Lib.hid ht; have HB3 := Lib.hid hb; clear ht hb)
      have hal : Below w3.heap.size w3 (w3.alloc (.cells #[.int .i64 0, .int .i64 0] 30)) := (Below.refl _ _).alloc (Nat.le_refl _) _
      have hg := Box.new w3 30 #[.int .i64 0, .int .i64 0]
      have hb3 : Below wr.heap.size wr (w3.alloc (.cells #[.int .i64 0, .int .i64 0] 30)) := HB3.out.trans (hal.mono HB3.out.size)
      have ht3 := HT3.out.below hal
      obtain ⟨gb, hge⟩ : ∃ gb, w3.heap.size = gb := ⟨_, rfl⟩
      generalize w3.alloc (.cells #[.int .i64 0, .int .i64 0] 30) = W4 at hg hb3 ht3 ⊢
      rw [hge] at hg ⊢
      have r2 : W4.cell? ⟨w.heap.size + 1, 2, none⟩ = some (.int .i64 l.rs) := (hb3.cell (p := ⟨w.heap.size + 1, 2, none⟩) hlt).trans l2
      have s0 : W4.cell? ⟨gb, 0, none⟩ = some (.int .i64 0) := hg.cell 0
      have s1 : W4.cell? ⟨gb, 1, none⟩ = some (.int .i64 0) := hg.cell 1
      have HQ4 := Lib.hid (HQ.out W4 v (HT1.out.below hb3) ht3)
      have HB4 := Lib.hid (HW2.out.trans (hb3.mono HW2.out.size))
      clear hal hg hb3 ht3 hge l0 l1 l2 l3 k0 k1 k2 f0 HT3 HB3 HQ hlt hcell
      go_wp2_with (first | (go_at_call 14; (first | (with_reducible refine (later_call _ (HQ4.out)).mono ?_) | (with_reducible refine (call_later (HQ4.out)).mono ?_)); rintro e w' ⟨rfl, x, rfl⟩) | (go_at_call 7; (first | (with_reducible refine (later_call _ (awake_any _)).mono ?_) | (with_reducible refine (call_later (awake_any _)).mono ?_)); rintro e w' ⟨rfl, x, rfl⟩))
      go_ret
      refine ⟨rfl, ?_⟩
      exact HB4.out.trans (x.below.mono HB4.out.size)

theorem lim_any (p q : Nat) (n : Int) (l : Lim) (s : ByteArray) (w : World) (hs : s.size ≤ maxLen) : Calls Try.prog 6 #[.agg #[.int .u8 p, .int .u8 q, .int .i64 n], .agg #[.int .i64 l.fs, .int .i64 l.fl, .int .i64 l.rs, .bool l.un], .string s] w (Gives (.bool true) w) := by
  by_cases h : 300 < s.size
  · exact lim_long p q n l s w h hs
  · by_cases hk : resK p q n l s = 0
    · exact lim_main p q n l s w (by omega) hk
    · exact lim_fault p q n l s w (by omega) hk

set_option maxRecDepth 100000 in
theorem wholeLimits_lifted (os : Os) (started : os.Started) (H : Type) (enc : TypeId × Value → H) :
    ReturnsInHanded {} Try.checked os 6 .any (Rows.wholeLimitsSpec.pre6 enc Try.prog Try.f6 Rows.wholeLimitsRow.domain false) (Rows.wholeLimitsSpec.post enc Try.prog Try.f6 false true false false) := by
  refine law_lift (C := Try.checked) (tb := 4) Try.own Try.laidOut started (by kernel_rfl) Try.func6
    (ChangeSpec.witness6 (enc := enc) (C := Try.checked) false ⟨#[], #[.agg #[.int .u8 0, .int .u8 0, .int .i64 0], .agg #[.int .i64 0, .int .i64 0, .int .i64 0, .bool false], .string ⟨#[]⟩], []⟩ 8 (by kernel_rfl) (by kernel_rfl) (by kernel_rfl) (by kernel_rfl))
    rfl Try.underlying4 (by intro t ht; have ht' : t ∈ [23, 25, 9] := ht; simp at ht'; rcases ht' with rfl | rfl | rfl <;> exact ⟨by kernel_rfl, of_decide_eq_true (by kernel_rfl)⟩) rfl
    (fun ds h => match ds, h with | [_, _, _], _ => rfl) ?_
  intro W base args ds ps hh
  obtain ⟨v, v', v'', d, d', d'', p, p', p'', rfl, ⟨hv, hv', hv''⟩, h0, h0', h0''⟩ := handed_three Try.params6 hh
  obtain ⟨a, b, n, ha, hb, rfl⟩ := open_dialect hv h0
  obtain ⟨x, y, z, u, _, _, _, rfl⟩ := open_limits hv' h0'
  obtain ⟨s, rfl, hs⟩ := open_text hv'' h0''
  exact lim_any a b n ⟨x, y, z, u⟩ s W hs

theorem wholeLimits_holds : Rows.WholeLimitsSaid :=
  OpenClaim.holds_of_wide 6 Try.f6 rfl rfl rfl rfl rfl rfl rfl ⟨rfl, rfl, rfl, rfl, rfl⟩ rfl rfl rfl rfl rfl (by kernel_rfl) Try.func6 (by kernel_rfl)
    (of_decide_eq_true (by kernel_rfl)) (by unfold Func.isWrapper; first | (rw [if_pos (by decide +kernel)]; kernel_rfl) | (rw [if_neg (by decide +kernel)]; exact ⟨rfl, rfl⟩))
    (fun os started H enc _ => wholeLimits_lifted os started H enc)
#print axioms wholeLimits_holds

end Go.Proofs.Ytdjlbbemgahohaa
