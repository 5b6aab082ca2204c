/-
  Walks: how long the sequence is that a text begins with.
-/
import Derived.Test.YtajedohgcepkiaaDoorRows
import Derived.Test.YtajedohgcepkiaaDoorUtR
import Derived.Test.YtajedohgcepkiaaDoorByt
namespace Go.Proofs.YtajedohgcepkiaaDoor.Utf
open Go.RowKit

def point (s : ByteArray) (k : Nat) : Int :=
  if k = 1 then byt s 0 else if k = 2 then (byt s 0 - 192) * 64 + byt s 1 - 128 else if k = 3 then (byt s 0 - 224) * 4096 + (byt s 1 - 128) * 64 + byt s 2 - 128
  else (byt s 0 - 240) * 262144 + (byt s 1 - 128) * 4096 + (byt s 2 - 128) * 64 + byt s 3 - 128
def okC (c : Int) : Prop := 0 ≤ c ∧ c ≤ 1114111 ∧ (c < 55296 ∨ 57343 < c)
def isSeq (s : ByteArray) (k : Nat) : Prop := okC (point s k) ∧ (putM (point s k)).toList = (s.extract 0 k).toList

/-- What Size says. -/
def SizeSays (s : ByteArray) (w : World) (e : Ending) (w' : World) : Prop :=
  (∃ n : Nat, e = .returned (.int .i64 n) ∧ ((1 ≤ n ∧ n ≤ 4 ∧ n ≤ s.size ∧ isSeq s n ∧ ∀ j, 1 ≤ j → j < n → ¬ isSeq s j) ∨ (n = 0 ∧ ∀ j, 1 ≤ j → j ≤ 4 → j ≤ s.size → ¬ isSeq s j))) ∧ Below w.heap.size w w'

theorem cases5 (c : Int) : c < 0 ∨ 1114111 < c ∨ (55296 ≤ c ∧ c ≤ 57343) ∨ (0 ≤ c ∧ c < 55296) ∨ (57343 < c ∧ c ≤ 1114111) := by omega

theorem not_later {s : ByteArray} {k : Nat} (h : ∀ j, 1 ≤ j → j < k → ¬ isSeq s j) {j : Nat} (h1 : 1 ≤ j) (h2 : j < k + 1) (hk : ¬ isSeq s k) : ¬ isSeq s j := by
  by_cases e : j = k
  · rw [e]; exact hk
  · exact h j h1 (by omega)

set_option maxHeartbeats 4000000 in
set_option maxRecDepth 100000 in
theorem size_any (s : ByteArray) (w : World) (hs : s.size ≤ maxLen) : Calls Tryd.prog 29 #[.string s] w (SizeSays s w) := by
  unfold maxLen at hs
  have r0 := byt_range s 0
  have r1 := byt_range s 1
  have r2 := byt_range s 2
  have r3 := byt_range s 3
  go_enter Tryd.func29, Tryd.ntmps29
  go_wp2
  go_loopw [3] (fun n wr => ∃ k : Nat, 1 ≤ k ∧ k ≤ 5 ∧ k ≤ s.size + 1 ∧ n = .int .i64 k ∧ Below w.heap.size w wr ∧ ∀ j, 1 ≤ j → j < k → ¬ isSeq s j) (fun n _ => 6 - (intOf n).toNat)
  case atStart => exact ⟨1, by omega, by omega, by omega, rfl, Below.refl _ _, fun j h1 h2 => by omega⟩
  case round =>
    obtain ⟨k, hk1, hk5, hks, rfl, hb, hpast⟩ := hrel
    have HP := Lib.hid hpast
    clear hpast
    by_cases hin : k ≤ 4 ∧ k ≤ s.size
    · have hk : k = 1 ∨ k = 2 ∨ k = 3 ∨ k = 4 := by omega
      obtain ⟨_, hsz⟩ := hin
      rcases hk with rfl | rfl | rfl | rfl
      · have e0 := byt_eq s 0 (by omega)
        obtain ⟨c, hce⟩ : ∃ c, byt s 0 = c := ⟨_, rfl⟩
        have hpt : point s 1 = c := by rw [← hce]; unfold point; simp
        have HQ := Lib.hid hpt
        clear hpt
        rcases cases5 c with h | h | h | h | h
        · exfalso; omega
        · exfalso; omega
        · exfalso; omega
        · cases he : ((putM (c)).toList == (s.extract 0 1).toList)
          · have f0 : 0 ≤ (c) := by omega
            have g0 : decide (0 ≤ (c)) = true := decide_eq_true f0
            have f1 : (c) ≤ 1114111 := by omega
            have g1 : decide ((c) ≤ 1114111) = true := decide_eq_true f1
            have f2 : (c) < 55296 := by omega
            have g2 : decide ((c) < 55296) = true := decide_eq_true f2
            go_wp2_with fail
            refine wp_region_later_lit (by kernel_rfl) (by kernel_rfl) ?_
            repeat (go_big_quiet_step (((go_at_call 41; exact later_call _ (put_any _ _ (by omega) (by omega))))))
            refine wpQuiet_nil ?_
            rintro w' ⟨y, rfl⟩
            go_wp2
            go_roundw
            case rel => exact ⟨2, by omega, by omega, by omega, by go_num, by (repeat (first | (with_reducible exact hb) | (with_reducible refine later_below _ ?_) | (with_reducible refine Below.drew ?_))), fun j h1 h2 => not_later HP.out h1 h2 (fun hh => by have hc := hh.2; rw [HQ.out] at hc; rw [hc] at he; simp at he)⟩
            case measure => simp [intOf]
          · have f0 : 0 ≤ (c) := by omega
            have g0 : decide (0 ≤ (c)) = true := decide_eq_true f0
            have f1 : (c) ≤ 1114111 := by omega
            have g1 : decide ((c) ≤ 1114111) = true := decide_eq_true f1
            have f2 : (c) < 55296 := by omega
            have g2 : decide ((c) < 55296) = true := decide_eq_true f2
            go_wp2_with fail
            refine wp_region_later_lit (by kernel_rfl) (by kernel_rfl) ?_
            repeat (go_big_quiet_step (((go_at_call 41; exact later_call _ (put_any _ _ (by omega) (by omega))))))
            refine wpQuiet_nil ?_
            rintro w' ⟨y, rfl⟩
            go_wp2
            go_ret
            exact ⟨⟨1, rfl, .inl ⟨by omega, by omega, by omega, ⟨by rw [HQ.out]; unfold okC; omega, by rw [HQ.out]; simpa using he⟩, HP.out⟩⟩, by (repeat (first | (with_reducible exact hb) | (with_reducible refine later_below _ ?_) | (with_reducible refine Below.drew ?_)))⟩
        · exfalso; omega
      · have e0 := byt_eq s 0 (by omega)
        have e1 := byt_eq s 1 (by omega)
        obtain ⟨c, hce⟩ : ∃ c, (byt s 0 - 192) * 64 + byt s 1 - 128 = c := ⟨_, rfl⟩
        have hpt : point s 2 = c := by rw [← hce]; unfold point; simp
        have HQ := Lib.hid hpt
        clear hpt
        rcases cases5 c with h | h | h | h | h
        · have f0 : ¬ 0 ≤ (c) := by omega
          have g0 : decide (0 ≤ (c)) = false := decide_eq_false f0
          go_wp2_with fail
          refine wp_region_later_lit (by kernel_rfl) (by kernel_rfl) ?_
          repeat (go_big_quiet_step (fail))
          refine wpQuiet_nil ?_
          rintro w' ⟨y, rfl⟩
          go_wp2_with fail
          refine wp_region_later_lit (by kernel_rfl) (by kernel_rfl) ?_
          repeat (go_big_quiet_step (fail))
          refine wpQuiet_nil ?_
          rintro w' ⟨y, rfl⟩
          go_wp2
          go_roundw
          case rel => exact ⟨3, by omega, by omega, by omega, by go_num, by (repeat (first | (with_reducible exact hb) | (with_reducible refine later_below _ ?_) | (with_reducible refine Below.drew ?_))), fun j h1 h2 => not_later HP.out h1 h2 (fun hh => by have hc := hh.1; rw [HQ.out] at hc; unfold okC at hc; omega)⟩
          case measure => simp [intOf]
        · exfalso; omega
        · exfalso; omega
        · cases he : ((putM (c)).toList == (s.extract 0 2).toList)
          · have f0 : 0 ≤ (c) := by omega
            have g0 : decide (0 ≤ (c)) = true := decide_eq_true f0
            have f1 : (c) ≤ 1114111 := by omega
            have g1 : decide ((c) ≤ 1114111) = true := decide_eq_true f1
            have f2 : (c) < 55296 := by omega
            have g2 : decide ((c) < 55296) = true := decide_eq_true f2
            go_wp2_with fail
            refine wp_region_later_lit (by kernel_rfl) (by kernel_rfl) ?_
            repeat (go_big_quiet_step (fail))
            refine wpQuiet_nil ?_
            rintro w' ⟨y, rfl⟩
            go_wp2_with fail
            refine wp_region_later_lit (by kernel_rfl) (by kernel_rfl) ?_
            repeat (go_big_quiet_step (((go_at_call 41; exact later_call _ (put_any _ _ (by omega) (by omega))))))
            refine wpQuiet_nil ?_
            rintro w' ⟨y, rfl⟩
            go_wp2
            go_roundw
            case rel => exact ⟨3, by omega, by omega, by omega, by go_num, by (repeat (first | (with_reducible exact hb) | (with_reducible refine later_below _ ?_) | (with_reducible refine Below.drew ?_))), fun j h1 h2 => not_later HP.out h1 h2 (fun hh => by have hc := hh.2; rw [HQ.out] at hc; rw [hc] at he; simp at he)⟩
            case measure => simp [intOf]
          · have f0 : 0 ≤ (c) := by omega
            have g0 : decide (0 ≤ (c)) = true := decide_eq_true f0
            have f1 : (c) ≤ 1114111 := by omega
            have g1 : decide ((c) ≤ 1114111) = true := decide_eq_true f1
            have f2 : (c) < 55296 := by omega
            have g2 : decide ((c) < 55296) = true := decide_eq_true f2
            go_wp2_with fail
            refine wp_region_later_lit (by kernel_rfl) (by kernel_rfl) ?_
            repeat (go_big_quiet_step (fail))
            refine wpQuiet_nil ?_
            rintro w' ⟨y, rfl⟩
            go_wp2_with fail
            refine wp_region_later_lit (by kernel_rfl) (by kernel_rfl) ?_
            repeat (go_big_quiet_step (((go_at_call 41; exact later_call _ (put_any _ _ (by omega) (by omega))))))
            refine wpQuiet_nil ?_
            rintro w' ⟨y, rfl⟩
            go_wp2
            go_ret
            exact ⟨⟨2, rfl, .inl ⟨by omega, by omega, by omega, ⟨by rw [HQ.out]; unfold okC; omega, by rw [HQ.out]; simpa using he⟩, HP.out⟩⟩, by (repeat (first | (with_reducible exact hb) | (with_reducible refine later_below _ ?_) | (with_reducible refine Below.drew ?_)))⟩
        · exfalso; omega
      · have e0 := byt_eq s 0 (by omega)
        have e1 := byt_eq s 1 (by omega)
        have e2 := byt_eq s 2 (by omega)
        obtain ⟨c, hce⟩ : ∃ c, (byt s 0 - 224) * 4096 + (byt s 1 - 128) * 64 + byt s 2 - 128 = c := ⟨_, rfl⟩
        have hpt : point s 3 = c := by rw [← hce]; unfold point; simp
        have HQ := Lib.hid hpt
        clear hpt
        rcases cases5 c with h | h | h | h | h
        · have f0 : ¬ 0 ≤ (c) := by omega
          have g0 : decide (0 ≤ (c)) = false := decide_eq_false f0
          go_wp2_with fail
          refine wp_region_later_lit (by kernel_rfl) (by kernel_rfl) ?_
          repeat (go_big_quiet_step (fail))
          refine wpQuiet_nil ?_
          rintro w' ⟨y, rfl⟩
          go_wp2_with fail
          refine wp_region_later_lit (by kernel_rfl) (by kernel_rfl) ?_
          repeat (go_big_quiet_step (fail))
          refine wpQuiet_nil ?_
          rintro w' ⟨y, rfl⟩
          go_wp2
          go_roundw
          case rel => exact ⟨4, by omega, by omega, by omega, by go_num, by (repeat (first | (with_reducible exact hb) | (with_reducible refine later_below _ ?_) | (with_reducible refine Below.drew ?_))), fun j h1 h2 => not_later HP.out h1 h2 (fun hh => by have hc := hh.1; rw [HQ.out] at hc; unfold okC at hc; omega)⟩
          case measure => simp [intOf]
        · exfalso; omega
        · have f0 : 0 ≤ (c) := by omega
          have g0 : decide (0 ≤ (c)) = true := decide_eq_true f0
          have f1 : (c) ≤ 1114111 := by omega
          have g1 : decide ((c) ≤ 1114111) = true := decide_eq_true f1
          have f2 : ¬ (c) < 55296 := by omega
          have g2 : decide ((c) < 55296) = false := decide_eq_false f2
          have f3 : ¬ 57343 < (c) := by omega
          have g3 : decide (57343 < (c)) = false := decide_eq_false f3
          go_wp2_with fail
          refine wp_region_later_lit (by kernel_rfl) (by kernel_rfl) ?_
          repeat (go_big_quiet_step (fail))
          refine wpQuiet_nil ?_
          rintro w' ⟨y, rfl⟩
          go_wp2_with fail
          refine wp_region_later_lit (by kernel_rfl) (by kernel_rfl) ?_
          repeat (go_big_quiet_step (fail))
          refine wpQuiet_nil ?_
          rintro w' ⟨y, rfl⟩
          go_wp2
          go_roundw
          case rel => exact ⟨4, by omega, by omega, by omega, by go_num, by (repeat (first | (with_reducible exact hb) | (with_reducible refine later_below _ ?_) | (with_reducible refine Below.drew ?_))), fun j h1 h2 => not_later HP.out h1 h2 (fun hh => by have hc := hh.1; rw [HQ.out] at hc; unfold okC at hc; omega)⟩
          case measure => simp [intOf]
        · cases he : ((putM (c)).toList == (s.extract 0 3).toList)
          · have f0 : 0 ≤ (c) := by omega
            have g0 : decide (0 ≤ (c)) = true := decide_eq_true f0
            have f1 : (c) ≤ 1114111 := by omega
            have g1 : decide ((c) ≤ 1114111) = true := decide_eq_true f1
            have f2 : (c) < 55296 := by omega
            have g2 : decide ((c) < 55296) = true := decide_eq_true f2
            go_wp2_with fail
            refine wp_region_later_lit (by kernel_rfl) (by kernel_rfl) ?_
            repeat (go_big_quiet_step (fail))
            refine wpQuiet_nil ?_
            rintro w' ⟨y, rfl⟩
            go_wp2_with fail
            refine wp_region_later_lit (by kernel_rfl) (by kernel_rfl) ?_
            repeat (go_big_quiet_step (((go_at_call 41; exact later_call _ (put_any _ _ (by omega) (by omega))))))
            refine wpQuiet_nil ?_
            rintro w' ⟨y, rfl⟩
            go_wp2
            go_roundw
            case rel => exact ⟨4, by omega, by omega, by omega, by go_num, by (repeat (first | (with_reducible exact hb) | (with_reducible refine later_below _ ?_) | (with_reducible refine Below.drew ?_))), fun j h1 h2 => not_later HP.out h1 h2 (fun hh => by have hc := hh.2; rw [HQ.out] at hc; rw [hc] at he; simp at he)⟩
            case measure => simp [intOf]
          · have f0 : 0 ≤ (c) := by omega
            have g0 : decide (0 ≤ (c)) = true := decide_eq_true f0
            have f1 : (c) ≤ 1114111 := by omega
            have g1 : decide ((c) ≤ 1114111) = true := decide_eq_true f1
            have f2 : (c) < 55296 := by omega
            have g2 : decide ((c) < 55296) = true := decide_eq_true f2
            go_wp2_with fail
            refine wp_region_later_lit (by kernel_rfl) (by kernel_rfl) ?_
            repeat (go_big_quiet_step (fail))
            refine wpQuiet_nil ?_
            rintro w' ⟨y, rfl⟩
            go_wp2_with fail
            refine wp_region_later_lit (by kernel_rfl) (by kernel_rfl) ?_
            repeat (go_big_quiet_step (((go_at_call 41; exact later_call _ (put_any _ _ (by omega) (by omega))))))
            refine wpQuiet_nil ?_
            rintro w' ⟨y, rfl⟩
            go_wp2
            go_ret
            exact ⟨⟨3, rfl, .inl ⟨by omega, by omega, by omega, ⟨by rw [HQ.out]; unfold okC; omega, by rw [HQ.out]; simpa using he⟩, HP.out⟩⟩, by (repeat (first | (with_reducible exact hb) | (with_reducible refine later_below _ ?_) | (with_reducible refine Below.drew ?_)))⟩
        · cases he : ((putM (c)).toList == (s.extract 0 3).toList)
          · have f0 : 0 ≤ (c) := by omega
            have g0 : decide (0 ≤ (c)) = true := decide_eq_true f0
            have f1 : (c) ≤ 1114111 := by omega
            have g1 : decide ((c) ≤ 1114111) = true := decide_eq_true f1
            have f2 : ¬ (c) < 55296 := by omega
            have g2 : decide ((c) < 55296) = false := decide_eq_false f2
            have f3 : 57343 < (c) := by omega
            have g3 : decide (57343 < (c)) = true := decide_eq_true f3
            go_wp2_with fail
            refine wp_region_later_lit (by kernel_rfl) (by kernel_rfl) ?_
            repeat (go_big_quiet_step (fail))
            refine wpQuiet_nil ?_
            rintro w' ⟨y, rfl⟩
            go_wp2_with fail
            refine wp_region_later_lit (by kernel_rfl) (by kernel_rfl) ?_
            repeat (go_big_quiet_step (((go_at_call 41; exact later_call _ (put_any _ _ (by omega) (by omega))))))
            refine wpQuiet_nil ?_
            rintro w' ⟨y, rfl⟩
            go_wp2
            go_roundw
            case rel => exact ⟨4, by omega, by omega, by omega, by go_num, by (repeat (first | (with_reducible exact hb) | (with_reducible refine later_below _ ?_) | (with_reducible refine Below.drew ?_))), fun j h1 h2 => not_later HP.out h1 h2 (fun hh => by have hc := hh.2; rw [HQ.out] at hc; rw [hc] at he; simp at he)⟩
            case measure => simp [intOf]
          · have f0 : 0 ≤ (c) := by omega
            have g0 : decide (0 ≤ (c)) = true := decide_eq_true f0
            have f1 : (c) ≤ 1114111 := by omega
            have g1 : decide ((c) ≤ 1114111) = true := decide_eq_true f1
            have f2 : ¬ (c) < 55296 := by omega
            have g2 : decide ((c) < 55296) = false := decide_eq_false f2
            have f3 : 57343 < (c) := by omega
            have g3 : decide (57343 < (c)) = true := decide_eq_true f3
            go_wp2_with fail
            refine wp_region_later_lit (by kernel_rfl) (by kernel_rfl) ?_
            repeat (go_big_quiet_step (fail))
            refine wpQuiet_nil ?_
            rintro w' ⟨y, rfl⟩
            go_wp2_with fail
            refine wp_region_later_lit (by kernel_rfl) (by kernel_rfl) ?_
            repeat (go_big_quiet_step (((go_at_call 41; exact later_call _ (put_any _ _ (by omega) (by omega))))))
            refine wpQuiet_nil ?_
            rintro w' ⟨y, rfl⟩
            go_wp2
            go_ret
            exact ⟨⟨3, rfl, .inl ⟨by omega, by omega, by omega, ⟨by rw [HQ.out]; unfold okC; omega, by rw [HQ.out]; simpa using he⟩, HP.out⟩⟩, by (repeat (first | (with_reducible exact hb) | (with_reducible refine later_below _ ?_) | (with_reducible refine Below.drew ?_)))⟩
      · have e0 := byt_eq s 0 (by omega)
        have e1 := byt_eq s 1 (by omega)
        have e2 := byt_eq s 2 (by omega)
        have e3 := byt_eq s 3 (by omega)
        obtain ⟨c, hce⟩ : ∃ c, (byt s 0 - 240) * 262144 + (byt s 1 - 128) * 4096 + (byt s 2 - 128) * 64 + byt s 3 - 128 = c := ⟨_, rfl⟩
        have hpt : point s 4 = c := by rw [← hce]; unfold point; simp
        have HQ := Lib.hid hpt
        clear hpt
        rcases cases5 c with h | h | h | h | h
        · have f0 : ¬ 0 ≤ (c) := by omega
          have g0 : decide (0 ≤ (c)) = false := decide_eq_false f0
          go_wp2_with fail
          refine wp_region_later_lit (by kernel_rfl) (by kernel_rfl) ?_
          repeat (go_big_quiet_step (fail))
          refine wpQuiet_nil ?_
          rintro w' ⟨y, rfl⟩
          go_wp2_with fail
          refine wp_region_later_lit (by kernel_rfl) (by kernel_rfl) ?_
          repeat (go_big_quiet_step (fail))
          refine wpQuiet_nil ?_
          rintro w' ⟨y, rfl⟩
          go_wp2
          go_roundw
          case rel => exact ⟨5, by omega, by omega, by omega, by go_num, by (repeat (first | (with_reducible exact hb) | (with_reducible refine later_below _ ?_) | (with_reducible refine Below.drew ?_))), fun j h1 h2 => not_later HP.out h1 h2 (fun hh => by have hc := hh.1; rw [HQ.out] at hc; unfold okC at hc; omega)⟩
          case measure => simp [intOf]
        · have f0 : 0 ≤ (c) := by omega
          have g0 : decide (0 ≤ (c)) = true := decide_eq_true f0
          have f1 : ¬ (c) ≤ 1114111 := by omega
          have g1 : decide ((c) ≤ 1114111) = false := decide_eq_false f1
          go_wp2_with fail
          refine wp_region_later_lit (by kernel_rfl) (by kernel_rfl) ?_
          repeat (go_big_quiet_step (fail))
          refine wpQuiet_nil ?_
          rintro w' ⟨y, rfl⟩
          go_wp2_with fail
          refine wp_region_later_lit (by kernel_rfl) (by kernel_rfl) ?_
          repeat (go_big_quiet_step (fail))
          refine wpQuiet_nil ?_
          rintro w' ⟨y, rfl⟩
          go_wp2
          go_roundw
          case rel => exact ⟨5, by omega, by omega, by omega, by go_num, by (repeat (first | (with_reducible exact hb) | (with_reducible refine later_below _ ?_) | (with_reducible refine Below.drew ?_))), fun j h1 h2 => not_later HP.out h1 h2 (fun hh => by have hc := hh.1; rw [HQ.out] at hc; unfold okC at hc; omega)⟩
          case measure => simp [intOf]
        · have f0 : 0 ≤ (c) := by omega
          have g0 : decide (0 ≤ (c)) = true := decide_eq_true f0
          have f1 : (c) ≤ 1114111 := by omega
          have g1 : decide ((c) ≤ 1114111) = true := decide_eq_true f1
          have f2 : ¬ (c) < 55296 := by omega
          have g2 : decide ((c) < 55296) = false := decide_eq_false f2
          have f3 : ¬ 57343 < (c) := by omega
          have g3 : decide (57343 < (c)) = false := decide_eq_false f3
          go_wp2_with fail
          refine wp_region_later_lit (by kernel_rfl) (by kernel_rfl) ?_
          repeat (go_big_quiet_step (fail))
          refine wpQuiet_nil ?_
          rintro w' ⟨y, rfl⟩
          go_wp2_with fail
          refine wp_region_later_lit (by kernel_rfl) (by kernel_rfl) ?_
          repeat (go_big_quiet_step (fail))
          refine wpQuiet_nil ?_
          rintro w' ⟨y, rfl⟩
          go_wp2
          go_roundw
          case rel => exact ⟨5, by omega, by omega, by omega, by go_num, by (repeat (first | (with_reducible exact hb) | (with_reducible refine later_below _ ?_) | (with_reducible refine Below.drew ?_))), fun j h1 h2 => not_later HP.out h1 h2 (fun hh => by have hc := hh.1; rw [HQ.out] at hc; unfold okC at hc; omega)⟩
          case measure => simp [intOf]
        · cases he : ((putM (c)).toList == (s.extract 0 4).toList)
          · have f0 : 0 ≤ (c) := by omega
            have g0 : decide (0 ≤ (c)) = true := decide_eq_true f0
            have f1 : (c) ≤ 1114111 := by omega
            have g1 : decide ((c) ≤ 1114111) = true := decide_eq_true f1
            have f2 : (c) < 55296 := by omega
            have g2 : decide ((c) < 55296) = true := decide_eq_true f2
            go_wp2_with fail
            refine wp_region_later_lit (by kernel_rfl) (by kernel_rfl) ?_
            repeat (go_big_quiet_step (fail))
            refine wpQuiet_nil ?_
            rintro w' ⟨y, rfl⟩
            go_wp2_with fail
            refine wp_region_later_lit (by kernel_rfl) (by kernel_rfl) ?_
            repeat (go_big_quiet_step (((go_at_call 41; exact later_call _ (put_any _ _ (by omega) (by omega))))))
            refine wpQuiet_nil ?_
            rintro w' ⟨y, rfl⟩
            go_wp2
            go_roundw
            case rel => exact ⟨5, by omega, by omega, by omega, by go_num, by (repeat (first | (with_reducible exact hb) | (with_reducible refine later_below _ ?_) | (with_reducible refine Below.drew ?_))), fun j h1 h2 => not_later HP.out h1 h2 (fun hh => by have hc := hh.2; rw [HQ.out] at hc; rw [hc] at he; simp at he)⟩
            case measure => simp [intOf]
          · have f0 : 0 ≤ (c) := by omega
            have g0 : decide (0 ≤ (c)) = true := decide_eq_true f0
            have f1 : (c) ≤ 1114111 := by omega
            have g1 : decide ((c) ≤ 1114111) = true := decide_eq_true f1
            have f2 : (c) < 55296 := by omega
            have g2 : decide ((c) < 55296) = true := decide_eq_true f2
            go_wp2_with fail
            refine wp_region_later_lit (by kernel_rfl) (by kernel_rfl) ?_
            repeat (go_big_quiet_step (fail))
            refine wpQuiet_nil ?_
            rintro w' ⟨y, rfl⟩
            go_wp2_with fail
            refine wp_region_later_lit (by kernel_rfl) (by kernel_rfl) ?_
            repeat (go_big_quiet_step (((go_at_call 41; exact later_call _ (put_any _ _ (by omega) (by omega))))))
            refine wpQuiet_nil ?_
            rintro w' ⟨y, rfl⟩
            go_wp2
            go_ret
            exact ⟨⟨4, rfl, .inl ⟨by omega, by omega, by omega, ⟨by rw [HQ.out]; unfold okC; omega, by rw [HQ.out]; simpa using he⟩, HP.out⟩⟩, by (repeat (first | (with_reducible exact hb) | (with_reducible refine later_below _ ?_) | (with_reducible refine Below.drew ?_)))⟩
        · cases he : ((putM (c)).toList == (s.extract 0 4).toList)
          · have f0 : 0 ≤ (c) := by omega
            have g0 : decide (0 ≤ (c)) = true := decide_eq_true f0
            have f1 : (c) ≤ 1114111 := by omega
            have g1 : decide ((c) ≤ 1114111) = true := decide_eq_true f1
            have f2 : ¬ (c) < 55296 := by omega
            have g2 : decide ((c) < 55296) = false := decide_eq_false f2
            have f3 : 57343 < (c) := by omega
            have g3 : decide (57343 < (c)) = true := decide_eq_true f3
            go_wp2_with fail
            refine wp_region_later_lit (by kernel_rfl) (by kernel_rfl) ?_
            repeat (go_big_quiet_step (fail))
            refine wpQuiet_nil ?_
            rintro w' ⟨y, rfl⟩
            go_wp2_with fail
            refine wp_region_later_lit (by kernel_rfl) (by kernel_rfl) ?_
            repeat (go_big_quiet_step (((go_at_call 41; exact later_call _ (put_any _ _ (by omega) (by omega))))))
            refine wpQuiet_nil ?_
            rintro w' ⟨y, rfl⟩
            go_wp2
            go_roundw
            case rel => exact ⟨5, by omega, by omega, by omega, by go_num, by (repeat (first | (with_reducible exact hb) | (with_reducible refine later_below _ ?_) | (with_reducible refine Below.drew ?_))), fun j h1 h2 => not_later HP.out h1 h2 (fun hh => by have hc := hh.2; rw [HQ.out] at hc; rw [hc] at he; simp at he)⟩
            case measure => simp [intOf]
          · have f0 : 0 ≤ (c) := by omega
            have g0 : decide (0 ≤ (c)) = true := decide_eq_true f0
            have f1 : (c) ≤ 1114111 := by omega
            have g1 : decide ((c) ≤ 1114111) = true := decide_eq_true f1
            have f2 : ¬ (c) < 55296 := by omega
            have g2 : decide ((c) < 55296) = false := decide_eq_false f2
            have f3 : 57343 < (c) := by omega
            have g3 : decide (57343 < (c)) = true := decide_eq_true f3
            go_wp2_with fail
            refine wp_region_later_lit (by kernel_rfl) (by kernel_rfl) ?_
            repeat (go_big_quiet_step (fail))
            refine wpQuiet_nil ?_
            rintro w' ⟨y, rfl⟩
            go_wp2_with fail
            refine wp_region_later_lit (by kernel_rfl) (by kernel_rfl) ?_
            repeat (go_big_quiet_step (((go_at_call 41; exact later_call _ (put_any _ _ (by omega) (by omega))))))
            refine wpQuiet_nil ?_
            rintro w' ⟨y, rfl⟩
            go_wp2
            go_ret
            exact ⟨⟨4, rfl, .inl ⟨by omega, by omega, by omega, ⟨by rw [HQ.out]; unfold okC; omega, by rw [HQ.out]; simpa using he⟩, HP.out⟩⟩, by (repeat (first | (with_reducible exact hb) | (with_reducible refine later_below _ ?_) | (with_reducible refine Below.drew ?_)))⟩
    · by_cases h4 : k ≤ 4
      · have h5 : ¬ k ≤ s.size := fun h => hin ⟨h4, h⟩
        go_wp2
        go_ret
        exact ⟨⟨0, rfl, .inr ⟨rfl, fun j h1 h2 h3 => HP.out j h1 (by omega)⟩⟩, hb⟩
      · go_wp2
        go_ret
        exact ⟨⟨0, rfl, .inr ⟨rfl, fun j h1 h2 h3 => HP.out j h1 (by omega)⟩⟩, hb⟩

end Go.Proofs.YtajedohgcepkiaaDoor.Utf
