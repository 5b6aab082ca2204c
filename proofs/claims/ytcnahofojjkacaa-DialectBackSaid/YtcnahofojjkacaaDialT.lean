/-
  Walks: the document's text of a dialect, and the laws on one dialect.
-/
import Derived.Test.YtcnahofojjkacaaRows
import Derived.Test.YtcnahofojjkacaaDialR
import Derived.Lib.Hide
namespace Go.Proofs.Ytcnahofojjkacaa
open Go.RowKit

theorem digitI (m : Int) (w : World) (h0 : 0 ≤ m) (h1 : m < 16) : Calls Try.prog 24 #[.int .i64 m] w (Gives (.string ⟨#[hexDigit m.toNat]⟩) w) := by
  have h := digit_any m.toNat w (by omega)
  rwa [Int.toNat_of_nonneg h0] at h

theorem hexT_two (p : Nat) : (⟨#[hexDigit ((p : Int) / 16).toNat]⟩ : ByteArray) ++ ⟨#[hexDigit ((p : Int) % 16).toNat]⟩ = hexT p := by
  have e1 : ((p : Int) / 16).toNat = p / 16 := by omega
  have e2 : ((p : Int) % 16).toNat = p % 16 := by omega
  rw [e1, e2]
  apply ByteArray.ext
  simp [hexT, ByteArray.data_append]

theorem refText_any (p q : Nat) (n : Int) (w : World) (hp : p < 256) (hq : q < 256) (hn : n = 1 ∨ n = 2 ∨ n = 3) : Calls Try.prog 14 #[.agg #[.int .i64 p, .int .i64 q, .int .i64 n]] w (Gives (.string (dialT p q n)) w) := by
  apply Gives.of
  have hcell := fun (W : World) (x : Later W) => x.cell
  have i0 : ∀ w, (Instr.index 55 (.agg #[.string ⟨#[]⟩, .string ⟨#[108, 102]⟩, .string ⟨#[99, 114, 108, 102]⟩, .string ⟨#[101, 105, 116, 104, 101, 114]⟩]) (.int .i64 n)).run Try.prog w = .ok (.string (endW n)) w := by
    intro w
    rcases hn with rfl | rfl | rfl <;> kernel_rfl
  have hs2 := endW_size n
  have e1 := hexT_two p
  have e2 := hexT_two q
  have ht : Hid (((((⟨#[hexDigit ((p : Int) / 16).toNat]⟩ : ByteArray) ++ ⟨#[hexDigit ((p : Int) % 16).toNat]⟩ ++ ⟨#[32]⟩ ++ ⟨#[hexDigit ((q : Int) / 16).toNat]⟩ ++ ⟨#[hexDigit ((q : Int) % 16).toNat]⟩ ++ ⟨#[32]⟩)) ++ endW n) = dialT p q n) := by
    show _ = dialT p q n
    unfold dialT
    rw [← e1, ← e2]
    simp only [ByteArray.append_assoc]
  clear e1 e2 hn
  go_enter Try.func14, Try.ntmps14
  go_wp2
  refine wp_region_later_lit (by kernel_rfl) (by kernel_rfl) ?_
  repeat (go_big_quiet_step ((go_at_call 24; exact later_call _ (digitI _ _ (by omega) (by omega)))))
  refine wpQuiet_nil ?_
  rintro w' ⟨y, rfl⟩
  go_wp2
  go_ret
  exact ⟨ret_string ht.out, y.trans ((Below.refl _ _).alloc (Nat.le_refl _) _) (by simp)⟩

theorem checks_no (p q : Nat) (n : Int) (w : World) (hp : p < 256) (hq : q < 256) (h : okB p q n = false) :
    Calls Try.prog 3 #[.agg #[.int .u8 p, .int .u8 q, .int .i64 n]] w (Gives (.bool true) w) := by
  apply Gives.of
  have hcell := fun (W : World) (x : Later W) => x.cell
  have hr : ∀ W, Calls Try.prog 8 #[.agg #[.int .i64 p, .int .i64 q, .int .i64 n]] W (Gives (.bool false) W) := fun W => h ▸ right_any p q n W
  have HR := Lib.hid hr
  clear hr
  go_enter Try.func3, Try.ntmps3
  go_wp2_with (first | (go_at_call 7; (first | (with_reducible refine (later_call _ (text_no _ _ _ _ h)).mono ?_) | (with_reducible refine (call_later (text_no _ _ _ _ h)).mono ?_)); rintro e w' ⟨rfl, x, rfl⟩) | (go_at_call 9; (first | (with_reducible refine (later_call _ (ref_any _ _ _ _ hp hq)).mono ?_) | (with_reducible refine (call_later (ref_any _ _ _ _ hp hq)).mono ?_)); rintro e w' ⟨rfl, x, rfl⟩) | (go_at_call 8; (first | (with_reducible refine (later_call _ (HR.out _)).mono ?_) | (with_reducible refine (call_later (HR.out _)).mono ?_)); rintro e w' ⟨rfl, x, rfl⟩) | (go_at_call 10; (first | (with_reducible refine (later_call _ (check_no _ _ _ _ h)).mono ?_) | (with_reducible refine (call_later (check_no _ _ _ _ h)).mono ?_)); rintro e w' ⟨rfl, x, rfl⟩) | (go_at_call 11; (first | (with_reducible refine (later_call _ (end_no _ _ _ _ h)).mono ?_) | (with_reducible refine (call_later (end_no _ _ _ _ h)).mono ?_)); rintro e w' ⟨rfl, x, rfl⟩) | (go_at_call 12; (first | (with_reducible refine (later_call _ (awake_any _)).mono ?_) | (with_reducible refine (call_later (awake_any _)).mono ?_)); rintro e w' ⟨rfl, x, rfl⟩))
  go_ret
  exact ⟨rfl, Later.end1 ‹_›⟩

theorem checks_ok (p q : Nat) (n : Int) (w : World) (hp : p < 256) (hq : q < 256) (h : okB p q n = true) (hn : n = 1 ∨ n = 2 ∨ n = 3) :
    Calls Try.prog 3 #[.agg #[.int .u8 p, .int .u8 q, .int .i64 n]] w (Gives (.bool true) w) := by
  apply Gives.of
  have hcell := fun (W : World) (x : Later W) => x.cell
  have hr : ∀ W, Calls Try.prog 8 #[.agg #[.int .i64 p, .int .i64 q, .int .i64 n]] W (Gives (.bool true) W) := fun W => h ▸ right_any p q n W
  have HR := Lib.hid hr
  have HT := Lib.hid (fun W => refText_any p q n W hp hq hn)
  clear hr hn
  go_enter Try.func3, Try.ntmps3
  go_wp2_with (first | (go_at_call 7; (first | (with_reducible refine (later_call _ (text_ok _ _ _ _ hp hq h)).mono ?_) | (with_reducible refine (call_later (text_ok _ _ _ _ hp hq h)).mono ?_)); rintro e w' ⟨rfl, x, rfl⟩) | (go_at_call 9; (first | (with_reducible refine (later_call _ (ref_any _ _ _ _ hp hq)).mono ?_) | (with_reducible refine (call_later (ref_any _ _ _ _ hp hq)).mono ?_)); rintro e w' ⟨rfl, x, rfl⟩) | (go_at_call 8; (first | (with_reducible refine (later_call _ (HR.out _)).mono ?_) | (with_reducible refine (call_later (HR.out _)).mono ?_)); rintro e w' ⟨rfl, x, rfl⟩))
  refine wp_region_anch _ (by kernel_rfl) (by kernel_rfl) ?_
  repeat (go_big_quiet_step (first | (go_at_call 10; exact later_call _ (check_ok _ _ _ _ h)) | (go_at_call 11; exact later_call _ (end_ok _ _ _ _ h)) | (go_at_call 9; exact later_call _ (ref_any _ _ _ _ hp hq)) | (go_at_call 13; exact later_call _ (refEnd_any _ _ _ _)) | (go_at_call 14; exact later_call _ (HT.out _)) | (go_at_call 12; exact later_call _ (awake_any _))))
  refine wpQuiet_nil ?_
  rintro w' ⟨y, rfl⟩
  go_wp2
  go_ret
  exact ⟨rfl, Later.end1 ‹_›⟩

end Go.Proofs.Ytcnahofojjkacaa
