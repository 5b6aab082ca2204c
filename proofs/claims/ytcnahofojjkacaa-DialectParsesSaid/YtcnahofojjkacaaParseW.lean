/-
  Walks: a dialect out of a text.
-/
import Derived.Test.YtcnahofojjkacaaRows
import Derived.Test.YtcnahofojjkacaaDialR
import Derived.Lib.Hide
import Derived.Lib.Bytealg
namespace Go.Proofs.Ytcnahofojjkacaa
open Go.RowKit

theorem slIndexByte_any (s : ByteArray) (c : Int) (w : World) :
    Calls Try.prog 31 #[.string s, .int .u8 c] w fun e w' => e = .returned (.int .i64 (Lib.indexByte s.data.toList c.toNat.toUInt8)) ∧ w = w' := by
  go_enter Try.func31, Try.ntmps31
  go_wp2
  rw [run_callFunc_extern Try.func35 (by kernel_rfl) (by kernel_rfl) (by kernel_rfl) (e := Extern.BytealgIndexByte.indexByte) (by kernel_rfl), Lib.run_indexByteString]
  simp only [Result.andThen]
  rw [Oper.upon_value]
  go_wp2
  go_ret
  exact ⟨rfl, rfl⟩

theorem stIndexByte_any (s : ByteArray) (c : Int) (w : World) :
    Calls Try.prog 29 #[.string s, .int .u8 c] w fun e w' => e = .returned (.int .i64 (Lib.indexByte s.data.toList c.toNat.toUInt8)) ∧ w = w' := by
  go_enter Try.func29, Try.ntmps29
  go_wp2_with (go_at_call 31; refine (slIndexByte_any _ _ _).mono ?_; rintro e w' ⟨rfl, rfl⟩)
  go_ret
  exact ⟨rfl, rfl⟩

/-- Where the first blank stands. -/
def blank (s : ByteArray) : Int := Lib.indexByte s.data.toList 32

theorem slIndex_blank (s : ByteArray) (w : World) :
    Calls Try.prog 30 #[.string s, .string ⟨#[32]⟩] w fun e w' => e = .returned (.int .i64 (blank s)) ∧ w = w' := by
  have hb := fun W => slIndexByte_any s 32 W
  have e : (32 : Int).toNat.toUInt8 = 32 := rfl
  rw [e] at hb
  have HB := Lib.hid hb
  clear hb e
  cases h : ([32] == s.toList)
  · go_enter Try.func30, Try.ntmps30
    go_wp2_with (go_at_call 31; refine (HB.out _).mono ?_; rintro e w' ⟨rfl, rfl⟩)
    go_ret
    exact ⟨rfl, rfl⟩
  · have hz : blank s = 0 := by
      have h1 : [32] = s.toList := by simpa using h
      rw [ByteArray.toList_eq] at h1
      unfold blank
      rw [← h1]
      rfl
    have HZ := Lib.hid hz
    clear hz
    go_enter Try.func30, Try.ntmps30
    go_wp2_with (go_at_call 31; refine (HB.out _).mono ?_; rintro e w' ⟨rfl, rfl⟩)
    go_ret
    exact ⟨ret_int HZ.out.symm, rfl⟩

theorem slCut_no (s : ByteArray) (w : World) (h : blank s < 0) :
    Calls Try.prog 28 #[.string s, .string ⟨#[32]⟩] w (Gives (.tuple #[.string s, .string ⟨#[]⟩, .bool false]) w) := by
  apply Gives.of
  go_enter Try.func28, Try.ntmps28
  go_wp2_with (go_at_call 30; refine (slIndex_blank _ _).mono ?_; rintro e w' ⟨rfl, rfl⟩)
  go_ret3
  exact ⟨rfl, Below.refl _ _⟩

theorem slCut_yes (s : ByteArray) (i : Nat) (w : World) (hs : s.size ≤ maxLen) (h : blank s = i) (hi : i < s.size) :
    Calls Try.prog 28 #[.string s, .string ⟨#[32]⟩] w (Gives (.tuple #[.string (s.extract 0 i), .string (s.extract (i + 1) s.size), .bool true]) w) := by
  apply Gives.of
  unfold maxLen at hs
  have hb := fun W => slIndex_blank s W
  rw [h] at hb
  have HB := Lib.hid hb
  clear hb h
  go_enter Try.func28, Try.ntmps28
  go_wp2_with (go_at_call 30; refine (HB.out _).mono ?_; rintro e w' ⟨rfl, rfl⟩)
  go_quiet (fail)
  go_wp2
  go_ret3
  exact ⟨rfl, ⟨rfl, rfl, rfl, Nat.le_refl _, fun _ _ => rfl⟩⟩

theorem hexByte_len (s : ByteArray) (w : World) (h : s.size ≠ 2) :
    Calls Try.prog 26 #[.string s] w (Gives (.tuple #[.int .u8 0, .bool false]) w) := by
  apply Gives.of
  have h' : ((s.size : Int) != 2) = true := by simp; omega
  go_enter Try.func26, Try.ntmps26
  go_wp2
  go_ret2
  exact ⟨rfl, Below.refl _ _⟩

theorem stCut_no (s : ByteArray) (w : World) (h : blank s < 0) :
    Calls Try.prog 25 #[.string s, .string ⟨#[32]⟩] w (Gives (.tuple #[.string s, .string ⟨#[]⟩, .bool false]) w) := by
  apply Gives.of
  go_enter Try.func25, Try.ntmps25
  go_wp2_with (go_at_call 28; (first | (with_reducible refine (later_call _ (slCut_no _ _ h)).mono ?_) | (with_reducible refine (call_later (slCut_no _ _ h)).mono ?_)); rintro e w' ⟨rfl, x, rfl⟩)
  go_ret3
  exact ⟨rfl, Later.below _⟩

theorem stCut_yes (s : ByteArray) (i : Nat) (w : World) (hs : s.size ≤ maxLen) (h : blank s = i) (hi : i < s.size) :
    Calls Try.prog 25 #[.string s, .string ⟨#[32]⟩] w (Gives (.tuple #[.string (s.extract 0 i), .string (s.extract (i + 1) s.size), .bool true]) w) := by
  apply Gives.of
  have HC := Lib.hid (fun W => slCut_yes s i W hs h hi)
  clear h
  go_enter Try.func25, Try.ntmps25
  go_wp2_with (go_at_call 28; (first | (with_reducible refine (later_call _ (HC.out _)).mono ?_) | (with_reducible refine (call_later (HC.out _)).mono ?_)); rintro e w' ⟨rfl, x, rfl⟩)
  go_ret3
  exact ⟨rfl, Later.below _⟩

/-- The value of a digit, or -1. -/
def hexV (c : UInt8) : Int := Lib.indexByte [48, 49, 50, 51, 52, 53, 54, 55, 56, 57, 97, 98, 99, 100, 101, 102] c
theorem hexV_spec (c : UInt8) : hexV c = -1 ∨ (0 ≤ hexV c ∧ hexV c < 16 ∧ hexDigit (hexV c).toNat = c) := by
  have h : ∀ n : Fin 256, hexV (UInt8.ofNat n.val) = -1 ∨ (0 ≤ hexV (UInt8.ofNat n.val) ∧ hexV (UInt8.ofNat n.val) < 16 ∧ hexDigit (hexV (UInt8.ofNat n.val)).toNat = UInt8.ofNat n.val) := by decide +kernel
  have := h ⟨c.toNat, c.toNat_lt⟩
  simpa using this
theorem hexV_digit : ∀ n : Nat, n < 16 → hexV (hexDigit n) = n := by
  have h : ∀ n : Fin 16, hexV (hexDigit n.val) = n.val := by decide +kernel
  exact fun n hn => h ⟨n, hn⟩

theorem digits_index (c : UInt8) (w : World) :
    Calls Try.prog 29 #[.string ⟨#[48, 49, 50, 51, 52, 53, 54, 55, 56, 57, 97, 98, 99, 100, 101, 102]⟩, .int .u8 (c.toNat : Int)] w fun e w' => e = .returned (.int .i64 (hexV c)) ∧ w = w' := by
  have h := stIndexByte_any ⟨#[48, 49, 50, 51, 52, 53, 54, 55, 56, 57, 97, 98, 99, 100, 101, 102]⟩ (c.toNat : Int) w
  have e : ((c.toNat : Int).toNat).toUInt8 = c := by simp
  rw [e] at h
  exact h

theorem hexByte_no (s : ByteArray) (w : World) (h0 : 0 < s.size) (h1 : 1 < s.size) (h2 : s.size ≤ 2) (hn : hexV s[0] < 0 ∨ hexV s[1] < 0) :
    Calls Try.prog 26 #[.string s] w (Gives (.tuple #[.int .u8 0, .bool false]) w) := by
  apply Gives.of
  have h' : ((s.size : Int) != 2) = false := by simp; omega
  by_cases hn0 : hexV s[0] < 0
  · go_enter Try.func26, Try.ntmps26
    go_wp2_with (go_at_call 29; refine (digits_index _ _).mono ?_; rintro e w' ⟨rfl, rfl⟩)
    go_ret2
    exact ⟨rfl, Below.refl _ _⟩
  · have hn1 : hexV s[1] < 0 := hn.resolve_left hn0
    clear hn
    go_enter Try.func26, Try.ntmps26
    go_wp2_with (go_at_call 29; refine (digits_index _ _).mono ?_; rintro e w' ⟨rfl, rfl⟩)
    go_ret2
    exact ⟨rfl, Below.refl _ _⟩

theorem ret_intB {k : IntKind} {a b : Int} {c : Bool} (h : a = b) : Ending.returned (.tuple #[.int k a, .bool c]) = .returned (.tuple #[.int k b, .bool c]) := by rw [h]
theorem or_two (x y : Int) (hx0 : 0 ≤ x) (hx : x < 16) (hy0 : 0 ≤ y) (hy : y < 16) : bits BinOp.or IntKind.i64 (x * 16) y % 256 = x * 16 + y := by
  have h : ∀ a b : Fin 16, bits BinOp.or IntKind.i64 ((a.val : Int) * 16) (b.val : Int) % 256 = (a.val : Int) * 16 + (b.val : Int) := by decide +kernel
  have h1 := h ⟨x.toNat, by omega⟩ ⟨y.toNat, by omega⟩
  simp only [Int.toNat_of_nonneg hx0, Int.toNat_of_nonneg hy0] at h1
  exact h1

theorem hexByte_yes (s : ByteArray) (w : World) (h0 : 0 < s.size) (h1 : 1 < s.size) (h2 : s.size ≤ 2) (hn0 : 0 ≤ hexV s[0]) (hn1 : 0 ≤ hexV s[1]) :
    Calls Try.prog 26 #[.string s] w (Gives (.tuple #[.int .u8 (hexV s[0] * 16 + hexV s[1]), .bool true]) w) := by
  apply Gives.of
  have h' : ((s.size : Int) != 2) = false := by simp; omega
  have b0 : hexV s[0] < 16 := by rcases hexV_spec s[0] with h | h <;> omega
  have b1 : hexV s[1] < 16 := by rcases hexV_spec s[1] with h | h <;> omega
  go_enter Try.func26, Try.ntmps26
  go_wp2_with (go_at_call 29; refine (digits_index _ _).mono ?_; rintro e w' ⟨rfl, rfl⟩)
  go_ret2
  exact ⟨ret_intB (or_two _ _ hn0 b0 hn1 b1), Below.refl _ _⟩

/-- The end of a word, or 0. -/
def wordE (s : ByteArray) : Int := if s.data.toList = [108, 102] then 1 else if s.data.toList = [99, 114, 108, 102] then 2 else if s.data.toList = [101, 105, 116, 104, 101, 114] then 3 else 0

theorem endOf_any (s : ByteArray) (w : World) :
    Calls Try.prog 27 #[.string s] w (Gives (.tuple #[.int .i64 (wordE s), .bool (wordE s != 0)]) w) := by
  apply Gives.of
  go_enter Try.func27, Try.ntmps27
  go_wp2
  all_goals go_ret2
  all_goals refine ⟨?_, Below.refl _ _⟩
  all_goals simp only [ByteArray.toList_eq] at *
  all_goals (unfold wordE; simp_all)

end Go.Proofs.Ytcnahofojjkacaa
