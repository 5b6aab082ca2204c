/-
  Walks: strings.IndexRune of the two ends of line, at what is no ASCII byte.
-/
import Derived.Test.YtajedohgcepkiaaDoorRows
import Derived.Test.YtajedohgcepkiaaDoorNdR
import Derived.Test.YtajedohgcepkiaaDoorNdSh
import Derived.Lib.Hide
import Derived.Lib.Bytealg
import Derived.Laws.RangeAny
import Derived.Laws.Runes
import Derived.WalkMore
import Derived.Handy
import Derived.Lib.DecodeN
namespace Go.Proofs.YtajedohgcepkiaaDoor
open Go.RowKit

theorem slIndexByte_any (s : ByteArray) (c : Int) (w : World) :
    Calls Tryd.prog 64 #[.string s, .int .u8 c] w fun e w' => e = .returned (.int .i64 (Lib.indexByte s.data.toList c.toNat.toUInt8)) ∧ w = w' := by
  go_enter Tryd.func64, Tryd.ntmps64
  go_wp2
  rw [run_callFunc_extern Tryd.func72 (by kernel_rfl) (by kernel_rfl) (by kernel_rfl) (e := Extern.BytealgIndexByte.indexByte) (by kernel_rfl), Lib.run_indexByteString]
  simp only [Result.andThen]
  rw [Oper.upon_value]
  go_wp2
  go_ret
  exact ⟨rfl, rfl⟩

theorem stIndexByte_any (s : ByteArray) (c : Int) (w : World) :
    Calls Tryd.prog 51 #[.string s, .int .u8 c] w fun e w' => e = .returned (.int .i64 (Lib.indexByte s.data.toList c.toNat.toUInt8)) ∧ w = w' := by
  go_enter Tryd.func51, Tryd.ntmps51
  go_wp2_with (go_at_call 64; refine (slIndexByte_any _ _ _).mono ?_; rintro e w' ⟨rfl, rfl⟩)
  go_ret
  exact ⟨rfl, rfl⟩

def crlf : ByteArray := ⟨#[13, 10]⟩

set_option maxRecDepth 100000 in
set_option maxHeartbeats 4000000 in
theorem indexRune_bad (w : World) : Calls Tryd.prog 73 #[.string crlf, .int .i32 65533] w (Gives (.int .i64 (-1)) w) := by
  apply Gives.of
  unfold crlf
  have n0 := fun ty => run_next_ascii (P := Tryd.prog) w ⟨#[13, 10]⟩ 0 ty (by decide) (by decide)
  have n1 := fun ty => run_next_ascii (P := Tryd.prog) w ⟨#[13, 10]⟩ 1 ty (by decide) (by decide)
  have n2 := fun ty => run_next_end (P := Tryd.prog) w ⟨#[13, 10]⟩ 2 ty (by decide)
  go_enter Tryd.func73, Tryd.ntmps73
  go_wp2
  go_loopw [5, 6] (fun _ _ (wr : World) => ∃ k : Nat, k ≤ 2 ∧ wr = w.iter ⟨#[13, 10]⟩ k) (fun _ _ wr => 3 - wr.iterPos w.heap.size)
  case atStart => exact ⟨0, by omega, rfl⟩
  case round =>
    obtain ⟨k, hk, rfl⟩ := hrel
    obtain rfl | rfl | rfl : k = 0 ∨ k = 1 ∨ k = 2 := by omega
    · go_wp2
      go_roundw
      case rel => exact ⟨1, by omega, rfl⟩
      case measure => simp
    · go_wp2
      go_roundw
      case rel => exact ⟨2, by omega, rfl⟩
      case measure => simp
    · go_wp2
      go_ret
      exact ⟨rfl, (Below.refl _ _).alloc (Nat.le_refl _) _⟩

theorem enc_two (r : Nat) (h0 : 128 ≤ r) (h1 : r < 2048) : Utf8.encode (r : Int) = ⟨#[UInt8.ofNat (192 + r / 64), UInt8.ofNat (128 + r % 64)]⟩ := by
  have v : Utf8.valid (r : Int) = true := by simp [Utf8.valid]; omega
  simp [Utf8.encode, v, h1, show ¬ r < 128 by omega]
theorem enc_more (r : Nat) (h1 : 2048 ≤ r) (hv : Utf8.valid (r : Int) = true) : 3 ≤ (Utf8.encode (r : Int)).size ∧ (Utf8.encode (r : Int)).size ≤ 4 := by
  unfold Utf8.encode
  rw [hv]
  simp only [if_true, Int.toNat_natCast]
  rw [if_neg (by omega), if_neg (by omega)]
  split
  · exact ⟨Nat.le_refl _, by show 3 ≤ 4; omega⟩
  · exact ⟨by show 3 ≤ 4; omega, Nat.le_refl _⟩

set_option maxRecDepth 100000 in
set_option maxHeartbeats 4000000 in
theorem indexRune_two (r : Nat) (w : World) (h0 : 128 ≤ r) (h1 : r < 2048) : Calls Tryd.prog 73 #[.string crlf, .int .i32 r] w (Gives (.int .i64 (-1)) w) := by
  apply Gives.of
  unfold crlf
  have he := enc_two r h0 h1
  have hvr : Lib.validRune (r : Int) = true := decide_eq_true (.inl (by omega))
  have HV : Hid (∀ W, Calls Tryd.prog 78 #[.int .i32 r] W (Gives (.bool true) W)) := Lib.hid (fun W => Gives.same (by have := Sh.utf8_ValidRune (r : Int) W; rw [hvr] at this; exact this))
  obtain ⟨x, hx⟩ : ∃ x, UInt8.ofNat (192 + r / 64) = x := ⟨_, rfl⟩
  obtain ⟨y, hy⟩ : ∃ y, UInt8.ofNat (128 + r % 64) = y := ⟨_, rfl⟩
  have hyv : y.toNat = 128 + r % 64 := by rw [← hy, UInt8.toNat_ofNat']; omega
  rw [hx, hy] at he
  have g0 : decide ((0 : Int) ≤ (r : Int)) = true := decide_eq_true (by omega)
  have g1 : (0 : Int) ≤ (r : Int) := by omega
  have g2 : ¬ (r : Int) < 128 := by omega
  have g3 : decide ((r : Int) < 128) = false := decide_eq_false g2
  have g4 : ((r : Int) == 65533) = false := beq_eq_false_iff_ne.2 (by omega)
  have g5 : (10 : Int) ≠ (y.toNat : Int) := by omega
  have g6 : ((10 : Int) != (y.toNat : Int)) = true := by simp; omega
  have g7 : ((10 : Int) == (y.toNat : Int)) = false := by simp; omega
  have HIB : Hid (∀ W, Calls Tryd.prog 51 #[.string ⟨#[]⟩, .int .u8 (y.toNat : Int)] W (Gives (.int .i64 (-1)) W)) := Lib.hid (fun W => Gives.same_left (stIndexByte_any ⟨#[]⟩ _ W))
  have f1 : ((⟨#[13, 10]⟩ : ByteArray)[1]'(by decide)).toNat = 10 := rfl
  have f2 : ((⟨#[x, y]⟩ : ByteArray)[1]'(by show 1 < 2; omega)) = y := rfl
  clear hx hy h0 h1 hvr hyv g5
  go_enter Tryd.func73, Tryd.ntmps73
  go_wp2_with (go_at_call 78; (first | (with_reducible refine (later_call _ (HV.out _)).mono ?_) | (with_reducible refine (call_later (HV.out _)).mono ?_)); rintro e w' ⟨rfl, x, rfl⟩)
  go_step3
  go_wp2
  go_loopw [9, 10] (fun i c (wr : World) => i = .int .i64 1 ∧ c = .int .i64 0 ∧ Below w.heap.size w wr) (fun _ _ _ => 0)
  case atStart => exact ⟨rfl, rfl, by (repeat (first | (with_reducible exact Below.refl _ _) | (with_reducible refine later_below _ ?_) | (with_reducible refine alloc_below ?_ _) | (with_reducible refine Below.drew ?_) | (refine Below.setCell ?_ (by first | exact Nat.le_refl _ | (simp; done) | (simp; omega) | omega) _)))⟩
  case round =>
    obtain ⟨rfl, rfl, hb⟩ := hrel
    go_wp2
    go_step3
    go_wp2
    refine wp_region_later_lit (by kernel_rfl) (by kernel_rfl) ?_
    repeat (go_big_quiet_step (fail))
    refine wpQuiet_nil ?_
    rintro w' ⟨y1, rfl⟩
    go_wp2
    refine wp_region_later_lit (by kernel_rfl) (by kernel_rfl) ?_
    repeat (go_big_quiet_step (first | (go_at_call 51; exact later_call _ (HIB.out _))))
    refine wpQuiet_nil ?_
    rintro w' ⟨y2, rfl⟩
    go_wp2
    simp +zetaDelta only [Exit.noGoto_ret, Exit.inBlock, Exit.then]
    go_ret
    exact ⟨rfl, later_below _ (later_below _ hb)⟩

set_option maxRecDepth 100000 in
set_option maxHeartbeats 4000000 in
theorem indexRune_more (r : Nat) (w : World) (h0 : 2048 ≤ r) (h1 : r ≤ 1114111) (h2 : r ≠ 65533) : Calls Tryd.prog 73 #[.string crlf, .int .i32 r] w (Gives (.int .i64 (-1)) w) := by
  apply Gives.of
  unfold crlf
  have g0 : decide ((0 : Int) ≤ (r : Int)) = true := decide_eq_true (by omega)
  have g1 : (0 : Int) ≤ (r : Int) := by omega
  have g2 : ¬ (r : Int) < 128 := by omega
  have g3 : decide ((r : Int) < 128) = false := decide_eq_false g2
  have g4 : ((r : Int) == 65533) = false := beq_eq_false_iff_ne.2 (by omega)
  cases hv : Utf8.valid (r : Int)
  · have hvr : Lib.validRune (r : Int) = false := by rw [validRune_eq] at hv; exact hv
    have HV : Hid (∀ W, Calls Tryd.prog 78 #[.int .i32 r] W (Gives (.bool false) W)) := Lib.hid (fun W => Gives.same (by have := Sh.utf8_ValidRune (r : Int) W; rw [hvr] at this; exact this))
    clear h0 h1 h2 hv hvr
    go_enter Tryd.func73, Tryd.ntmps73
    go_wp2_with (go_at_call 78; (first | (with_reducible refine (later_call _ (HV.out _)).mono ?_) | (with_reducible refine (call_later (HV.out _)).mono ?_)); rintro e w' ⟨rfl, x, rfl⟩)
    go_ret
    exact ⟨rfl, Later.below _⟩
  · have hvr : Lib.validRune (r : Int) = true := by rw [validRune_eq] at hv; exact hv
    have HV : Hid (∀ W, Calls Tryd.prog 78 #[.int .i32 r] W (Gives (.bool true) W)) := Lib.hid (fun W => Gives.same (by have := Sh.utf8_ValidRune (r : Int) W; rw [hvr] at this; exact this))
    obtain ⟨e3, e4⟩ := enc_more r h0 hv
    obtain ⟨E, hE⟩ : ∃ E, Utf8.encode (r : Int) = E := ⟨_, rfl⟩
    rw [hE] at e3 e4
    obtain ⟨Z, hZ⟩ : ∃ Z, wrap64 ((E.size : Int) - 1) = Z := ⟨_, rfl⟩
    have k1 : ¬ (Z < 2) := by unfold wrap64 at hZ; omega
    clear h0 h1 h2 hv hvr e3 e4
    go_enter Tryd.func73, Tryd.ntmps73
    go_wp2_with (go_at_call 78; (first | (with_reducible refine (later_call _ (HV.out _)).mono ?_) | (with_reducible refine (call_later (HV.out _)).mono ?_)); rintro e w' ⟨rfl, x, rfl⟩)
    go_step3
    go_wp2
    go_loopw [9, 10] (fun i c (wr : World) => i = .int .i64 Z ∧ c = .int .i64 0 ∧ Below w.heap.size w wr) (fun _ _ _ => 0)
    case atStart => exact ⟨by first | rfl | rw [hZ], rfl, by (repeat (first | (with_reducible exact Below.refl _ _) | (with_reducible refine later_below _ ?_) | (with_reducible refine alloc_below ?_ _) | (with_reducible refine Below.drew ?_) | (refine Below.setCell ?_ (by first | exact Nat.le_refl _ | (simp; done) | (simp; omega) | omega) _)))⟩
    case round =>
      obtain ⟨rfl, rfl, hb⟩ := hrel
      clear hZ hE
      go_wp2
      rw [Exit.noGoto_ret]
      simp only [Exit.inBlock]
      go_ret
      exact ⟨rfl, hb⟩

/-- A rune that begins at a byte that is no ASCII one is none of the two, and none of its bytes is. -/
theorem indexRune_high (r : Nat) (w : World) (h0 : 128 ≤ r) (h1 : r ≤ 1114111) : Calls Tryd.prog 73 #[.string crlf, .int .i32 r] w (Gives (.int .i64 (-1)) w) := by
  by_cases h2 : r = 65533
  · subst h2; exact indexRune_bad w
  · by_cases h3 : r < 2048
    · exact indexRune_two r w h0 h3
    · exact indexRune_more r w (by omega) h1 h2

theorem get_byt (s : ByteArray) (i : Nat) (h : i < s.size) : ((s.get! i).toNat : Int) = byt s i := by
  rw [← byt_eq s i h]
  congr 2
  simp [ByteArray.get!, h]
  rfl

theorem decode_span (s : ByteArray) (i : Nat) (h : i < s.size) (ha : 128 ≤ byt s i) :
    128 ≤ (Utf8.decode s i).1 ∧ (Utf8.decode s i).1 ≤ 1114111 ∧ 1 ≤ (Utf8.decode s i).2 ∧ i + (Utf8.decode s i).2 ≤ s.size ∧ ∀ j, i ≤ j → j < i + (Utf8.decode s i).2 → 128 ≤ byt s j := by
  rw [Lib.decode_at]
  have g0 := get_byt s i h
  have g1 := fun h => get_byt s (i + 1) h
  have g2 := fun h => get_byt s (i + 2) h
  have g3 := fun h => get_byt s (i + 3) h
  have l0 := (s.get! i).toNat_lt
  have l1 := (s.get! (i + 1)).toNat_lt
  have l2 := (s.get! (i + 2)).toNat_lt
  have l3 := (s.get! (i + 3)).toNat_lt
  generalize (s.get! i).toNat = b0 at *
  generalize (s.get! (i + 1)).toNat = b1 at *
  generalize (s.get! (i + 2)).toNat = b2 at *
  generalize (s.get! (i + 3)).toNat = b3 at *
  have hb : 128 ≤ b0 := by omega
  unfold Lib.decodeN
  rw [if_neg (by omega)]
  have sp : ∀ k j, k ≤ 4 → i ≤ j → j < i + k → j = i ∨ (2 ≤ k ∧ j = i + 1) ∨ (3 ≤ k ∧ j = i + 2) ∨ (4 ≤ k ∧ j = i + 3) := by intro k j _ _ _; omega
  repeat' split
  all_goals simp only []
  all_goals refine ⟨by omega, by omega, by omega, by omega, fun j h1 h2 => ?_⟩
  all_goals (rcases sp _ j (by omega) h1 h2 with rfl | ⟨hk, rfl⟩ | ⟨hk, rfl⟩ | ⟨hk, rfl⟩)
  all_goals first
    | omega
    | (have := g1 (by omega); omega)
    | (have := g2 (by omega); omega)
    | (have := g3 (by omega); omega)

end Go.Proofs.YtajedohgcepkiaaDoor
