/-
  Walks: whether a text can be made a sequence.
-/
import Derived.Test.YtajedohgcepkiaaDoorRows
import Derived.Test.YtajedohgcepkiaaDoorUtM
namespace Go.Proofs.YtajedohgcepkiaaDoor.Utf
open Go.RowKit

/-- A text with three bytes more. -/
def more (s : ByteArray) (a b : Nat) : ByteArray := s ++ ⟨#[toB (128 + a), toB (128 + b), toB 128]⟩
def good (s : ByteArray) (a b : Nat) : Prop := s.size ≤ sizeM (more s a b) ∧ 0 < sizeM (more s a b)

/-- What goes says. -/
def GoesSays (s : ByteArray) (w : World) (e : Ending) (w' : World) : Prop :=
  ((e = .returned (.bool true) ∧ ∃ a b : Nat, a < 64 ∧ b < 64 ∧ (s.size ≤ 1 ∨ b = 0) ∧ good s a b) ∨
   (e = .returned (.bool false) ∧ ∀ a b : Nat, a < 64 → b < 64 → (s.size ≤ 1 ∨ b = 0) → ¬ good s a b)) ∧ Below w.heap.size w w'

theorem more_size (s : ByteArray) (a b : Nat) : (more s a b).size = s.size + 3 := by
  unfold more; rw [ByteArray.size_append]; rfl

theorem size_more (s : ByteArray) (a b : Nat) (w : World) (hs : s.size ≤ 200) : Calls Tryd.prog 29 #[.string (more s a b)] w (Gives (.int .i64 (sizeM (more s a b))) w) :=
  size_M _ w (by rw [more_size]; unfold maxLen; omega)

set_option maxHeartbeats 2000000 in
set_option maxRecDepth 100000 in
theorem goes_any (s : ByteArray) (w : World) (h1 : 1 ≤ s.size) (hs : s.size ≤ 200) : Calls Tryd.prog 60 #[.string s] w (GoesSays s w) := by
  have hcv := fun (W : World) (a b : Nat) (ha : a < 64) (hb : b < 64) => convert_ints (P := Tryd.prog) W 56 9 5 Tryd.underlying56 Tryd.underlying5 Tryd.underlying9 [128 + (a : Int), 128 + (b : Int), 128] (by simp; omega) 3 rfl _ rfl
  simp only [List.map] at hcv
  have HC := Lib.hid hcv
  clear hcv
  go_enter Tryd.func60, Tryd.ntmps60
  go_wp2
  go_loopw [3] (fun n wr => ∃ k : Nat, k ≤ 64 ∧ n = .int .i64 k ∧ Below w.heap.size w wr ∧ ∀ a b : Nat, a < k → b < 64 → (s.size ≤ 1 ∨ b = 0) → ¬ good s a b) (fun n _ => 65 - (intOf n).toNat)
  case atStart => exact ⟨0, by omega, rfl, Below.refl _ _, fun a b h => by omega⟩
  case round =>
    obtain ⟨k, hk, rfl, hb, hpast⟩ := hrel
    have HP := Lib.hid hpast
    clear hpast
    by_cases hlt : k < 64
    · have hd : decide ((k : Int) < 64) = true := decide_eq_true (by omega)
      go_wp2
      obtain ⟨wo, rfl⟩ : ∃ wo : World, wo = wr := ⟨_, rfl⟩
      go_loopw [4] (fun n wr => ∃ j : Nat, j ≤ 64 ∧ n = .int .i64 j ∧ Below w.heap.size w wr ∧ (s.size ≤ 1 ∨ j = 0) ∧ ∀ b : Nat, b < j → (s.size ≤ 1 ∨ b = 0) → ¬ good s k b) (fun n _ => 65 - (intOf n).toNat)
      case atStart => exact ⟨0, by omega, rfl, hb, .inr rfl, fun b h => by omega⟩
      case round =>
        obtain ⟨j, hj, rfl, hbi, hc, hpasti⟩ := hrel
        have HI := Lib.hid hpasti
        clear hpasti
        by_cases hjlt : j < 64
        · have hcv := fun W => HC.out W k j hlt hjlt
          obtain ⟨M, hM⟩ : ∃ M, sizeM (more s k j) = M := ⟨_, rfl⟩
          have HS : Hid (∀ W, Calls Tryd.prog 29 #[.string (s ++ ⟨#[toB (128 + (k : Int)), toB (128 + (j : Int)), toB 128]⟩)] W (Gives (.int .i64 M) W)) := by
            rw [← hM]; exact fun W => size_more s k j W hs
          have HM := Lib.hid hM
          clear hM
          have h3 : ∀ x y z : UInt8, (⟨#[x, y, z]⟩ : ByteArray).size = 3 := fun _ _ _ => rfl
          by_cases g1 : s.size ≤ M
          · have d1 : decide (s.size ≤ M) = true := decide_eq_true g1
            by_cases g2 : 0 < M
            · have g3 : (0 : Int) < (M : Int) := by omega
              have d2 : decide ((0 : Int) < (M : Int)) = true := decide_eq_true g3
              go_wp2_with (go_at_call 29; (first | (with_reducible refine (later_call _ (HS.out _)).mono ?_) | (with_reducible refine (call_later (HS.out _)).mono ?_)); rintro e w' ⟨rfl, x, rfl⟩)
              go_ret
              exact ⟨.inl ⟨rfl, k, j, hlt, hjlt, hc, by unfold good; rw [HM.out]; exact ⟨g1, g2⟩⟩, (by (repeat (first | (with_reducible exact hb) | (with_reducible exact hbi) | (with_reducible refine later_below _ ?_) | (with_reducible refine alloc_below ?_ _) | (with_reducible refine Below.drew ?_))))⟩
            · exfalso; omega
          · have d1 : decide (s.size ≤ M) = false := decide_eq_false g1
            by_cases hs1 : 1 < s.size
            · go_wp2_with (go_at_call 29; (first | (with_reducible refine (later_call _ (HS.out _)).mono ?_) | (with_reducible refine (call_later (HS.out _)).mono ?_)); rintro e w' ⟨rfl, x, rfl⟩)
              go_roundw
              case rel => exact ⟨k + 1, by omega, by go_num, (by (repeat (first | (with_reducible exact hb) | (with_reducible exact hbi) | (with_reducible refine later_below _ ?_) | (with_reducible refine alloc_below ?_ _) | (with_reducible refine Below.drew ?_)))), fun a b ha hb' hc' => by
                by_cases e : a = k
                · subst e
                  have e0 : b = 0 := by omega
                  have e1 : j = 0 := by omega
                  rw [e0, ← e1]; exact (fun hg => by unfold good at hg; rw [HM.out] at hg; omega)
                · exact HP.out a b (by omega) hb' hc'⟩
              case measure => simp [intOf]; omega
            · go_wp2_with (go_at_call 29; (first | (with_reducible refine (later_call _ (HS.out _)).mono ?_) | (with_reducible refine (call_later (HS.out _)).mono ?_)); rintro e w' ⟨rfl, x, rfl⟩)
              go_roundw
              case rel => exact ⟨j + 1, by omega, by go_num, (by (repeat (first | (with_reducible exact hb) | (with_reducible exact hbi) | (with_reducible refine later_below _ ?_) | (with_reducible refine alloc_below ?_ _) | (with_reducible refine Below.drew ?_)))), .inl (by omega), fun b hb' hc' => by
                by_cases e : b = j
                · rw [e]; exact (fun hg => by unfold good at hg; rw [HM.out] at hg; omega)
                · exact HI.out b (by omega) hc'⟩
              case measure => simp [intOf]; omega
        · go_wp2
          go_roundw
          case rel => exact ⟨k + 1, by omega, by go_num, (by (repeat (first | (with_reducible exact hb) | (with_reducible exact hbi) | (with_reducible refine later_below _ ?_) | (with_reducible refine alloc_below ?_ _) | (with_reducible refine Below.drew ?_)))), fun a b ha hb' hc' => by
            by_cases e : a = k
            · subst e
              exact HI.out b (by omega) hc'
            · exact HP.out a b (by omega) hb' hc'⟩
          case measure => simp [intOf]; omega
    · go_wp2
      go_ret
      exact ⟨.inr ⟨rfl, fun a b ha hb' hc => HP.out a b (by omega) hb' hc⟩, hb⟩

end Go.Proofs.YtajedohgcepkiaaDoor.Utf
