/-
  Walks: the document's dialect of a text.
-/
import Derived.Test.YtcnahofojjkacaaRows
import Derived.Test.YtcnahofojjkacaaDialM
namespace Go.Proofs.Ytcnahofojjkacaa
open Go.RowKit

theorem hexV_cases (b : UInt8) : ((48 ≤ (b.toNat : Int) ∧ (b.toNat : Int) ≤ 57) → (b.toNat : Int) - 48 = hexV b) ∧ ((97 ≤ (b.toNat : Int) ∧ (b.toNat : Int) ≤ 102) → (b.toNat : Int) - 97 + 10 = hexV b) ∧
    (¬ (48 ≤ (b.toNat : Int) ∧ (b.toNat : Int) ≤ 57) → ¬ (97 ≤ (b.toNat : Int) ∧ (b.toNat : Int) ≤ 102) → hexV b = -1) := by
  have h : ∀ n : Fin 256, ((48 ≤ ((UInt8.ofNat n.val).toNat : Int) ∧ ((UInt8.ofNat n.val).toNat : Int) ≤ 57) → ((UInt8.ofNat n.val).toNat : Int) - 48 = hexV (UInt8.ofNat n.val)) ∧ ((97 ≤ ((UInt8.ofNat n.val).toNat : Int) ∧ ((UInt8.ofNat n.val).toNat : Int) ≤ 102) → ((UInt8.ofNat n.val).toNat : Int) - 97 + 10 = hexV (UInt8.ofNat n.val)) ∧
    (¬ (48 ≤ ((UInt8.ofNat n.val).toNat : Int) ∧ ((UInt8.ofNat n.val).toNat : Int) ≤ 57) → ¬ (97 ≤ ((UInt8.ofNat n.val).toNat : Int) ∧ ((UInt8.ofNat n.val).toNat : Int) ≤ 102) → hexV (UInt8.ofNat n.val) = -1) := by decide +kernel
  have := h ⟨b.toNat, b.toNat_lt⟩
  simpa using this

/-- What the first k of four digits are, behind k rounds. -/
def RF (k : Nat) (b0 b1 b2 b3 : UInt8) (v0 v1 v2 v3 : Int) : Prop :=
  (0 < k → v0 = hexV b0 ∧ 0 ≤ v0) ∧ (1 < k → v1 = hexV b1 ∧ 0 ≤ v1) ∧ (2 < k → v2 = hexV b2 ∧ 0 ≤ v2) ∧ (3 < k → v3 = hexV b3 ∧ 0 ≤ v3) ∧
  (k ≤ 0 → v0 = -1) ∧ (k ≤ 1 → v1 = -1) ∧ (k ≤ 2 → v2 = -1) ∧ (k ≤ 3 → v3 = -1)

def NoForm (s : ByteArray) : Prop := ∀ (p q : Nat) (n : Int), p < 256 → q < 256 → (n = 1 ∨ n = 2 ∨ n = 3) → s ≠ dialT p q n

/-- What the document's Parse may say of a text. -/
def RefSays (s : ByteArray) (w : World) (e : Ending) (w' : World) : Prop :=
  ((∃ (p q : Nat) (n : Int), p < 256 ∧ q < 256 ∧ (n = 1 ∨ n = 2 ∨ n = 3) ∧ s = dialT p q n ∧ e = .returned (.tuple #[.agg #[.int .i64 p, .int .i64 q, .int .i64 n], .bool true])) ∨
   (NoForm s ∧ e = .returned (.tuple #[.agg #[.int .i64 0, .int .i64 0, .int .i64 0], .bool false]))) ∧ Below w.heap.size w w'

theorem form_bytes (s : ByteArray) (p q : Nat) (n : Int) (h8 : 8 ≤ s.size) (h : s = dialT p q n) :
    s[0]'(by omega) = hexDigit (p / 16) ∧ s[1]'(by omega) = hexDigit (p % 16) ∧ s[3]'(by omega) = hexDigit (q / 16) ∧ s[4]'(by omega) = hexDigit (q % 16) := by
  have hl : s.data.toList = [hexDigit (p / 16), hexDigit (p % 16), 32, hexDigit (q / 16), hexDigit (q % 16), 32] ++ (endW n).data.toList := by rw [h]; exact dialT_list p q n
  have b0 := byte_list s 0 (by omega)
  have b1 := byte_list s 1 (by omega)
  have b3 := byte_list s 3 (by omega)
  have b4 := byte_list s 4 (by omega)
  rw [hl] at b0 b1 b3 b4
  simp at b0 b1 b3 b4
  exact ⟨b0.symm, b1.symm, b3.symm, b4.symm⟩

theorem noForm_of (s : ByteArray) (b0 b1 b2 b3 : UInt8) (h8 : 8 ≤ s.size) (e0 : s[0]'(by omega) = b0) (e1 : s[1]'(by omega) = b1) (e2 : s[3]'(by omega) = b2) (e3 : s[4]'(by omega) = b3)
    (h : hexV b0 = -1 ∨ hexV b1 = -1 ∨ hexV b2 = -1 ∨ hexV b3 = -1) : NoForm s := by
  intro p q n hp hq hn hs
  obtain ⟨k0, k1, k2, k3⟩ := form_bytes s p q n h8 hs
  rw [e0] at k0; rw [e1] at k1; rw [e2] at k2; rw [e3] at k3
  have j0 := hexV_digit (p / 16) (by omega)
  have j1 := hexV_digit (p % 16) (by omega)
  have j2 := hexV_digit (q / 16) (by omega)
  have j3 := hexV_digit (q % 16) (by omega)
  rw [k0, k1, k2, k3] at h
  omega

theorem noForm_size (s : ByteArray) (h : s.size < 8 ∨ 12 < s.size) : NoForm s := by
  intro p q n _ _ hn hs
  have := dialT_size p q n hn
  rw [← hs] at this
  omega

theorem noForm_words (s : ByteArray) (b0 b1 b2 b3 : UInt8) (v0 v1 v2 v3 : Int) (h8 : 8 ≤ s.size) (e0 : s[0]'(by omega) = b0) (e1 : s[1]'(by omega) = b1) (e2 : s[3]'(by omega) = b2) (e3 : s[4]'(by omega) = b3)
    (hf : RF 4 b0 b1 b2 b3 v0 v1 v2 v3) (h1 : ¬ dialT (v0 * 16 + v1).toNat (v2 * 16 + v3).toNat 1 = s) (h2 : ¬ dialT (v0 * 16 + v1).toNat (v2 * 16 + v3).toNat 2 = s) (h3 : ¬ dialT (v0 * 16 + v1).toNat (v2 * 16 + v3).toNat 3 = s) : NoForm s := by
  intro p q n hp hq hn hs
  obtain ⟨k0, k1, k2, k3⟩ := form_bytes s p q n h8 hs
  rw [e0] at k0; rw [e1] at k1; rw [e2] at k2; rw [e3] at k3
  have j0 := hexV_digit (p / 16) (by omega)
  have j1 := hexV_digit (p % 16) (by omega)
  have j2 := hexV_digit (q / 16) (by omega)
  have j3 := hexV_digit (q % 16) (by omega)
  obtain ⟨f0, f1, f2, f3, _⟩ := hf
  have g0 := (f0 (by omega)).1
  have g1 := (f1 (by omega)).1
  have g2 := (f2 (by omega)).1
  have g3 := (f3 (by omega)).1
  rw [k0] at g0; rw [k1] at g1; rw [k2] at g2; rw [k3] at g3
  have ep : (v0 * 16 + v1).toNat = p := by omega
  have eq : (v2 * 16 + v3).toNat = q := by omega
  rw [ep, eq] at h1 h2 h3
  rcases hn with rfl | rfl | rfl
  · exact h1 hs.symm
  · exact h2 hs.symm
  · exact h3 hs.symm

theorem RF_range {b0 b1 b2 b3 : UInt8} {v0 v1 v2 v3 : Int} (hf : RF 4 b0 b1 b2 b3 v0 v1 v2 v3) : (0 ≤ v0 ∧ v0 < 16) ∧ (0 ≤ v1 ∧ v1 < 16) ∧ (0 ≤ v2 ∧ v2 < 16) ∧ (0 ≤ v3 ∧ v3 < 16) := by
  obtain ⟨f0, f1, f2, f3, _⟩ := hf
  obtain ⟨g0, h0⟩ := f0 (by omega)
  obtain ⟨g1, h1⟩ := f1 (by omega)
  obtain ⟨g2, h2⟩ := f2 (by omega)
  obtain ⟨g3, h3⟩ := f3 (by omega)
  rcases hexV_spec b0 with k | k <;> rcases hexV_spec b1 with k' | k' <;> rcases hexV_spec b2 with k'' | k'' <;> rcases hexV_spec b3 with k3 | k3 <;> omega

theorem found_says (s : ByteArray) (w w' : World) (a b n : Int) (h : ((dialT a.toNat b.toNat n).toList == s.toList) = true) (ha : 0 ≤ a ∧ a < 256) (hb : 0 ≤ b ∧ b < 256) (hn : n = 1 ∨ n = 2 ∨ n = 3) (hB : Below w.heap.size w w') :
    RefSays s w (.returned (.tuple #[.agg #[.int .i64 a, .int .i64 b, .int .i64 n], .bool true])) w' := by
  have h1 : (dialT a.toNat b.toNat n).toList = s.toList := by simpa using h
  rw [ByteArray.toList_eq, ByteArray.toList_eq] at h1
  exact ⟨.inl ⟨a.toNat, b.toNat, n, by omega, by omega, hn, (bytes_ext h1).symm, by rw [Int.toNat_of_nonneg ha.1, Int.toNat_of_nonneg hb.1]⟩, hB⟩

theorem ne_of_test (s t : ByteArray) (h : (t.toList == s.toList) = false) : ¬ t = s := by
  rintro rfl
  simp at h

theorem refTextI (a b : Int) (n : Int) (w : World) (ha : 0 ≤ a ∧ a < 256) (hb : 0 ≤ b ∧ b < 256) (hn : n = 1 ∨ n = 2 ∨ n = 3) :
    Calls Try.prog 14 #[.agg #[.int .i64 a, .int .i64 b, .int .i64 n]] w (Gives (.string (dialT a.toNat b.toNat n)) w) := by
  have h := refText_any a.toNat b.toNat n w (by omega) (by omega) hn
  rwa [Int.toNat_of_nonneg ha.1, Int.toNat_of_nonneg hb.1] at h

set_option maxHeartbeats 1000000 in
theorem refParse_any (s : ByteArray) (w : World) (h8 : 8 ≤ s.size) (h12 : s.size ≤ 12) :
    Calls Try.prog 20 #[.string s] w (RefSays s w) := by
  have i0 : ∀ w, (Instr.index 63 (.agg #[.int .i64 0, .int .i64 1, .int .i64 3, .int .i64 4]) (.int .i64 0)).run Try.prog w = .ok (.int .i64 0) w := fun _ => by kernel_rfl
  have i1 : ∀ w, (Instr.index 63 (.agg #[.int .i64 0, .int .i64 1, .int .i64 3, .int .i64 4]) (.int .i64 1)).run Try.prog w = .ok (.int .i64 1) w := fun _ => by kernel_rfl
  have i2 : ∀ w, (Instr.index 63 (.agg #[.int .i64 0, .int .i64 1, .int .i64 3, .int .i64 4]) (.int .i64 2)).run Try.prog w = .ok (.int .i64 3) w := fun _ => by kernel_rfl
  have i3 : ∀ w, (Instr.index 63 (.agg #[.int .i64 0, .int .i64 1, .int .i64 3, .int .i64 4]) (.int .i64 3)).run Try.prog w = .ok (.int .i64 4) w := fun _ => by kernel_rfl
  have l0 : s[0]'(by omega) = s[0]'(by omega) := rfl
  obtain ⟨b0, e0⟩ : ∃ b, s[0]'(by omega) = b := ⟨_, rfl⟩
  obtain ⟨b1, e1⟩ : ∃ b, s[1]'(by omega) = b := ⟨_, rfl⟩
  obtain ⟨b2, e2⟩ : ∃ b, s[3]'(by omega) = b := ⟨_, rfl⟩
  obtain ⟨b3, e3⟩ : ∃ b, s[4]'(by omega) = b := ⟨_, rfl⟩
  clear l0
  have t0 : (b0.toNat : Int) ≤ 255 := by have := b0.toNat_lt; omega
  have t1 : (b1.toNat : Int) ≤ 255 := by have := b1.toNat_lt; omega
  have t2 : (b2.toNat : Int) ≤ 255 := by have := b2.toNat_lt; omega
  have t3 : (b3.toNat : Int) ≤ 255 := by have := b3.toNat_lt; omega
  have hcell := fun (W : World) (x : Later W) => x.cell
  have hfrozen := fun (W : World) (x : Later W) => x.frozen
  have hset := set_same
  go_enter Try.func20, Try.ntmps20
  go_wp2
  go_loopw [5] (fun i wr => ∃ k : Nat, k ≤ 4 ∧ i = .int .i64 k ∧ ∃ v0 v1 v2 v3 : Int, wr = (w.alloc (.cells #[.int .i64 0, .int .i64 0, .int .i64 0] 29)).alloc (.cells #[.int .i64 v0, .int .i64 v1, .int .i64 v2, .int .i64 v3] 63) ∧ RF k b0 b1 b2 b3 v0 v1 v2 v3) (fun i _ => 4 - (intOf i).toNat)
  case atStart => exact ⟨0, by omega, rfl, -1, -1, -1, -1, rfl, by unfold RF; omega⟩
  case round =>
    obtain ⟨k, hk, rfl, v0, v1, v2, v3, rfl, hf⟩ := hrel
    have hk' : k = 0 ∨ k = 1 ∨ k = 2 ∨ k = 3 ∨ k = 4 := by omega
    rcases hk' with rfl | rfl | rfl | rfl | rfl
    · have hv : v0 = -1 := by unfold RF at hf; omega
      subst hv
      have HF := Lib.hid hf
      clear hf
      go_wp2
      all_goals first
        | (refine bodyPost_ret (v := .tuple #[.agg #[.int .i64 0, .int .i64 0, .int .i64 0], .bool false]) (by simp [results, Try.results20, go_sem]) rfl ⟨.inr ⟨noForm_of s b0 b1 b2 b3 (by omega) e0 e1 e2 e3 (by have hc := (hexV_cases b0).2.2 (by omega) (by omega); omega), rfl⟩, ?_⟩; (repeat (first | (with_reducible exact Below.refl _ _) | (with_reducible refine later_below _ ?_) | (with_reducible refine alloc_below ?_ _) | (with_reducible refine Below.drew ?_) | (refine Below.setCell ?_ (by first | exact Nat.le_refl _ | (simp; done) | (simp; omega) | omega) _))))
        | (go_roundw
           case rel => (refine ⟨1, by omega, by go_num, _, v1, v2, v3, rfl, ?_⟩; have h0 := HF.out; have hc := hexV_cases b0; unfold RF at *; omega)
           case measure => simp [intOf])
    · have hv : v1 = -1 := by unfold RF at hf; omega
      subst hv
      have HF := Lib.hid hf
      clear hf
      go_wp2
      all_goals first
        | (refine bodyPost_ret (v := .tuple #[.agg #[.int .i64 0, .int .i64 0, .int .i64 0], .bool false]) (by simp [results, Try.results20, go_sem]) rfl ⟨.inr ⟨noForm_of s b0 b1 b2 b3 (by omega) e0 e1 e2 e3 (by have hc := (hexV_cases b1).2.2 (by omega) (by omega); omega), rfl⟩, ?_⟩; (repeat (first | (with_reducible exact Below.refl _ _) | (with_reducible refine later_below _ ?_) | (with_reducible refine alloc_below ?_ _) | (with_reducible refine Below.drew ?_) | (refine Below.setCell ?_ (by first | exact Nat.le_refl _ | (simp; done) | (simp; omega) | omega) _))))
        | (go_roundw
           case rel => (refine ⟨2, by omega, by go_num, v0, _, v2, v3, rfl, ?_⟩; have h0 := HF.out; have hc := hexV_cases b1; unfold RF at *; omega)
           case measure => simp [intOf])
    · have hv : v2 = -1 := by unfold RF at hf; omega
      subst hv
      have HF := Lib.hid hf
      clear hf
      go_wp2
      all_goals first
        | (refine bodyPost_ret (v := .tuple #[.agg #[.int .i64 0, .int .i64 0, .int .i64 0], .bool false]) (by simp [results, Try.results20, go_sem]) rfl ⟨.inr ⟨noForm_of s b0 b1 b2 b3 (by omega) e0 e1 e2 e3 (by have hc := (hexV_cases b2).2.2 (by omega) (by omega); omega), rfl⟩, ?_⟩; (repeat (first | (with_reducible exact Below.refl _ _) | (with_reducible refine later_below _ ?_) | (with_reducible refine alloc_below ?_ _) | (with_reducible refine Below.drew ?_) | (refine Below.setCell ?_ (by first | exact Nat.le_refl _ | (simp; done) | (simp; omega) | omega) _))))
        | (go_roundw
           case rel => (refine ⟨3, by omega, by go_num, v0, v1, _, v3, rfl, ?_⟩; have h0 := HF.out; have hc := hexV_cases b2; unfold RF at *; omega)
           case measure => simp [intOf])
    · have hv : v3 = -1 := by unfold RF at hf; omega
      subst hv
      have HF := Lib.hid hf
      clear hf
      go_wp2
      all_goals first
        | (refine bodyPost_ret (v := .tuple #[.agg #[.int .i64 0, .int .i64 0, .int .i64 0], .bool false]) (by simp [results, Try.results20, go_sem]) rfl ⟨.inr ⟨noForm_of s b0 b1 b2 b3 (by omega) e0 e1 e2 e3 (by have hc := (hexV_cases b3).2.2 (by omega) (by omega); omega), rfl⟩, ?_⟩; (repeat (first | (with_reducible exact Below.refl _ _) | (with_reducible refine later_below _ ?_) | (with_reducible refine alloc_below ?_ _) | (with_reducible refine Below.drew ?_) | (refine Below.setCell ?_ (by first | exact Nat.le_refl _ | (simp; done) | (simp; omega) | omega) _))))
        | (go_roundw
           case rel => (refine ⟨4, by omega, by go_num, v0, v1, v2, _, rfl, ?_⟩; have h0 := HF.out; have hc := hexV_cases b3; unfold RF at *; omega)
           case measure => simp [intOf])
    · have hr := RF_range hf
      have HF := Lib.hid hf
      clear hf
      go_wp2
      refine wp_loop_rounds 4 ?_
      repeat any_goals (rw [rounds_succ]; go_wp2_with ((go_at_call 14; (first | (with_reducible refine (later_call _ (refTextI _ _ _ _ (by omega) (by omega) (by omega))).mono ?_) | (with_reducible refine (call_later (refTextI _ _ _ _ (by omega) (by omega) (by omega))).mono ?_)); rintro e w' ⟨rfl, x, rfl⟩); have hz : w.heap.size + 1 < x.w.heap.size := (by have := x.size; simp at this; omega); have hz2 : w.heap.size + 1 < x.w.heap.size + 1 := (by omega); have hz3 : w.heap.size < x.w.heap.size := (by omega); have hz4 : w.heap.size < x.w.heap.size + 1 := (by omega)))
      · refine bodyPost_ret (v := .tuple #[.agg #[.int .i64 (v0 * 16 + v1), .int .i64 (v2 * 16 + v3), .int .i64 1], .bool true]) (by simp (maxDischargeDepth := 8) [results, Try.results20, go_sem, *]) rfl (found_says s w _ _ _ 1 (by assumption) (by omega) (by omega) (by omega) ?_)
        (repeat (first | (with_reducible exact Below.refl _ _) | (with_reducible refine later_below _ ?_) | (with_reducible refine alloc_below ?_ _) | (with_reducible refine Below.drew ?_) | (refine Below.setCell ?_ (by first | exact Nat.le_refl _ | (simp; done) | (simp; omega) | omega) _)))
      · refine bodyPost_ret (v := .tuple #[.agg #[.int .i64 (v0 * 16 + v1), .int .i64 (v2 * 16 + v3), .int .i64 2], .bool true]) (by simp (maxDischargeDepth := 8) [results, Try.results20, go_sem, *]) rfl (found_says s w _ _ _ 2 (by assumption) (by omega) (by omega) (by omega) ?_)
        (repeat (first | (with_reducible exact Below.refl _ _) | (with_reducible refine later_below _ ?_) | (with_reducible refine alloc_below ?_ _) | (with_reducible refine Below.drew ?_) | (refine Below.setCell ?_ (by first | exact Nat.le_refl _ | (simp; done) | (simp; omega) | omega) _)))
      · refine bodyPost_ret (v := .tuple #[.agg #[.int .i64 (v0 * 16 + v1), .int .i64 (v2 * 16 + v3), .int .i64 3], .bool true]) (by simp (maxDischargeDepth := 8) [results, Try.results20, go_sem, *]) rfl (found_says s w _ _ _ 3 (by assumption) (by omega) (by omega) (by omega) ?_)
        (repeat (first | (with_reducible exact Below.refl _ _) | (with_reducible refine later_below _ ?_) | (with_reducible refine alloc_below ?_ _) | (with_reducible refine Below.drew ?_) | (refine Below.setCell ?_ (by first | exact Nat.le_refl _ | (simp; done) | (simp; omega) | omega) _)))
      · refine bodyPost_ret (v := .tuple #[.agg #[.int .i64 0, .int .i64 0, .int .i64 0], .bool false]) (by simp (maxDischargeDepth := 8) [results, Try.results20, go_sem, *]) rfl ⟨.inr ⟨noForm_words s b0 b1 b2 b3 v0 v1 v2 v3 (by omega) e0 e1 e2 e3 HF.out (ne_of_test _ _ (by assumption)) (ne_of_test _ _ (by assumption)) (ne_of_test _ _ (by assumption)), rfl⟩, ?_⟩
        (repeat (first | (with_reducible exact Below.refl _ _) | (with_reducible refine later_below _ ?_) | (with_reducible refine alloc_below ?_ _) | (with_reducible refine Below.drew ?_) | (refine Below.setCell ?_ (by first | exact Nat.le_refl _ | (simp; done) | (simp; omega) | omega) _)))

end Go.Proofs.Ytcnahofojjkacaa
