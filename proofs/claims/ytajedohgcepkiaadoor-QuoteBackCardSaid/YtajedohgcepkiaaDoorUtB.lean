/-
  The states of UTF-8 at every place of a text, and what the document's answers are in their words: plain mathematics.
-/
import Derived.Test.YtajedohgcepkiaaDoorRows
import Derived.Test.YtajedohgcepkiaaDoorUtA
namespace Go.Proofs.YtajedohgcepkiaaDoor.Utf
open Go.RowKit

theorem sizeM_at (s : ByteArray) (k : Nat) : sizeM (s.extract k s.size) = seqN (s.size - k) (byt s k) (byt s (k + 1)) (byt s (k + 2)) (byt s (k + 3)) := by
  have hb : ∀ i, byt (s.extract k s.size) i = byt s (k + i) := by
    intro i
    rw [byt_extract s k s.size i]
    split
    · rfl
    · rw [byt_out s (k + i) (by omega)]
  unfold sizeM
  rw [hb 0, hb 1, hb 2, hb 3, ByteArray.size_extract, Nat.min_self]
  rfl

theorem at_zero (s : ByteArray) (k : Nat) (h0 : stateAt s k = 0) :
    FourSays (s.size - k) (byt s k) (byt s (k + 1)) (byt s (k + 2)) (byt s (k + 3)) (stateAt s (k + 1)) (stateAt s (k + 2)) (stateAt s (k + 3)) (stateAt s (k + 4)) := by
  have e1 : stateAt s (k + 1) = if k < s.size then stepI (stateAt s k) (byt s k) else -1 := rfl
  have e2 : stateAt s (k + 2) = if k + 1 < s.size then stepI (stateAt s (k + 1)) (byt s (k + 1)) else -1 := rfl
  have e3 : stateAt s (k + 3) = if k + 2 < s.size then stepI (stateAt s (k + 2)) (byt s (k + 2)) else -1 := rfl
  have e4 : stateAt s (k + 4) = if k + 3 < s.size then stepI (stateAt s (k + 3)) (byt s (k + 3)) else -1 := rfl
  rw [h0] at e1
  refine four _ _ _ _ _ _ _ _ _ ?_ ?_ ?_ ?_
  · rw [e1]; split
    · rw [if_pos (by omega)]
    · rw [if_neg (by omega)]
  · rw [e2]; split
    · rw [if_pos (by omega)]
    · rw [if_neg (by omega)]
  · rw [e3]; split
    · rw [if_pos (by omega)]
    · rw [if_neg (by omega)]
  · rw [e4]; split
    · rw [if_pos (by omega)]
    · rw [if_neg (by omega)]

theorem seqs_zero (s : ByteArray) (k : Nat) (h : Seqs s k) : k ≤ s.size ∧ stateAt s k = 0 := by
  induction h with
  | zero => exact ⟨by omega, rfl⟩
  | step k _ hk hm ih =>
    have hle := sizeM_le (s.extract k s.size)
    rw [ByteArray.size_extract, Nat.min_self] at hle
    refine ⟨by omega, ?_⟩
    have hz := at_zero s k ih.2
    rw [sizeM_at s k] at hm ⊢
    unfold FourSays at hz
    rcases hz with ⟨h1, h2⟩ | ⟨h1, _, h2⟩ | ⟨h1, _, _, h2⟩ | ⟨h1, _, _, _, h2⟩ | ⟨h1, _⟩
    · rw [h1]; exact h2
    · rw [h1]; exact h2
    · rw [h1]; exact h2
    · rw [h1]; exact h2
    · omega

/-- No sequence begins at k: behind it there is no state 0 any more, and four bytes never go on. -/
theorem no_more (s : ByteArray) (k : Nat) (h0 : stateAt s k = 0) (hm : k < s.size → sizeM (s.extract k s.size) = 0) :
    stateAt s (k + 1) ≠ 0 ∧ stateAt s (k + 2) ≠ 0 ∧ stateAt s (k + 3) ≠ 0 ∧ (∀ j, k + 4 ≤ j → stateAt s j = -1) ∧
    ∀ m, 1 ≤ m → k + m ≤ s.size → (goesF (s.extract k (k + m)) = true ↔ stateAt s (k + m) ≠ -1) := by
  by_cases hlt : k < s.size
  · have hz := at_zero s k h0
    have hm' := hm hlt
    rw [sizeM_at s k] at hm'
    unfold FourSays at hz
    rw [hm'] at hz
    rcases hz with ⟨h1, _⟩ | ⟨h1, _⟩ | ⟨h1, _⟩ | ⟨h1, _⟩ | ⟨_, h1, h2, h3, h4, p1, p2, p3, p4⟩
    · omega
    · omega
    · omega
    · omega
    · refine ⟨h1, h2, h3, fun j hj => stateAt_fail s (k + 4) j h4 hj, fun m hm1 hm2 => ?_⟩
      have hsz : (s.extract k (k + m)).size = m := by rw [ByteArray.size_extract]; omega
      have hb : ∀ i, byt (s.extract k (k + m)) i = if i < m then byt s (k + i) else 0 := by
        intro i
        rw [byt_extract s k (k + m) i]
        by_cases hi : i < m
        · rw [if_pos hi, if_pos (by omega)]
        · rw [if_neg hi, if_neg (by omega)]
      have hg : goesF (s.extract k (k + m)) = true ↔ (m ≤ 4 ∧ prefM (s.extract k (k + m))) := by
        unfold goesF goesB
        rw [Bool.and_eq_true, decide_eq_true_eq, decide_eq_true_eq]
        unfold goesM
        rw [hsz]
        constructor
        · rintro ⟨a, b | b⟩
          · omega
          · exact ⟨a, b⟩
        · rintro ⟨a, b⟩; exact ⟨a, .inr b⟩
      rw [hg]
      unfold prefM
      rw [hsz, hb 0, hb 1, hb 2, hb 3]
      have hm5 : m = 1 ∨ m = 2 ∨ m = 3 ∨ m = 4 ∨ 5 ≤ m := by omega
      rcases hm5 with rfl | rfl | rfl | rfl | hm5
      · have := p1 (by omega)
        rw [prefN1] at this ⊢
        simp only [Nat.zero_lt_one, if_true, Nat.add_zero]
        constructor
        · rintro ⟨_, h⟩; exact this.1 h
        · intro h; exact ⟨by omega, this.2 h⟩
      · have := p2 (by omega)
        rw [prefN2] at this ⊢
        simp only [if_pos (show 0 < 2 by omega), if_pos (show 1 < 2 by omega), Nat.add_zero]
        constructor
        · rintro ⟨_, h⟩; exact this.1 h
        · intro h; exact ⟨by omega, this.2 h⟩
      · have := p3 (by omega)
        rw [prefN3] at this ⊢
        simp only [if_pos (show 0 < 3 by omega), if_pos (show 1 < 3 by omega), if_pos (show 2 < 3 by omega), Nat.add_zero]
        constructor
        · rintro ⟨_, h⟩; exact this.1 h
        · intro h; exact ⟨by omega, this.2 h⟩
      · have := p4 (by omega)
        rw [prefN4] at this ⊢
        simp only [if_pos (show 0 < 4 by omega), if_pos (show 1 < 4 by omega), if_pos (show 2 < 4 by omega), if_pos (show 3 < 4 by omega), Nat.add_zero]
        constructor
        · rintro ⟨_, h⟩; exact absurd h this
        · intro h; exact absurd h4 h
      · have : stateAt s (k + m) = -1 := stateAt_fail s (k + 4) _ h4 (by omega)
        constructor
        · rintro ⟨h, _⟩; omega
        · intro h; exact absurd this h
  · have hf : ∀ j, k + 1 ≤ j → stateAt s j = -1 := by
      intro j hj
      refine stateAt_fail s (k + 1) j ?_ hj
      show (if k < s.size then _ else -1) = -1
      rw [if_neg hlt]
    refine ⟨by rw [hf _ (by omega)]; omega, by rw [hf _ (by omega)]; omega, by rw [hf _ (by omega)]; omega, fun j hj => hf j (by omega), fun m h1 h2 => by omega⟩

/-- How many bytes of a text go on. -/
def Goes (s : ByteArray) (n : Nat) : Prop := n ≤ s.size ∧ stateAt s n ≠ -1 ∧ stateAt s (n + 1) = -1
/-- How long the longest beginning is that is whole. -/
def Whole (s : ByteArray) (k : Nat) : Prop := k ≤ s.size ∧ stateAt s k = 0 ∧ ∀ j, k < j → stateAt s j ≠ 0

theorem whole_is (s : ByteArray) (k : Nat) (hq : Seqs s k) (hm : k < s.size → sizeM (s.extract k s.size) = 0) : Whole s k := by
  obtain ⟨hk, h0⟩ := seqs_zero s k hq
  obtain ⟨h1, h2, h3, h4, _⟩ := no_more s k h0 hm
  refine ⟨hk, h0, fun j hj => ?_⟩
  have hj' : j = k + 1 ∨ j = k + 2 ∨ j = k + 3 ∨ k + 4 ≤ j := by omega
  rcases hj' with rfl | rfl | rfl | hj'
  · exact h1
  · exact h2
  · exact h3
  · rw [h4 j hj']; omega

theorem whole_unique (s : ByteArray) (k k' : Nat) (h : Whole s k) (h' : Whole s k') : k = k' := by
  rcases Nat.lt_trichotomy k k' with hl | hl | hl
  · exact absurd h'.2.1 (h.2.2 k' hl)
  · exact hl
  · exact absurd h.2.1 (h'.2.2 k hl)

theorem goes_unique (s : ByteArray) (n n' : Nat) (h : Goes s n) (h' : Goes s n') : n = n' := by
  rcases Nat.lt_trichotomy n n' with hl | hl | hl
  · exact absurd (stateAt_fail s (n + 1) n' h.2.2 hl) h'.2.1
  · exact hl
  · exact absurd (stateAt_fail s (n' + 1) n h'.2.2 hl) h.2.1

/-- The document's Whole and Bad, in the states' words. -/
theorem whole_W (s : ByteArray) (w : World) (hs : s.size ≤ maxLen) : Calls Tryd.prog 18 #[.string s] w (fun e w' => (∃ k : Nat, e = .returned (.int .i64 k) ∧ Whole s k) ∧ Below w.heap.size w w') := by
  refine (whole_any s w hs).mono ?_
  rintro e w' ⟨⟨k, he, hq, hk, hm⟩, hb⟩
  exact ⟨⟨k, he, whole_is s k hq hm⟩, hb⟩

theorem bad_W (s : ByteArray) (w : World) (hs : s.size ≤ 4294967296) : Calls Tryd.prog 32 #[.string s] w
    (fun e w' => (∃ n : Nat, Goes s n ∧ ((n < s.size ∧ e = .returned (.int .i64 n)) ∨ (n = s.size ∧ e = .returned (.int .i64 (-1))))) ∧ Below w.heap.size w w') := by
  refine (bad_any s w hs).mono ?_
  rintro e w' ⟨⟨k, hq, hk, hm, h⟩, hb⟩
  refine ⟨?_, hb⟩
  obtain ⟨_, h0⟩ := seqs_zero s k hq
  obtain ⟨h1, h2, h3, h4, hg⟩ := no_more s k h0 hm
  have hend : stateAt s (s.size + 1) = -1 := by
    show (if s.size < s.size then _ else -1) = -1
    rw [if_neg (by omega)]
  rcases h with ⟨n, hn1, hn2, hf, hp, he⟩ | ⟨hp, he⟩
  · have hfail : stateAt s (k + n) = -1 := by
      have := hg n hn1 hn2
      rw [hf] at this
      refine Classical.byContradiction fun hc => ?_
      exact absurd (this.2 hc) (by simp)
    refine ⟨k + n - 1, ⟨by omega, ?_, ?_⟩, .inl ⟨by omega, ?_⟩⟩
    · by_cases e1 : n = 1
      · rw [show k + n - 1 = k by omega, h0]; omega
      · have := (hg (n - 1) (by omega) (by omega)).1 (hp (n - 1) (by omega) (by omega))
        rwa [show k + (n - 1) = k + n - 1 by omega] at this
    · rwa [show k + n - 1 + 1 = k + n by omega]
    · rw [he, show (((k + n - 1 : Nat) : Int)) = (k : Int) + n - 1 by omega]
  · refine ⟨s.size, ⟨by omega, ?_, hend⟩, .inr ⟨rfl, he⟩⟩
    by_cases e1 : k = s.size
    · rw [← e1, h0]; omega
    · have := (hg (s.size - k) (by omega) (by omega)).1 (hp (s.size - k) (by omega) (by omega))
      rwa [show k + (s.size - k) = s.size by omega] at this

end Go.Proofs.YtajedohgcepkiaaDoor.Utf
