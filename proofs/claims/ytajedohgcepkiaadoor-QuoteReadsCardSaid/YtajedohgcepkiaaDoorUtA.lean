/-
  The states of UTF-8, byte by byte, and what they say of sequences: plain mathematics.
-/
import Derived.Test.YtajedohgcepkiaaDoorRows
import Derived.Test.YtajedohgcepkiaaDoorUtK
namespace Go.Proofs.YtajedohgcepkiaaDoor.Utf
open Go.RowKit

/-- The state behind a byte, or -1. -/
def stepI (st b : Int) : Int :=
  if st = 0 then
    (if b < 128 then 0 else if 194 ≤ b ∧ b ≤ 223 then 1 else if b = 224 then 4 else if b = 237 then 5 else if 225 ≤ b ∧ b ≤ 239 then 2
     else if b = 240 then 6 else if 241 ≤ b ∧ b ≤ 243 then 3 else if b = 244 then 7 else -1)
  else if st = 1 ∨ st = 2 ∨ st = 3 then (if 128 ≤ b ∧ b ≤ 191 then st - 1 else -1)
  else if st = 4 then (if 160 ≤ b ∧ b ≤ 191 then 1 else -1)
  else if st = 5 then (if 128 ≤ b ∧ b ≤ 159 then 1 else -1)
  else if st = 6 then (if 144 ≤ b ∧ b ≤ 191 then 2 else -1)
  else if st = 7 then (if 128 ≤ b ∧ b ≤ 143 then 2 else -1)
  else -1

theorem step0 (a : Int) : (a < 128 ∧ stepI 0 a = 0) ∨ (194 ≤ a ∧ a ≤ 223 ∧ stepI 0 a = 1) ∨ (a = 224 ∧ stepI 0 a = 4) ∨ (a = 237 ∧ stepI 0 a = 5) ∨ (225 ≤ a ∧ a ≤ 239 ∧ a ≠ 237 ∧ stepI 0 a = 2) ∨
    (a = 240 ∧ stepI 0 a = 6) ∨ (241 ≤ a ∧ a ≤ 243 ∧ stepI 0 a = 3) ∨ (a = 244 ∧ stepI 0 a = 7) ∨ (¬ a < 128 ∧ ¬ (194 ≤ a ∧ a ≤ 244) ∧ stepI 0 a = -1) := by
  unfold stepI
  rw [if_pos rfl]
  repeat' split
  all_goals omega

theorem stepF (b : Int) : stepI (-1) b = -1 := by unfold stepI; repeat' split; all_goals omega
theorem step1 (b : Int) : (cont b ∧ stepI 1 b = 0) ∨ (¬ cont b ∧ stepI 1 b = -1) := by unfold stepI cont; repeat' split; all_goals omega
theorem step2 (b : Int) : (cont b ∧ stepI 2 b = 1) ∨ (¬ cont b ∧ stepI 2 b = -1) := by unfold stepI cont; repeat' split; all_goals omega
theorem step3 (b : Int) : (cont b ∧ stepI 3 b = 2) ∨ (¬ cont b ∧ stepI 3 b = -1) := by unfold stepI cont; repeat' split; all_goals omega
theorem step4 (b : Int) : (160 ≤ b ∧ b ≤ 191 ∧ stepI 4 b = 1) ∨ (¬ (160 ≤ b ∧ b ≤ 191) ∧ stepI 4 b = -1) := by unfold stepI; repeat' split; all_goals omega
theorem step5 (b : Int) : (128 ≤ b ∧ b ≤ 159 ∧ stepI 5 b = 1) ∨ (¬ (128 ≤ b ∧ b ≤ 159) ∧ stepI 5 b = -1) := by unfold stepI; repeat' split; all_goals omega
theorem step6 (b : Int) : (144 ≤ b ∧ b ≤ 191 ∧ stepI 6 b = 2) ∨ (¬ (144 ≤ b ∧ b ≤ 191) ∧ stepI 6 b = -1) := by unfold stepI; repeat' split; all_goals omega
theorem step7 (b : Int) : (128 ≤ b ∧ b ≤ 143 ∧ stepI 7 b = 2) ∨ (¬ (128 ≤ b ∧ b ≤ 143) ∧ stepI 7 b = -1) := by unfold stepI; repeat' split; all_goals omega

theorem stepI_range (st b : Int) (h : -1 ≤ st ∧ st ≤ 7) : -1 ≤ stepI st b ∧ stepI st b ≤ 7 := by
  unfold stepI
  repeat' split
  all_goals omega

/-- The state behind i bytes, or -1. -/
def stateAt (s : ByteArray) : Nat → Int
  | 0 => 0
  | i + 1 => if i < s.size then stepI (stateAt s i) (byt s i) else -1

theorem stateAt_range (s : ByteArray) (i : Nat) : -1 ≤ stateAt s i ∧ stateAt s i ≤ 7 := by
  induction i with
  | zero => show -1 ≤ (0 : Int) ∧ (0 : Int) ≤ 7; omega
  | succ i ih =>
    unfold stateAt
    split
    · exact stepI_range _ _ ih
    · omega

theorem stateAt_fail (s : ByteArray) (i j : Nat) (h : stateAt s i = -1) (hij : i ≤ j) : stateAt s j = -1 := by
  induction j with
  | zero =>
    have : i = 0 := by omega
    subst this; exact h
  | succ j ih =>
    by_cases e : i = j + 1
    · rw [← e]; exact h
    · unfold stateAt
      split
      · rw [ih (by omega), stepF]
      · rfl

theorem prefN1 (a b d e : Int) : prefN 1 a b d e ↔ (a < 128 ∨ (194 ≤ a ∧ a ≤ 244)) := by unfold prefN; simp
theorem prefN2 (a b d e : Int) : prefN 2 a b d e ↔ ((194 ≤ a ∧ a ≤ 223 ∧ cont b) ∨ (224 ≤ a ∧ a ≤ 239 ∧ cont b ∧ (a = 224 → 160 ≤ b) ∧ (a = 237 → b ≤ 159)) ∨ (240 ≤ a ∧ a ≤ 244 ∧ cont b ∧ (a = 240 → 144 ≤ b) ∧ (a = 244 → b ≤ 143))) := by unfold prefN; simp
theorem prefN3 (a b d e : Int) : prefN 3 a b d e ↔ (cont d ∧ ((224 ≤ a ∧ a ≤ 239 ∧ cont b ∧ (a = 224 → 160 ≤ b) ∧ (a = 237 → b ≤ 159)) ∨ (240 ≤ a ∧ a ≤ 244 ∧ cont b ∧ (a = 240 → 144 ≤ b) ∧ (a = 244 → b ≤ 143)))) := by unfold prefN; simp
theorem prefN4 (a b d e : Int) : prefN 4 a b d e ↔ (cont d ∧ cont e ∧ 240 ≤ a ∧ a ≤ 244 ∧ cont b ∧ (a = 240 → 144 ≤ b) ∧ (a = 244 → b ≤ 143)) := by unfold prefN; simp

/-- What four states say of a sequence. -/
def FourSays (n : Nat) (a b d e r1 r2 r3 r4 : Int) : Prop :=
  (seqN n a b d e = 1 ∧ r1 = 0) ∨ (seqN n a b d e = 2 ∧ r1 ≥ 1 ∧ r2 = 0) ∨ (seqN n a b d e = 3 ∧ r1 ≥ 1 ∧ r2 ≥ 1 ∧ r3 = 0) ∨ (seqN n a b d e = 4 ∧ r1 ≥ 1 ∧ r2 ≥ 1 ∧ r3 ≥ 1 ∧ r4 = 0) ∨
    (seqN n a b d e = 0 ∧ r1 ≠ 0 ∧ r2 ≠ 0 ∧ r3 ≠ 0 ∧ r4 = -1 ∧ (1 ≤ n → (prefN 1 a b d e ↔ r1 ≠ -1)) ∧ (2 ≤ n → (prefN 2 a b d e ↔ r2 ≠ -1)) ∧ (3 ≤ n → (prefN 3 a b d e ↔ r3 ≠ -1)) ∧ (4 ≤ n → ¬ prefN 4 a b d e))

set_option maxHeartbeats 2000000 in
set_option linter.unusedVariables false in
theorem four0 (n : Nat) (a b d e r1 r2 r3 r4 : Int) (k : (a < 128 ∧ stepI 0 a = 0)) (hn0 : 1 ≤ n) (h1 : r1 = if 1 ≤ n then stepI 0 a else -1) (h2 : r2 = if 2 ≤ n then stepI r1 b else -1) (h3 : r3 = if 3 ≤ n then stepI r2 d else -1) (h4 : r4 = if 4 ≤ n then stepI r3 e else -1) : FourSays n a b d e r1 r2 r3 r4 := by
  unfold FourSays
  have hn : n = 1 ∨ n = 2 ∨ n = 3 ∨ 4 ≤ n := by omega
  rw [if_pos (by omega), k.2] at h1
  exact .inl ⟨by unfold seqN; rw [if_neg (by omega), if_pos k.1], h1⟩

set_option maxHeartbeats 2000000 in
theorem four1 (n : Nat) (a b d e r1 r2 r3 r4 : Int) (k : (194 ≤ a ∧ a ≤ 223 ∧ stepI 0 a = 1)) (hn0 : 1 ≤ n) (h1 : r1 = if 1 ≤ n then stepI 0 a else -1) (h2 : r2 = if 2 ≤ n then stepI r1 b else -1) (h3 : r3 = if 3 ≤ n then stepI r2 d else -1) (h4 : r4 = if 4 ≤ n then stepI r3 e else -1) : FourSays n a b d e r1 r2 r3 r4 := by
  unfold FourSays
  have hn : n = 1 ∨ n = 2 ∨ n = 3 ∨ 4 ≤ n := by omega
  rw [if_pos (by omega), k.2.2] at h1
  rcases hn with hn | hn | hn | hn
  · rw [if_neg (by omega)] at h2
    rw [if_neg (by omega)] at h3
    rw [if_neg (by omega)] at h4
    refine .inr (.inr (.inr (.inr ⟨by unfold seqN cont; (repeat' split) <;> omega, by omega, by omega, by omega, by omega, fun hn1 => ?_, fun hn2 => ?_, fun hn3 => ?_, fun hn4 => ?_⟩)))
    · rw [prefN1]; omega
    · omega
    · omega
    · omega
  · rw [if_pos (by omega), h1] at h2
    rcases step1 b with m2 | m2
    · rw [m2.2] at h2
      unfold cont at m2
      exact .inr (.inl ⟨by unfold seqN cont; (repeat' split) <;> omega, by omega, by omega⟩)
    · rw [m2.2] at h2
      unfold cont at m2
      rw [if_neg (by omega)] at h3
      rw [if_neg (by omega)] at h4
      refine .inr (.inr (.inr (.inr ⟨by unfold seqN cont; (repeat' split) <;> omega, by omega, by omega, by omega, by omega, fun hn1 => ?_, fun hn2 => ?_, fun hn3 => ?_, fun hn4 => ?_⟩)))
      · rw [prefN1]; omega
      · rw [prefN2]; unfold cont; omega
      · omega
      · omega
  · rw [if_pos (by omega), h1] at h2
    rcases step1 b with m2 | m2
    · rw [m2.2] at h2
      unfold cont at m2
      exact .inr (.inl ⟨by unfold seqN cont; (repeat' split) <;> omega, by omega, by omega⟩)
    · rw [m2.2] at h2
      unfold cont at m2
      rw [if_pos (by omega), h2] at h3
      rw [stepF] at h3
      rw [if_neg (by omega)] at h4
      refine .inr (.inr (.inr (.inr ⟨by unfold seqN cont; (repeat' split) <;> omega, by omega, by omega, by omega, by omega, fun hn1 => ?_, fun hn2 => ?_, fun hn3 => ?_, fun hn4 => ?_⟩)))
      · rw [prefN1]; omega
      · rw [prefN2]; unfold cont; omega
      · rw [prefN3]; unfold cont; omega
      · omega
  · rw [if_pos (by omega), h1] at h2
    rcases step1 b with m2 | m2
    · rw [m2.2] at h2
      unfold cont at m2
      exact .inr (.inl ⟨by unfold seqN cont; (repeat' split) <;> omega, by omega, by omega⟩)
    · rw [m2.2] at h2
      unfold cont at m2
      rw [if_pos (by omega), h2] at h3
      rw [stepF] at h3
      rw [if_pos (by omega), h3] at h4
      rw [stepF] at h4
      refine .inr (.inr (.inr (.inr ⟨by unfold seqN cont; (repeat' split) <;> omega, by omega, by omega, by omega, by omega, fun hn1 => ?_, fun hn2 => ?_, fun hn3 => ?_, fun hn4 => ?_⟩)))
      · rw [prefN1]; omega
      · rw [prefN2]; unfold cont; omega
      · rw [prefN3]; unfold cont; omega
      · rw [prefN4]; unfold cont; omega

set_option maxHeartbeats 2000000 in
theorem four2 (n : Nat) (a b d e r1 r2 r3 r4 : Int) (k : (a = 224 ∧ stepI 0 a = 4)) (hn0 : 1 ≤ n) (h1 : r1 = if 1 ≤ n then stepI 0 a else -1) (h2 : r2 = if 2 ≤ n then stepI r1 b else -1) (h3 : r3 = if 3 ≤ n then stepI r2 d else -1) (h4 : r4 = if 4 ≤ n then stepI r3 e else -1) : FourSays n a b d e r1 r2 r3 r4 := by
  unfold FourSays
  have hn : n = 1 ∨ n = 2 ∨ n = 3 ∨ 4 ≤ n := by omega
  rw [if_pos (by omega), k.2] at h1
  rcases hn with hn | hn | hn | hn
  · rw [if_neg (by omega)] at h2
    rw [if_neg (by omega)] at h3
    rw [if_neg (by omega)] at h4
    refine .inr (.inr (.inr (.inr ⟨by unfold seqN cont; (repeat' split) <;> omega, by omega, by omega, by omega, by omega, fun hn1 => ?_, fun hn2 => ?_, fun hn3 => ?_, fun hn4 => ?_⟩)))
    · rw [prefN1]; omega
    · omega
    · omega
    · omega
  · rw [if_pos (by omega), h1] at h2
    rcases step4 b with m2 | m2
    · rw [m2.2.2] at h2
      rw [if_neg (by omega)] at h3
      rw [if_neg (by omega)] at h4
      refine .inr (.inr (.inr (.inr ⟨by unfold seqN cont; (repeat' split) <;> omega, by omega, by omega, by omega, by omega, fun hn1 => ?_, fun hn2 => ?_, fun hn3 => ?_, fun hn4 => ?_⟩)))
      · rw [prefN1]; omega
      · rw [prefN2]; unfold cont; omega
      · omega
      · omega
    · rw [m2.2] at h2
      rw [if_neg (by omega)] at h3
      rw [if_neg (by omega)] at h4
      refine .inr (.inr (.inr (.inr ⟨by unfold seqN cont; (repeat' split) <;> omega, by omega, by omega, by omega, by omega, fun hn1 => ?_, fun hn2 => ?_, fun hn3 => ?_, fun hn4 => ?_⟩)))
      · rw [prefN1]; omega
      · rw [prefN2]; unfold cont; omega
      · omega
      · omega
  · rw [if_pos (by omega), h1] at h2
    rcases step4 b with m2 | m2
    · rw [m2.2.2] at h2
      rw [if_pos (by omega), h2] at h3
      rcases step1 d with m3 | m3
      · rw [m3.2] at h3
        unfold cont at m3
        exact .inr (.inr (.inl ⟨by unfold seqN cont; (repeat' split) <;> omega, by omega, by omega, by omega⟩))
      · rw [m3.2] at h3
        unfold cont at m3
        rw [if_neg (by omega)] at h4
        refine .inr (.inr (.inr (.inr ⟨by unfold seqN cont; (repeat' split) <;> omega, by omega, by omega, by omega, by omega, fun hn1 => ?_, fun hn2 => ?_, fun hn3 => ?_, fun hn4 => ?_⟩)))
        · rw [prefN1]; omega
        · rw [prefN2]; unfold cont; omega
        · rw [prefN3]; unfold cont; omega
        · omega
    · rw [m2.2] at h2
      rw [if_pos (by omega), h2] at h3
      rw [stepF] at h3
      rw [if_neg (by omega)] at h4
      refine .inr (.inr (.inr (.inr ⟨by unfold seqN cont; (repeat' split) <;> omega, by omega, by omega, by omega, by omega, fun hn1 => ?_, fun hn2 => ?_, fun hn3 => ?_, fun hn4 => ?_⟩)))
      · rw [prefN1]; omega
      · rw [prefN2]; unfold cont; omega
      · rw [prefN3]; unfold cont; omega
      · omega
  · rw [if_pos (by omega), h1] at h2
    rcases step4 b with m2 | m2
    · rw [m2.2.2] at h2
      rw [if_pos (by omega), h2] at h3
      rcases step1 d with m3 | m3
      · rw [m3.2] at h3
        unfold cont at m3
        exact .inr (.inr (.inl ⟨by unfold seqN cont; (repeat' split) <;> omega, by omega, by omega, by omega⟩))
      · rw [m3.2] at h3
        unfold cont at m3
        rw [if_pos (by omega), h3] at h4
        rw [stepF] at h4
        refine .inr (.inr (.inr (.inr ⟨by unfold seqN cont; (repeat' split) <;> omega, by omega, by omega, by omega, by omega, fun hn1 => ?_, fun hn2 => ?_, fun hn3 => ?_, fun hn4 => ?_⟩)))
        · rw [prefN1]; omega
        · rw [prefN2]; unfold cont; omega
        · rw [prefN3]; unfold cont; omega
        · rw [prefN4]; unfold cont; omega
    · rw [m2.2] at h2
      rw [if_pos (by omega), h2] at h3
      rw [stepF] at h3
      rw [if_pos (by omega), h3] at h4
      rw [stepF] at h4
      refine .inr (.inr (.inr (.inr ⟨by unfold seqN cont; (repeat' split) <;> omega, by omega, by omega, by omega, by omega, fun hn1 => ?_, fun hn2 => ?_, fun hn3 => ?_, fun hn4 => ?_⟩)))
      · rw [prefN1]; omega
      · rw [prefN2]; unfold cont; omega
      · rw [prefN3]; unfold cont; omega
      · rw [prefN4]; unfold cont; omega

set_option maxHeartbeats 2000000 in
theorem four3 (n : Nat) (a b d e r1 r2 r3 r4 : Int) (k : (a = 237 ∧ stepI 0 a = 5)) (hn0 : 1 ≤ n) (h1 : r1 = if 1 ≤ n then stepI 0 a else -1) (h2 : r2 = if 2 ≤ n then stepI r1 b else -1) (h3 : r3 = if 3 ≤ n then stepI r2 d else -1) (h4 : r4 = if 4 ≤ n then stepI r3 e else -1) : FourSays n a b d e r1 r2 r3 r4 := by
  unfold FourSays
  have hn : n = 1 ∨ n = 2 ∨ n = 3 ∨ 4 ≤ n := by omega
  rw [if_pos (by omega), k.2] at h1
  rcases hn with hn | hn | hn | hn
  · rw [if_neg (by omega)] at h2
    rw [if_neg (by omega)] at h3
    rw [if_neg (by omega)] at h4
    refine .inr (.inr (.inr (.inr ⟨by unfold seqN cont; (repeat' split) <;> omega, by omega, by omega, by omega, by omega, fun hn1 => ?_, fun hn2 => ?_, fun hn3 => ?_, fun hn4 => ?_⟩)))
    · rw [prefN1]; omega
    · omega
    · omega
    · omega
  · rw [if_pos (by omega), h1] at h2
    rcases step5 b with m2 | m2
    · rw [m2.2.2] at h2
      rw [if_neg (by omega)] at h3
      rw [if_neg (by omega)] at h4
      refine .inr (.inr (.inr (.inr ⟨by unfold seqN cont; (repeat' split) <;> omega, by omega, by omega, by omega, by omega, fun hn1 => ?_, fun hn2 => ?_, fun hn3 => ?_, fun hn4 => ?_⟩)))
      · rw [prefN1]; omega
      · rw [prefN2]; unfold cont; omega
      · omega
      · omega
    · rw [m2.2] at h2
      rw [if_neg (by omega)] at h3
      rw [if_neg (by omega)] at h4
      refine .inr (.inr (.inr (.inr ⟨by unfold seqN cont; (repeat' split) <;> omega, by omega, by omega, by omega, by omega, fun hn1 => ?_, fun hn2 => ?_, fun hn3 => ?_, fun hn4 => ?_⟩)))
      · rw [prefN1]; omega
      · rw [prefN2]; unfold cont; omega
      · omega
      · omega
  · rw [if_pos (by omega), h1] at h2
    rcases step5 b with m2 | m2
    · rw [m2.2.2] at h2
      rw [if_pos (by omega), h2] at h3
      rcases step1 d with m3 | m3
      · rw [m3.2] at h3
        unfold cont at m3
        exact .inr (.inr (.inl ⟨by unfold seqN cont; (repeat' split) <;> omega, by omega, by omega, by omega⟩))
      · rw [m3.2] at h3
        unfold cont at m3
        rw [if_neg (by omega)] at h4
        refine .inr (.inr (.inr (.inr ⟨by unfold seqN cont; (repeat' split) <;> omega, by omega, by omega, by omega, by omega, fun hn1 => ?_, fun hn2 => ?_, fun hn3 => ?_, fun hn4 => ?_⟩)))
        · rw [prefN1]; omega
        · rw [prefN2]; unfold cont; omega
        · rw [prefN3]; unfold cont; omega
        · omega
    · rw [m2.2] at h2
      rw [if_pos (by omega), h2] at h3
      rw [stepF] at h3
      rw [if_neg (by omega)] at h4
      refine .inr (.inr (.inr (.inr ⟨by unfold seqN cont; (repeat' split) <;> omega, by omega, by omega, by omega, by omega, fun hn1 => ?_, fun hn2 => ?_, fun hn3 => ?_, fun hn4 => ?_⟩)))
      · rw [prefN1]; omega
      · rw [prefN2]; unfold cont; omega
      · rw [prefN3]; unfold cont; omega
      · omega
  · rw [if_pos (by omega), h1] at h2
    rcases step5 b with m2 | m2
    · rw [m2.2.2] at h2
      rw [if_pos (by omega), h2] at h3
      rcases step1 d with m3 | m3
      · rw [m3.2] at h3
        unfold cont at m3
        exact .inr (.inr (.inl ⟨by unfold seqN cont; (repeat' split) <;> omega, by omega, by omega, by omega⟩))
      · rw [m3.2] at h3
        unfold cont at m3
        rw [if_pos (by omega), h3] at h4
        rw [stepF] at h4
        refine .inr (.inr (.inr (.inr ⟨by unfold seqN cont; (repeat' split) <;> omega, by omega, by omega, by omega, by omega, fun hn1 => ?_, fun hn2 => ?_, fun hn3 => ?_, fun hn4 => ?_⟩)))
        · rw [prefN1]; omega
        · rw [prefN2]; unfold cont; omega
        · rw [prefN3]; unfold cont; omega
        · rw [prefN4]; unfold cont; omega
    · rw [m2.2] at h2
      rw [if_pos (by omega), h2] at h3
      rw [stepF] at h3
      rw [if_pos (by omega), h3] at h4
      rw [stepF] at h4
      refine .inr (.inr (.inr (.inr ⟨by unfold seqN cont; (repeat' split) <;> omega, by omega, by omega, by omega, by omega, fun hn1 => ?_, fun hn2 => ?_, fun hn3 => ?_, fun hn4 => ?_⟩)))
      · rw [prefN1]; omega
      · rw [prefN2]; unfold cont; omega
      · rw [prefN3]; unfold cont; omega
      · rw [prefN4]; unfold cont; omega

set_option maxHeartbeats 2000000 in
theorem four4 (n : Nat) (a b d e r1 r2 r3 r4 : Int) (k : (225 ≤ a ∧ a ≤ 239 ∧ a ≠ 237 ∧ stepI 0 a = 2)) (hn0 : 1 ≤ n) (h1 : r1 = if 1 ≤ n then stepI 0 a else -1) (h2 : r2 = if 2 ≤ n then stepI r1 b else -1) (h3 : r3 = if 3 ≤ n then stepI r2 d else -1) (h4 : r4 = if 4 ≤ n then stepI r3 e else -1) : FourSays n a b d e r1 r2 r3 r4 := by
  unfold FourSays
  have hn : n = 1 ∨ n = 2 ∨ n = 3 ∨ 4 ≤ n := by omega
  rw [if_pos (by omega), k.2.2.2] at h1
  rcases hn with hn | hn | hn | hn
  · rw [if_neg (by omega)] at h2
    rw [if_neg (by omega)] at h3
    rw [if_neg (by omega)] at h4
    refine .inr (.inr (.inr (.inr ⟨by unfold seqN cont; (repeat' split) <;> omega, by omega, by omega, by omega, by omega, fun hn1 => ?_, fun hn2 => ?_, fun hn3 => ?_, fun hn4 => ?_⟩)))
    · rw [prefN1]; omega
    · omega
    · omega
    · omega
  · rw [if_pos (by omega), h1] at h2
    rcases step2 b with m2 | m2
    · rw [m2.2] at h2
      unfold cont at m2
      rw [if_neg (by omega)] at h3
      rw [if_neg (by omega)] at h4
      refine .inr (.inr (.inr (.inr ⟨by unfold seqN cont; (repeat' split) <;> omega, by omega, by omega, by omega, by omega, fun hn1 => ?_, fun hn2 => ?_, fun hn3 => ?_, fun hn4 => ?_⟩)))
      · rw [prefN1]; omega
      · rw [prefN2]; unfold cont; omega
      · omega
      · omega
    · rw [m2.2] at h2
      unfold cont at m2
      rw [if_neg (by omega)] at h3
      rw [if_neg (by omega)] at h4
      refine .inr (.inr (.inr (.inr ⟨by unfold seqN cont; (repeat' split) <;> omega, by omega, by omega, by omega, by omega, fun hn1 => ?_, fun hn2 => ?_, fun hn3 => ?_, fun hn4 => ?_⟩)))
      · rw [prefN1]; omega
      · rw [prefN2]; unfold cont; omega
      · omega
      · omega
  · rw [if_pos (by omega), h1] at h2
    rcases step2 b with m2 | m2
    · rw [m2.2] at h2
      unfold cont at m2
      rw [if_pos (by omega), h2] at h3
      rcases step1 d with m3 | m3
      · rw [m3.2] at h3
        unfold cont at m3
        exact .inr (.inr (.inl ⟨by unfold seqN cont; (repeat' split) <;> omega, by omega, by omega, by omega⟩))
      · rw [m3.2] at h3
        unfold cont at m3
        rw [if_neg (by omega)] at h4
        refine .inr (.inr (.inr (.inr ⟨by unfold seqN cont; (repeat' split) <;> omega, by omega, by omega, by omega, by omega, fun hn1 => ?_, fun hn2 => ?_, fun hn3 => ?_, fun hn4 => ?_⟩)))
        · rw [prefN1]; omega
        · rw [prefN2]; unfold cont; omega
        · rw [prefN3]; unfold cont; omega
        · omega
    · rw [m2.2] at h2
      unfold cont at m2
      rw [if_pos (by omega), h2] at h3
      rw [stepF] at h3
      rw [if_neg (by omega)] at h4
      refine .inr (.inr (.inr (.inr ⟨by unfold seqN cont; (repeat' split) <;> omega, by omega, by omega, by omega, by omega, fun hn1 => ?_, fun hn2 => ?_, fun hn3 => ?_, fun hn4 => ?_⟩)))
      · rw [prefN1]; omega
      · rw [prefN2]; unfold cont; omega
      · rw [prefN3]; unfold cont; omega
      · omega
  · rw [if_pos (by omega), h1] at h2
    rcases step2 b with m2 | m2
    · rw [m2.2] at h2
      unfold cont at m2
      rw [if_pos (by omega), h2] at h3
      rcases step1 d with m3 | m3
      · rw [m3.2] at h3
        unfold cont at m3
        exact .inr (.inr (.inl ⟨by unfold seqN cont; (repeat' split) <;> omega, by omega, by omega, by omega⟩))
      · rw [m3.2] at h3
        unfold cont at m3
        rw [if_pos (by omega), h3] at h4
        rw [stepF] at h4
        refine .inr (.inr (.inr (.inr ⟨by unfold seqN cont; (repeat' split) <;> omega, by omega, by omega, by omega, by omega, fun hn1 => ?_, fun hn2 => ?_, fun hn3 => ?_, fun hn4 => ?_⟩)))
        · rw [prefN1]; omega
        · rw [prefN2]; unfold cont; omega
        · rw [prefN3]; unfold cont; omega
        · rw [prefN4]; unfold cont; omega
    · rw [m2.2] at h2
      unfold cont at m2
      rw [if_pos (by omega), h2] at h3
      rw [stepF] at h3
      rw [if_pos (by omega), h3] at h4
      rw [stepF] at h4
      refine .inr (.inr (.inr (.inr ⟨by unfold seqN cont; (repeat' split) <;> omega, by omega, by omega, by omega, by omega, fun hn1 => ?_, fun hn2 => ?_, fun hn3 => ?_, fun hn4 => ?_⟩)))
      · rw [prefN1]; omega
      · rw [prefN2]; unfold cont; omega
      · rw [prefN3]; unfold cont; omega
      · rw [prefN4]; unfold cont; omega

set_option maxHeartbeats 2000000 in
theorem four5 (n : Nat) (a b d e r1 r2 r3 r4 : Int) (k : (a = 240 ∧ stepI 0 a = 6)) (hn0 : 1 ≤ n) (h1 : r1 = if 1 ≤ n then stepI 0 a else -1) (h2 : r2 = if 2 ≤ n then stepI r1 b else -1) (h3 : r3 = if 3 ≤ n then stepI r2 d else -1) (h4 : r4 = if 4 ≤ n then stepI r3 e else -1) : FourSays n a b d e r1 r2 r3 r4 := by
  unfold FourSays
  have hn : n = 1 ∨ n = 2 ∨ n = 3 ∨ 4 ≤ n := by omega
  rw [if_pos (by omega), k.2] at h1
  rcases hn with hn | hn | hn | hn
  · rw [if_neg (by omega)] at h2
    rw [if_neg (by omega)] at h3
    rw [if_neg (by omega)] at h4
    refine .inr (.inr (.inr (.inr ⟨by unfold seqN cont; (repeat' split) <;> omega, by omega, by omega, by omega, by omega, fun hn1 => ?_, fun hn2 => ?_, fun hn3 => ?_, fun hn4 => ?_⟩)))
    · rw [prefN1]; omega
    · omega
    · omega
    · omega
  · rw [if_pos (by omega), h1] at h2
    rcases step6 b with m2 | m2
    · rw [m2.2.2] at h2
      rw [if_neg (by omega)] at h3
      rw [if_neg (by omega)] at h4
      refine .inr (.inr (.inr (.inr ⟨by unfold seqN cont; (repeat' split) <;> omega, by omega, by omega, by omega, by omega, fun hn1 => ?_, fun hn2 => ?_, fun hn3 => ?_, fun hn4 => ?_⟩)))
      · rw [prefN1]; omega
      · rw [prefN2]; unfold cont; omega
      · omega
      · omega
    · rw [m2.2] at h2
      rw [if_neg (by omega)] at h3
      rw [if_neg (by omega)] at h4
      refine .inr (.inr (.inr (.inr ⟨by unfold seqN cont; (repeat' split) <;> omega, by omega, by omega, by omega, by omega, fun hn1 => ?_, fun hn2 => ?_, fun hn3 => ?_, fun hn4 => ?_⟩)))
      · rw [prefN1]; omega
      · rw [prefN2]; unfold cont; omega
      · omega
      · omega
  · rw [if_pos (by omega), h1] at h2
    rcases step6 b with m2 | m2
    · rw [m2.2.2] at h2
      rw [if_pos (by omega), h2] at h3
      rcases step2 d with m3 | m3
      · rw [m3.2] at h3
        unfold cont at m3
        rw [if_neg (by omega)] at h4
        refine .inr (.inr (.inr (.inr ⟨by unfold seqN cont; (repeat' split) <;> omega, by omega, by omega, by omega, by omega, fun hn1 => ?_, fun hn2 => ?_, fun hn3 => ?_, fun hn4 => ?_⟩)))
        · rw [prefN1]; omega
        · rw [prefN2]; unfold cont; omega
        · rw [prefN3]; unfold cont; omega
        · omega
      · rw [m3.2] at h3
        unfold cont at m3
        rw [if_neg (by omega)] at h4
        refine .inr (.inr (.inr (.inr ⟨by unfold seqN cont; (repeat' split) <;> omega, by omega, by omega, by omega, by omega, fun hn1 => ?_, fun hn2 => ?_, fun hn3 => ?_, fun hn4 => ?_⟩)))
        · rw [prefN1]; omega
        · rw [prefN2]; unfold cont; omega
        · rw [prefN3]; unfold cont; omega
        · omega
    · rw [m2.2] at h2
      rw [if_pos (by omega), h2] at h3
      rw [stepF] at h3
      rw [if_neg (by omega)] at h4
      refine .inr (.inr (.inr (.inr ⟨by unfold seqN cont; (repeat' split) <;> omega, by omega, by omega, by omega, by omega, fun hn1 => ?_, fun hn2 => ?_, fun hn3 => ?_, fun hn4 => ?_⟩)))
      · rw [prefN1]; omega
      · rw [prefN2]; unfold cont; omega
      · rw [prefN3]; unfold cont; omega
      · omega
  · rw [if_pos (by omega), h1] at h2
    rcases step6 b with m2 | m2
    · rw [m2.2.2] at h2
      rw [if_pos (by omega), h2] at h3
      rcases step2 d with m3 | m3
      · rw [m3.2] at h3
        unfold cont at m3
        rw [if_pos (by omega), h3] at h4
        rcases step1 e with m4 | m4
        · rw [m4.2] at h4
          unfold cont at m4
          exact .inr (.inr (.inr (.inl ⟨by unfold seqN cont; (repeat' split) <;> omega, by omega, by omega, by omega, by omega⟩)))
        · rw [m4.2] at h4
          unfold cont at m4
          refine .inr (.inr (.inr (.inr ⟨by unfold seqN cont; (repeat' split) <;> omega, by omega, by omega, by omega, by omega, fun hn1 => ?_, fun hn2 => ?_, fun hn3 => ?_, fun hn4 => ?_⟩)))
          · rw [prefN1]; omega
          · rw [prefN2]; unfold cont; omega
          · rw [prefN3]; unfold cont; omega
          · rw [prefN4]; unfold cont; omega
      · rw [m3.2] at h3
        unfold cont at m3
        rw [if_pos (by omega), h3] at h4
        rw [stepF] at h4
        refine .inr (.inr (.inr (.inr ⟨by unfold seqN cont; (repeat' split) <;> omega, by omega, by omega, by omega, by omega, fun hn1 => ?_, fun hn2 => ?_, fun hn3 => ?_, fun hn4 => ?_⟩)))
        · rw [prefN1]; omega
        · rw [prefN2]; unfold cont; omega
        · rw [prefN3]; unfold cont; omega
        · rw [prefN4]; unfold cont; omega
    · rw [m2.2] at h2
      rw [if_pos (by omega), h2] at h3
      rw [stepF] at h3
      rw [if_pos (by omega), h3] at h4
      rw [stepF] at h4
      refine .inr (.inr (.inr (.inr ⟨by unfold seqN cont; (repeat' split) <;> omega, by omega, by omega, by omega, by omega, fun hn1 => ?_, fun hn2 => ?_, fun hn3 => ?_, fun hn4 => ?_⟩)))
      · rw [prefN1]; omega
      · rw [prefN2]; unfold cont; omega
      · rw [prefN3]; unfold cont; omega
      · rw [prefN4]; unfold cont; omega

set_option maxHeartbeats 2000000 in
theorem four6 (n : Nat) (a b d e r1 r2 r3 r4 : Int) (k : (241 ≤ a ∧ a ≤ 243 ∧ stepI 0 a = 3)) (hn0 : 1 ≤ n) (h1 : r1 = if 1 ≤ n then stepI 0 a else -1) (h2 : r2 = if 2 ≤ n then stepI r1 b else -1) (h3 : r3 = if 3 ≤ n then stepI r2 d else -1) (h4 : r4 = if 4 ≤ n then stepI r3 e else -1) : FourSays n a b d e r1 r2 r3 r4 := by
  unfold FourSays
  have hn : n = 1 ∨ n = 2 ∨ n = 3 ∨ 4 ≤ n := by omega
  rw [if_pos (by omega), k.2.2] at h1
  rcases hn with hn | hn | hn | hn
  · rw [if_neg (by omega)] at h2
    rw [if_neg (by omega)] at h3
    rw [if_neg (by omega)] at h4
    refine .inr (.inr (.inr (.inr ⟨by unfold seqN cont; (repeat' split) <;> omega, by omega, by omega, by omega, by omega, fun hn1 => ?_, fun hn2 => ?_, fun hn3 => ?_, fun hn4 => ?_⟩)))
    · rw [prefN1]; omega
    · omega
    · omega
    · omega
  · rw [if_pos (by omega), h1] at h2
    rcases step3 b with m2 | m2
    · rw [m2.2] at h2
      unfold cont at m2
      rw [if_neg (by omega)] at h3
      rw [if_neg (by omega)] at h4
      refine .inr (.inr (.inr (.inr ⟨by unfold seqN cont; (repeat' split) <;> omega, by omega, by omega, by omega, by omega, fun hn1 => ?_, fun hn2 => ?_, fun hn3 => ?_, fun hn4 => ?_⟩)))
      · rw [prefN1]; omega
      · rw [prefN2]; unfold cont; omega
      · omega
      · omega
    · rw [m2.2] at h2
      unfold cont at m2
      rw [if_neg (by omega)] at h3
      rw [if_neg (by omega)] at h4
      refine .inr (.inr (.inr (.inr ⟨by unfold seqN cont; (repeat' split) <;> omega, by omega, by omega, by omega, by omega, fun hn1 => ?_, fun hn2 => ?_, fun hn3 => ?_, fun hn4 => ?_⟩)))
      · rw [prefN1]; omega
      · rw [prefN2]; unfold cont; omega
      · omega
      · omega
  · rw [if_pos (by omega), h1] at h2
    rcases step3 b with m2 | m2
    · rw [m2.2] at h2
      unfold cont at m2
      rw [if_pos (by omega), h2] at h3
      rcases step2 d with m3 | m3
      · rw [m3.2] at h3
        unfold cont at m3
        rw [if_neg (by omega)] at h4
        refine .inr (.inr (.inr (.inr ⟨by unfold seqN cont; (repeat' split) <;> omega, by omega, by omega, by omega, by omega, fun hn1 => ?_, fun hn2 => ?_, fun hn3 => ?_, fun hn4 => ?_⟩)))
        · rw [prefN1]; omega
        · rw [prefN2]; unfold cont; omega
        · rw [prefN3]; unfold cont; omega
        · omega
      · rw [m3.2] at h3
        unfold cont at m3
        rw [if_neg (by omega)] at h4
        refine .inr (.inr (.inr (.inr ⟨by unfold seqN cont; (repeat' split) <;> omega, by omega, by omega, by omega, by omega, fun hn1 => ?_, fun hn2 => ?_, fun hn3 => ?_, fun hn4 => ?_⟩)))
        · rw [prefN1]; omega
        · rw [prefN2]; unfold cont; omega
        · rw [prefN3]; unfold cont; omega
        · omega
    · rw [m2.2] at h2
      unfold cont at m2
      rw [if_pos (by omega), h2] at h3
      rw [stepF] at h3
      rw [if_neg (by omega)] at h4
      refine .inr (.inr (.inr (.inr ⟨by unfold seqN cont; (repeat' split) <;> omega, by omega, by omega, by omega, by omega, fun hn1 => ?_, fun hn2 => ?_, fun hn3 => ?_, fun hn4 => ?_⟩)))
      · rw [prefN1]; omega
      · rw [prefN2]; unfold cont; omega
      · rw [prefN3]; unfold cont; omega
      · omega
  · rw [if_pos (by omega), h1] at h2
    rcases step3 b with m2 | m2
    · rw [m2.2] at h2
      unfold cont at m2
      rw [if_pos (by omega), h2] at h3
      rcases step2 d with m3 | m3
      · rw [m3.2] at h3
        unfold cont at m3
        rw [if_pos (by omega), h3] at h4
        rcases step1 e with m4 | m4
        · rw [m4.2] at h4
          unfold cont at m4
          exact .inr (.inr (.inr (.inl ⟨by unfold seqN cont; (repeat' split) <;> omega, by omega, by omega, by omega, by omega⟩)))
        · rw [m4.2] at h4
          unfold cont at m4
          refine .inr (.inr (.inr (.inr ⟨by unfold seqN cont; (repeat' split) <;> omega, by omega, by omega, by omega, by omega, fun hn1 => ?_, fun hn2 => ?_, fun hn3 => ?_, fun hn4 => ?_⟩)))
          · rw [prefN1]; omega
          · rw [prefN2]; unfold cont; omega
          · rw [prefN3]; unfold cont; omega
          · rw [prefN4]; unfold cont; omega
      · rw [m3.2] at h3
        unfold cont at m3
        rw [if_pos (by omega), h3] at h4
        rw [stepF] at h4
        refine .inr (.inr (.inr (.inr ⟨by unfold seqN cont; (repeat' split) <;> omega, by omega, by omega, by omega, by omega, fun hn1 => ?_, fun hn2 => ?_, fun hn3 => ?_, fun hn4 => ?_⟩)))
        · rw [prefN1]; omega
        · rw [prefN2]; unfold cont; omega
        · rw [prefN3]; unfold cont; omega
        · rw [prefN4]; unfold cont; omega
    · rw [m2.2] at h2
      unfold cont at m2
      rw [if_pos (by omega), h2] at h3
      rw [stepF] at h3
      rw [if_pos (by omega), h3] at h4
      rw [stepF] at h4
      refine .inr (.inr (.inr (.inr ⟨by unfold seqN cont; (repeat' split) <;> omega, by omega, by omega, by omega, by omega, fun hn1 => ?_, fun hn2 => ?_, fun hn3 => ?_, fun hn4 => ?_⟩)))
      · rw [prefN1]; omega
      · rw [prefN2]; unfold cont; omega
      · rw [prefN3]; unfold cont; omega
      · rw [prefN4]; unfold cont; omega

set_option maxHeartbeats 2000000 in
theorem four7 (n : Nat) (a b d e r1 r2 r3 r4 : Int) (k : (a = 244 ∧ stepI 0 a = 7)) (hn0 : 1 ≤ n) (h1 : r1 = if 1 ≤ n then stepI 0 a else -1) (h2 : r2 = if 2 ≤ n then stepI r1 b else -1) (h3 : r3 = if 3 ≤ n then stepI r2 d else -1) (h4 : r4 = if 4 ≤ n then stepI r3 e else -1) : FourSays n a b d e r1 r2 r3 r4 := by
  unfold FourSays
  have hn : n = 1 ∨ n = 2 ∨ n = 3 ∨ 4 ≤ n := by omega
  rw [if_pos (by omega), k.2] at h1
  rcases hn with hn | hn | hn | hn
  · rw [if_neg (by omega)] at h2
    rw [if_neg (by omega)] at h3
    rw [if_neg (by omega)] at h4
    refine .inr (.inr (.inr (.inr ⟨by unfold seqN cont; (repeat' split) <;> omega, by omega, by omega, by omega, by omega, fun hn1 => ?_, fun hn2 => ?_, fun hn3 => ?_, fun hn4 => ?_⟩)))
    · rw [prefN1]; omega
    · omega
    · omega
    · omega
  · rw [if_pos (by omega), h1] at h2
    rcases step7 b with m2 | m2
    · rw [m2.2.2] at h2
      rw [if_neg (by omega)] at h3
      rw [if_neg (by omega)] at h4
      refine .inr (.inr (.inr (.inr ⟨by unfold seqN cont; (repeat' split) <;> omega, by omega, by omega, by omega, by omega, fun hn1 => ?_, fun hn2 => ?_, fun hn3 => ?_, fun hn4 => ?_⟩)))
      · rw [prefN1]; omega
      · rw [prefN2]; unfold cont; omega
      · omega
      · omega
    · rw [m2.2] at h2
      rw [if_neg (by omega)] at h3
      rw [if_neg (by omega)] at h4
      refine .inr (.inr (.inr (.inr ⟨by unfold seqN cont; (repeat' split) <;> omega, by omega, by omega, by omega, by omega, fun hn1 => ?_, fun hn2 => ?_, fun hn3 => ?_, fun hn4 => ?_⟩)))
      · rw [prefN1]; omega
      · rw [prefN2]; unfold cont; omega
      · omega
      · omega
  · rw [if_pos (by omega), h1] at h2
    rcases step7 b with m2 | m2
    · rw [m2.2.2] at h2
      rw [if_pos (by omega), h2] at h3
      rcases step2 d with m3 | m3
      · rw [m3.2] at h3
        unfold cont at m3
        rw [if_neg (by omega)] at h4
        refine .inr (.inr (.inr (.inr ⟨by unfold seqN cont; (repeat' split) <;> omega, by omega, by omega, by omega, by omega, fun hn1 => ?_, fun hn2 => ?_, fun hn3 => ?_, fun hn4 => ?_⟩)))
        · rw [prefN1]; omega
        · rw [prefN2]; unfold cont; omega
        · rw [prefN3]; unfold cont; omega
        · omega
      · rw [m3.2] at h3
        unfold cont at m3
        rw [if_neg (by omega)] at h4
        refine .inr (.inr (.inr (.inr ⟨by unfold seqN cont; (repeat' split) <;> omega, by omega, by omega, by omega, by omega, fun hn1 => ?_, fun hn2 => ?_, fun hn3 => ?_, fun hn4 => ?_⟩)))
        · rw [prefN1]; omega
        · rw [prefN2]; unfold cont; omega
        · rw [prefN3]; unfold cont; omega
        · omega
    · rw [m2.2] at h2
      rw [if_pos (by omega), h2] at h3
      rw [stepF] at h3
      rw [if_neg (by omega)] at h4
      refine .inr (.inr (.inr (.inr ⟨by unfold seqN cont; (repeat' split) <;> omega, by omega, by omega, by omega, by omega, fun hn1 => ?_, fun hn2 => ?_, fun hn3 => ?_, fun hn4 => ?_⟩)))
      · rw [prefN1]; omega
      · rw [prefN2]; unfold cont; omega
      · rw [prefN3]; unfold cont; omega
      · omega
  · rw [if_pos (by omega), h1] at h2
    rcases step7 b with m2 | m2
    · rw [m2.2.2] at h2
      rw [if_pos (by omega), h2] at h3
      rcases step2 d with m3 | m3
      · rw [m3.2] at h3
        unfold cont at m3
        rw [if_pos (by omega), h3] at h4
        rcases step1 e with m4 | m4
        · rw [m4.2] at h4
          unfold cont at m4
          exact .inr (.inr (.inr (.inl ⟨by unfold seqN cont; (repeat' split) <;> omega, by omega, by omega, by omega, by omega⟩)))
        · rw [m4.2] at h4
          unfold cont at m4
          refine .inr (.inr (.inr (.inr ⟨by unfold seqN cont; (repeat' split) <;> omega, by omega, by omega, by omega, by omega, fun hn1 => ?_, fun hn2 => ?_, fun hn3 => ?_, fun hn4 => ?_⟩)))
          · rw [prefN1]; omega
          · rw [prefN2]; unfold cont; omega
          · rw [prefN3]; unfold cont; omega
          · rw [prefN4]; unfold cont; omega
      · rw [m3.2] at h3
        unfold cont at m3
        rw [if_pos (by omega), h3] at h4
        rw [stepF] at h4
        refine .inr (.inr (.inr (.inr ⟨by unfold seqN cont; (repeat' split) <;> omega, by omega, by omega, by omega, by omega, fun hn1 => ?_, fun hn2 => ?_, fun hn3 => ?_, fun hn4 => ?_⟩)))
        · rw [prefN1]; omega
        · rw [prefN2]; unfold cont; omega
        · rw [prefN3]; unfold cont; omega
        · rw [prefN4]; unfold cont; omega
    · rw [m2.2] at h2
      rw [if_pos (by omega), h2] at h3
      rw [stepF] at h3
      rw [if_pos (by omega), h3] at h4
      rw [stepF] at h4
      refine .inr (.inr (.inr (.inr ⟨by unfold seqN cont; (repeat' split) <;> omega, by omega, by omega, by omega, by omega, fun hn1 => ?_, fun hn2 => ?_, fun hn3 => ?_, fun hn4 => ?_⟩)))
      · rw [prefN1]; omega
      · rw [prefN2]; unfold cont; omega
      · rw [prefN3]; unfold cont; omega
      · rw [prefN4]; unfold cont; omega

set_option maxHeartbeats 2000000 in
theorem four8 (n : Nat) (a b d e r1 r2 r3 r4 : Int) (k : (¬ a < 128 ∧ ¬ (194 ≤ a ∧ a ≤ 244) ∧ stepI 0 a = -1)) (hn0 : 1 ≤ n) (h1 : r1 = if 1 ≤ n then stepI 0 a else -1) (h2 : r2 = if 2 ≤ n then stepI r1 b else -1) (h3 : r3 = if 3 ≤ n then stepI r2 d else -1) (h4 : r4 = if 4 ≤ n then stepI r3 e else -1) : FourSays n a b d e r1 r2 r3 r4 := by
  unfold FourSays
  have hn : n = 1 ∨ n = 2 ∨ n = 3 ∨ 4 ≤ n := by omega
  rw [if_pos (by omega), k.2.2] at h1
  rcases hn with hn | hn | hn | hn
  · rw [if_neg (by omega)] at h2
    rw [if_neg (by omega)] at h3
    rw [if_neg (by omega)] at h4
    refine .inr (.inr (.inr (.inr ⟨by unfold seqN cont; (repeat' split) <;> omega, by omega, by omega, by omega, by omega, fun hn1 => ?_, fun hn2 => ?_, fun hn3 => ?_, fun hn4 => ?_⟩)))
    · rw [prefN1]; omega
    · omega
    · omega
    · omega
  · rw [if_pos (by omega), h1] at h2
    rw [stepF] at h2
    rw [if_neg (by omega)] at h3
    rw [if_neg (by omega)] at h4
    refine .inr (.inr (.inr (.inr ⟨by unfold seqN cont; (repeat' split) <;> omega, by omega, by omega, by omega, by omega, fun hn1 => ?_, fun hn2 => ?_, fun hn3 => ?_, fun hn4 => ?_⟩)))
    · rw [prefN1]; omega
    · rw [prefN2]; unfold cont; omega
    · omega
    · omega
  · rw [if_pos (by omega), h1] at h2
    rw [stepF] at h2
    rw [if_pos (by omega), h2] at h3
    rw [stepF] at h3
    rw [if_neg (by omega)] at h4
    refine .inr (.inr (.inr (.inr ⟨by unfold seqN cont; (repeat' split) <;> omega, by omega, by omega, by omega, by omega, fun hn1 => ?_, fun hn2 => ?_, fun hn3 => ?_, fun hn4 => ?_⟩)))
    · rw [prefN1]; omega
    · rw [prefN2]; unfold cont; omega
    · rw [prefN3]; unfold cont; omega
    · omega
  · rw [if_pos (by omega), h1] at h2
    rw [stepF] at h2
    rw [if_pos (by omega), h2] at h3
    rw [stepF] at h3
    rw [if_pos (by omega), h3] at h4
    rw [stepF] at h4
    refine .inr (.inr (.inr (.inr ⟨by unfold seqN cont; (repeat' split) <;> omega, by omega, by omega, by omega, by omega, fun hn1 => ?_, fun hn2 => ?_, fun hn3 => ?_, fun hn4 => ?_⟩)))
    · rw [prefN1]; omega
    · rw [prefN2]; unfold cont; omega
    · rw [prefN3]; unfold cont; omega
    · rw [prefN4]; unfold cont; omega

theorem four (n : Nat) (a b d e r1 r2 r3 r4 : Int) (h1 : r1 = if 1 ≤ n then stepI 0 a else -1) (h2 : r2 = if 2 ≤ n then stepI r1 b else -1) (h3 : r3 = if 3 ≤ n then stepI r2 d else -1) (h4 : r4 = if 4 ≤ n then stepI r3 e else -1) : FourSays n a b d e r1 r2 r3 r4 := by
  by_cases hn : 1 ≤ n
  · rcases step0 a with k | k | k | k | k | k | k | k | k
    · exact four0 n a b d e r1 r2 r3 r4 k hn h1 h2 h3 h4
    · exact four1 n a b d e r1 r2 r3 r4 k hn h1 h2 h3 h4
    · exact four2 n a b d e r1 r2 r3 r4 k hn h1 h2 h3 h4
    · exact four3 n a b d e r1 r2 r3 r4 k hn h1 h2 h3 h4
    · exact four4 n a b d e r1 r2 r3 r4 k hn h1 h2 h3 h4
    · exact four5 n a b d e r1 r2 r3 r4 k hn h1 h2 h3 h4
    · exact four6 n a b d e r1 r2 r3 r4 k hn h1 h2 h3 h4
    · exact four7 n a b d e r1 r2 r3 r4 k hn h1 h2 h3 h4
    · exact four8 n a b d e r1 r2 r3 r4 k hn h1 h2 h3 h4
  · unfold FourSays
    rw [if_neg (by omega)] at h1 h2 h3 h4
    exact .inr (.inr (.inr (.inr ⟨by unfold seqN; rw [if_pos (by omega)], by omega, by omega, by omega, by omega, by omega, by omega, by omega, by omega⟩)))

end Go.Proofs.YtajedohgcepkiaaDoor.Utf
