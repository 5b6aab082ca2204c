/-
  Which texts can be made a sequence, as a table; and whether a text goes.
-/
import Derived.Test.YtajedohgcepkiaaDoorRows
import Derived.Test.YtajedohgcepkiaaDoorUtG
namespace Go.Proofs.YtajedohgcepkiaaDoor.Utf
open Go.RowKit

theorem byt_three (x y z : UInt8) : byt ⟨#[x, y, z]⟩ 0 = x.toNat ∧ byt ⟨#[x, y, z]⟩ 1 = y.toNat ∧ byt ⟨#[x, y, z]⟩ 2 = z.toNat := ⟨rfl, rfl, rfl⟩

theorem byt_more (s : ByteArray) (a b i : Nat) (ha : a < 64) (hb : b < 64) :
    byt (more s a b) i = if i < s.size then byt s i else if i = s.size then 128 + (a : Int) else if i = s.size + 1 then 128 + (b : Int) else if i = s.size + 2 then 128 else 0 := by
  unfold more
  rw [byt_append]
  have ht := byt_three (toB (128 + a)) (toB (128 + b)) (toB 128)
  have e1 := toB_toNat (128 + a) (by omega) (by omega)
  have e2 := toB_toNat (128 + b) (by omega) (by omega)
  have e3 := toB_toNat 128 (by omega) (by omega)
  split
  · rfl
  · rename_i h
    split
    · rename_i h1; rw [show i - s.size = 0 by omega, ht.1, e1]
    · split
      · rename_i h1; rw [show i - s.size = 1 by omega, ht.2.1, e2]
      · split
        · rename_i h1; rw [show i - s.size = 2 by omega, ht.2.2, e3]
        · rename_i h1 h2 h3
          exact byt_out _ _ (by show 3 ≤ _; omega)

/-- n bytes are the beginning of a sequence, or one: n from 1 to 4. -/
def prefN (n : Nat) (a b d e : Int) : Prop :=
  (n = 1 ∧ (a < 128 ∨ (194 ≤ a ∧ a ≤ 244))) ∨
  (n = 2 ∧ ((194 ≤ a ∧ a ≤ 223 ∧ cont b) ∨ (224 ≤ a ∧ a ≤ 239 ∧ cont b ∧ (a = 224 → 160 ≤ b) ∧ (a = 237 → b ≤ 159)) ∨ (240 ≤ a ∧ a ≤ 244 ∧ cont b ∧ (a = 240 → 144 ≤ b) ∧ (a = 244 → b ≤ 143)))) ∨
  (n = 3 ∧ cont d ∧ ((224 ≤ a ∧ a ≤ 239 ∧ cont b ∧ (a = 224 → 160 ≤ b) ∧ (a = 237 → b ≤ 159)) ∨ (240 ≤ a ∧ a ≤ 244 ∧ cont b ∧ (a = 240 → 144 ≤ b) ∧ (a = 244 → b ≤ 143)))) ∨
  (n = 4 ∧ cont d ∧ cont e ∧ 240 ≤ a ∧ a ≤ 244 ∧ cont b ∧ (a = 240 → 144 ≤ b) ∧ (a = 244 → b ≤ 143))
def prefM (s : ByteArray) : Prop := prefN s.size (byt s 0) (byt s 1) (byt s 2) (byt s 3)

theorem pref1 (a x y z : Int) : (∃ k l : Nat, k < 64 ∧ l < 64 ∧ 1 ≤ seqN 4 a (128 + k) (128 + l) 128) ↔ prefN 1 a x y z := by
  unfold prefN cont
  constructor
  · rintro ⟨k, l, hk, hl, h⟩
    unfold seqN cont at h
    repeat' split at h
    all_goals omega
  · intro h
    refine ⟨if a = 224 then 32 else if a = 240 then 16 else 0, 0, by split <;> (try split) <;> omega, by omega, ?_⟩
    unfold seqN cont
    repeat' split
    all_goals omega

theorem pref2 (a b x y : Int) : (∃ k : Nat, k < 64 ∧ 2 ≤ seqN 5 a b (128 + k) 128) ↔ prefN 2 a b x y := by
  unfold prefN cont
  constructor
  · rintro ⟨k, hk, h⟩
    unfold seqN cont at h
    repeat' split at h
    all_goals omega
  · intro h
    refine ⟨0, by omega, ?_⟩
    unfold seqN cont
    repeat' split
    all_goals omega

theorem pref3 (a b d x : Int) : (∃ k : Nat, k < 64 ∧ 3 ≤ seqN 6 a b d (128 + k)) ↔ prefN 3 a b d x := by
  unfold prefN cont
  constructor
  · rintro ⟨k, hk, h⟩
    unfold seqN cont at h
    repeat' split at h
    all_goals omega
  · intro h
    refine ⟨0, by omega, ?_⟩
    unfold seqN cont
    repeat' split
    all_goals omega

theorem pref4 (a b d e : Int) : (4 ≤ seqN 7 a b d e) ↔ prefN 4 a b d e := by
  unfold prefN seqN cont
  constructor
  · intro h
    repeat' split at h
    all_goals omega
  · intro h
    repeat' split
    all_goals omega

theorem goes_iff (s : ByteArray) (h1 : 1 ≤ s.size) (h4 : s.size ≤ 4) : (∃ a b : Nat, a < 64 ∧ b < 64 ∧ (s.size ≤ 1 ∨ b = 0) ∧ good s a b) ↔ prefM s := by
  have hm : ∀ a b : Nat, a < 64 → b < 64 → sizeM (more s a b) = seqN (s.size + 3) (byt (more s a b) 0) (byt (more s a b) 1) (byt (more s a b) 2) (byt (more s a b) 3) := by
    intro a b _ _
    unfold sizeM
    rw [more_size]
  have hn : s.size = 1 ∨ s.size = 2 ∨ s.size = 3 ∨ s.size = 4 := by omega
  unfold prefM good
  rcases hn with hn | hn | hn | hn
  · have key : ∀ a b : Nat, a < 64 → b < 64 → sizeM (more s a b) = seqN 4 (byt s 0) (128 + a) (128 + b) 128 := by
      intro a b ha hb
      rw [hm a b ha hb, byt_more s a b 0 ha hb, byt_more s a b 1 ha hb, byt_more s a b 2 ha hb, byt_more s a b 3 ha hb, hn]
      simp
    rw [hn, ← pref1]
    constructor
    · rintro ⟨a, b, ha, hb, _, hg, _⟩
      rw [key a b ha hb] at hg
      exact ⟨a, b, ha, hb, hg⟩
    · rintro ⟨a, b, ha, hb, hg⟩
      exact ⟨a, b, ha, hb, .inl (by omega), by rw [key a b ha hb]; omega, by rw [key a b ha hb]; omega⟩
  · have key : ∀ a : Nat, a < 64 → sizeM (more s a 0) = seqN 5 (byt s 0) (byt s 1) (128 + a) 128 := by
      intro a ha
      rw [hm a 0 ha (by omega), byt_more s a 0 0 ha (by omega), byt_more s a 0 1 ha (by omega), byt_more s a 0 2 ha (by omega), byt_more s a 0 3 ha (by omega), hn]
      simp
    rw [hn, ← pref2]
    constructor
    · rintro ⟨a, b, ha, hb, hc, hg, _⟩
      have hb0 : b = 0 := by omega
      subst hb0
      rw [key a ha] at hg
      exact ⟨a, ha, hg⟩
    · rintro ⟨a, ha, hg⟩
      exact ⟨a, 0, ha, by omega, .inr rfl, by rw [key a ha]; omega, by rw [key a ha]; omega⟩
  · have key : ∀ a : Nat, a < 64 → sizeM (more s a 0) = seqN 6 (byt s 0) (byt s 1) (byt s 2) (128 + a) := by
      intro a ha
      rw [hm a 0 ha (by omega), byt_more s a 0 0 ha (by omega), byt_more s a 0 1 ha (by omega), byt_more s a 0 2 ha (by omega), byt_more s a 0 3 ha (by omega), hn]
      simp
    rw [hn, ← pref3]
    constructor
    · rintro ⟨a, b, ha, hb, hc, hg, _⟩
      have hb0 : b = 0 := by omega
      subst hb0
      rw [key a ha] at hg
      exact ⟨a, ha, hg⟩
    · rintro ⟨a, ha, hg⟩
      exact ⟨a, 0, ha, by omega, .inr rfl, by rw [key a ha]; omega, by rw [key a ha]; omega⟩
  · have key : ∀ a : Nat, a < 64 → sizeM (more s a 0) = seqN 7 (byt s 0) (byt s 1) (byt s 2) (byt s 3) := by
      intro a ha
      rw [hm a 0 ha (by omega), byt_more s a 0 0 ha (by omega), byt_more s a 0 1 ha (by omega), byt_more s a 0 2 ha (by omega), byt_more s a 0 3 ha (by omega), hn]
      simp
    rw [hn, ← pref4]
    constructor
    · rintro ⟨a, b, ha, hb, hc, hg, _⟩
      have hb0 : b = 0 := by omega
      subst hb0
      rw [key a ha] at hg
      exact hg
    · intro hg
      exact ⟨0, 0, by omega, by omega, .inr rfl, by rw [key 0 (by omega)]; omega, by rw [key 0 (by omega)]; omega⟩

/-- Whether a text goes. -/
def goesM (s : ByteArray) : Prop := s.size = 0 ∨ prefM s
instance goesDec (s : ByteArray) : Decidable (goesM s) := by unfold goesM prefM prefN cont; infer_instance
def goesB (s : ByteArray) : Bool := decide (goesM s)

theorem size_pref (s : ByteArray) (h1 : 1 ≤ s.size) (h : sizeM s = s.size) : prefM s := by
  unfold sizeM at h
  unfold prefM prefN
  unfold seqN at h
  generalize byt s 0 = a at *
  generalize byt s 1 = b at *
  generalize byt s 2 = d at *
  generalize byt s 3 = e at *
  generalize s.size = n at *
  unfold cont at *
  repeat' split at h
  all_goals omega

theorem goesR (s : ByteArray) (w : World) (h1 : 1 ≤ s.size) (h4 : s.size ≤ 4) : Calls Tryd.prog 60 #[.string s] w (Gives (.bool (goesB s)) w) := by
  refine (goes_any s w h1 (by omega)).mono ?_
  rintro e w' ⟨h, hb⟩
  refine ⟨?_, hb⟩
  have hi := goes_iff s h1 h4
  rcases h with ⟨he, hg⟩ | ⟨he, hg⟩
  · have : goesB s = true := by unfold goesB; exact decide_eq_true (.inr (hi.1 hg))
    rw [he, this]
  · have : goesB s = false := by
      unfold goesB
      refine decide_eq_false ?_
      rintro (h | h)
      · omega
      · obtain ⟨a, b, ha, hb, hc, hh⟩ := hi.2 h
        exact hg a b ha hb hc hh
    rw [he, this]

end Go.Proofs.YtajedohgcepkiaaDoor.Utf
