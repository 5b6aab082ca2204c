/-
  The document's reader and the machine: delimiters, ends of lines, the end.
-/
import Derived.Test.YtajedohgcepkiaaDoorRows
import Derived.Test.YtajedohgcepkiaaDoorWhoS
namespace Go.Proofs.YtajedohgcepkiaaDoor
open Go.RowKit

/-- Between lines. -/
structure Idle (p q : Nat) (n : Int) (l : Lim) (s : ByteArray) (x : Rd) : Prop where
  kd : x.kd = 0
  len : x.rs.length = x.en.length
  i : x.i ≤ s.size
  rc : x.rc = []
  bg : (x.bg : Int) ≤ l.rs
  bd : x.rs.length ≤ x.i ∧ x.bg ≤ x.i
  run : runM p q n l s x.i = ⟨0, ⟨⟨#[]⟩, [], x.bg, x.rs.length, headN x, 0⟩, outs x, (0, 0)⟩
/-- All was read, without a fault. -/
structure Done (p q : Nat) (n : Int) (l : Lim) (s : ByteArray) (x : Rd) : Prop where
  kd : x.kd = 0
  len : x.rs.length = x.en.length
  ft : (finM p q n l s).ft = (0, 0)
  out : (finM p q n l s).out = outs x
  bd : x.rs.length ≤ s.size + 1

def recR (x : Rd) (f : ByteArray) : Rd := ⟨x.i, x.bg, x.rc ++ [f], x.rs, x.en, x.kd, x.pl⟩

section
variable {p q : Nat} {n : Int} {l : Lim} {s : ByteArray} {x : Rd} {f : ByteArray} {st : Nat}
theorem dead_rec {k a : Nat} (h : Dead p q n l s (wrongV x k a)) : Dead p q n l s (wrongV (recR x f) k a) := by
  unfold wrongV at h ⊢
  by_cases hk : x.kd = 0
  · rw [if_pos hk] at h
    rw [if_pos (show (recR x f).kd = 0 from hk)]
    exact ⟨h.kd, h.len, h.ft, h.out, h.bd⟩
  · rw [if_neg hk] at h
    rw [if_neg (show ¬ (recR x f).kd = 0 from hk)]
    exact ⟨h.kd, h.len, h.ft, h.out, h.bd⟩
theorem dead_end {k : Nat} (hk : x.kd = 0) (hl : x.rs.length = x.en.length) (hb : x.rs.length ≤ s.size) (h : (finM p q n l s).ft = (k, s.size)) (ho : (finM p q n l s).out = outs x) (h0 : k ≠ 0) : Dead p q n l s (wrongV x k s.size) := by
  have e : wrongV x k s.size = ⟨x.i, x.bg, x.rc, x.rs, x.en, k, s.size⟩ := by unfold wrongV; rw [if_pos hk]
  rw [e]
  exact ⟨h0, hl, h, ho, hb⟩

theorem step_delim {b : Nat} (hok : okB p q n = true) (hst : st = 0 ∨ st = 1 ∨ st = 2 ∨ st = 4) (hb : b = p) : stepV p q n st b = ⟨⟨decide (st = 0), false, true, false, false, 0⟩, 1, 0⟩ := by
  have h := okB_spec hok
  unfold stepV
  rw [if_neg (by omega), if_neg (by omega), if_neg (by omega)]
  unfold outV
  rw [if_neg (by omega), if_pos hb]
def fldC (l : Lim) (x : Rd) : Bool := l.un && decide (0 < x.rs.length) && decide (x.rc.length + 1 = headN x)
theorem fld_is (h : At p q n l s x f st) (b : Nat) : fldE l ⟨f, x.rc, b, x.rs.length, headN x, 0⟩ = if (x.rc.length : Int) + 1 = l.fl then 8 else if fldC l x = true then 10 else 0 := by
  have := h.rc
  unfold fldE fieldV fldC must
  simp only []
  by_cases h1 : (x.rc.length : Int) + 1 = l.fl
  · rw [if_pos (by omega), if_pos h1]
  · rw [if_neg (by omega), if_neg h1]
    by_cases h2 : (l.un && decide (0 < x.rs.length)) = true ∧ x.rc.length + 1 = headN x
    · rw [if_pos h2, if_pos (by simp [h2.1, h2.2])]
    · rw [if_neg h2, if_neg (by simpa using h2)]
/-- A delimiter behind a field. -/
theorem At.delim (h : At p q n l s x f st) (hok : okB p q n = true) (hfs : 1 ≤ l.fs) (hst : st = 0 ∨ st = 1 ∨ st = 2 ∨ st = 4) (hi : x.i < s.size) (hp : bytN s x.i = p) :
    ((x.rc.length : Int) + 1 = l.fl → Dead p q n l s (wrongV (recR x f) 8 x.i)) ∧ ((x.rc.length : Int) + 1 ≠ l.fl → fldC l x = true → Dead p q n l s (wrongV (recR x f) 10 x.i)) ∧
      ((x.rc.length : Int) + 1 ≠ l.fl → fldC l x = false → At p q n l s (goR (recR x f) (x.i + 1)) ⟨#[]⟩ 1) := by
  have hs := step_delim (n := n) hok hst hp
  have hbd := h.bd
  have hrc := h.rc
  have hE := fld_is h (x.bg - (if st = 0 then 1 else 0))
  have bad : ∀ k, fldE l ⟨f, x.rc, x.bg - (if st = 0 then 1 else 0), x.rs.length, headN x, 0⟩ = k → k ≠ 0 → Dead p q n l s (wrongV (recR x f) k x.i) := by
    intro k hk h0
    refine dead_rec ?_
    by_cases e : st = 0
    · rw [show decide (st = 0) = true from decide_eq_true e] at hs
      obtain ⟨_, _, z3, z4, _⟩ := h.z0 e
      refine h.make hi hs ?_ h0
      rw [take_begin_field_no rfl (by simp only [if_pos e]; omega) (by rw [hk]; exact h0)]
      exact hk
    · rw [show decide (st = 0) = false from decide_eq_false e] at hs
      refine h.make hi hs ?_ h0
      rw [take_field_no rfl (by rw [hk]; exact h0)]
      exact hk
  refine ⟨fun h1 => bad 8 (by rw [hE, if_pos h1]) (by decide), fun h1 h2 => bad 10 (by rw [hE, if_neg h1, if_pos h2]) (by decide), fun h1 h2 => ?_⟩
  have h0 : fldE l ⟨f, x.rc, x.bg - (if st = 0 then 1 else 0), x.rs.length, headN x, 0⟩ = 0 := by rw [hE, if_neg h1, if_neg (by rw [h2]; simp)]
  have hrun : runM p q n l s (x.i + 1) = ⟨1, ⟨⟨#[]⟩, x.rc ++ [f], x.bg, x.rs.length, headN x, 0⟩, outs x, (0, 0)⟩ := by
    by_cases e : st = 0
    · rw [show decide (st = 0) = true from decide_eq_true e] at hs
      obtain ⟨_, _, z3, z4, _⟩ := h.z0 e
      have := h.next (r := none) hs (take_begin_field (l := l) (b := 0) rfl (by simp only [if_pos e]; omega) h0) rfl
      rw [this]
      simp only [if_pos e, outW]
      rw [show x.bg - 1 + 1 = x.bg by omega]
    · rw [show decide (st = 0) = false from decide_eq_false e] at hs
      have := h.next (r := none) hs (take_field (l := l) (b := 0) rfl h0) rfl
      rw [this]
      simp only [if_neg e, outW, Nat.sub_zero]
  have hz : (ByteArray.mk #[]).size = 0 := rfl
  refine ⟨h.kd, h.len, by simp only [goR, recR]; omega, by simp only [goR, recR, List.length_append, List.length_singleton]; omega, by omega, ?_, by rw [show (goR (recR x f) (x.i + 1)).i = x.i + 1 from rfl, hrun]; rfl, fun e => by omega, fun _ => rfl, fun e => by omega⟩
  simp only [goR, recR, List.length_append, List.length_singleton]
  omega

theorem lin_is (x : Rd) (f : ByteArray) (b : Nat) : linE l ⟨f, x.rc, b, x.rs.length, headN x, 0⟩ = if widthB l (recR x f) = true then 10 else 0 := by
  unfold linE lineV widthB must recR headN
  simp only [List.length_append, List.length_singleton]
  by_cases h2 : (l.un && decide (0 < x.rs.length)) = true ∧ x.rc.length + 1 ≠ (x.rs.head?.getD []).length
  · rw [if_pos h2, if_pos (by simp [h2.1, h2.2])]
  · rw [if_neg h2, if_neg (by simpa using h2)]

/-- What stands behind a whole record. -/
theorem head_whole (x : Rd) (f : ByteArray) (a : Nat) : headN (wholeV a (recR x f)) = if x.rs.length = 0 then x.rc.length + 1 else headN x := by
  unfold headN wholeV recR
  cases h : x.rs with
  | nil => simp
  | cons L T => simp
theorem outs_whole (x : Rd) (f : ByteArray) (a : Nat) (hl : x.rs.length = x.en.length) : outs (wholeV a (recR x f)) = outs x ++ [(x.rc ++ [f], a)] := by
  unfold outs wholeV recR
  simp only []
  rw [List.zip_append hl]
  rfl

/-- The end of the text behind a record. -/
theorem At.finish (h : At p q n l s x f st) (hst : st = 1 ∨ st = 2 ∨ st = 4) (hi : x.i = s.size) :
    (widthB l (recR x f) = true → Dead p q n l s (wrongV (recR x f) 10 x.i)) ∧ (widthB l (recR x f) = false → Done p q n l s (wholeV x.i (recR x f))) := by
  have hbd := h.bd
  have hc : closeV st = ⟨⟨false, false, false, true, true, 0⟩, 0, 0⟩ := by unfold closeV; rw [if_pos hst]
  have hst0 : st ≠ 0 := by omega
  have hE := lin_is (l := l) x f (x.bg - (if st = 0 then 1 else 0))
  have hf : finM p q n l s = takeM l (runM p q n l s x.i) ⟨false, false, false, true, true, 0⟩ 0 x.i := by
    unfold finM
    rw [← hi]
    unfold endM
    rw [h.run]
    simp only []
    rw [if_neg (by simp), hc, if_neg (by simp)]
  rw [h.run] at hf
  unfold takeM at hf
  simp only [] at hf
  refine ⟨fun hw => ?_, fun hw => ?_⟩
  · have h10 : linE l ⟨f, x.rc, x.bg - (if st = 0 then 1 else 0), x.rs.length, headN x, 0⟩ = 10 := by rw [hE, if_pos hw]
    have ht := take_line_no (l := l) (re := true) (b := 0) (m := ⟨f, x.rc, x.bg - (if st = 0 then 1 else 0), x.rs.length, headN x, 0⟩) rfl (by rw [h10]; decide)
    rw [h10] at ht
    rw [if_neg (by rw [ht]; decide), ht] at hf
    rw [hi] at hf ⊢
    refine dead_rec (dead_end h.kd h.len (by omega) (by rw [hf]) (by rw [hf]) (by decide))
  · have h0 : linE l ⟨f, x.rc, x.bg - (if st = 0 then 1 else 0), x.rs.length, headN x, 0⟩ = 0 := by rw [hE, if_neg (by rw [hw]; simp)]
    have ht := take_last (l := l) (b := 0) (m := ⟨f, x.rc, x.bg - (if st = 0 then 1 else 0), x.rs.length, headN x, 0⟩) rfl h0
    rw [ht, if_pos rfl] at hf
    refine ⟨h.kd, ?_, by rw [hf], ?_, ?_⟩
    · have := h.len
      simp only [wholeV, recR, List.length_append, List.length_singleton]
      omega
    · rw [hf, outs_whole x f x.i h.len]
      rfl
    · simp only [wholeV, recR, List.length_append, List.length_singleton]
      omega
/-- The end of the text within quotes. -/
theorem At.cut (h : At p q n l s x f 3) (hi : x.i = s.size) : Dead p q n l s (wrongV x 11 x.i) := by
  have hbd := h.bd
  have hf : finM p q n l s = ⟨3, ⟨f, x.rc, x.bg, x.rs.length, headN x, 0⟩, outs x, (11, x.i)⟩ := by
    unfold finM
    rw [← hi]
    unfold endM
    rw [h.run]
    rfl
  rw [hi] at hf ⊢
  exact dead_end h.kd h.len (by omega) (by rw [hf]) (by rw [hf]) (by decide)

theorem step_lf (hok : okB p q n = true) (hst : st = 1 ∨ st = 2 ∨ st = 4) : stepV p q n st 10 = if n = 2 then ⟨ev0, 0, 6⟩ else ⟨⟨false, false, false, true, true, 0⟩, 0, 0⟩ := by
  have h := okB_spec hok
  unfold stepV
  rw [if_neg (by omega), if_neg (by omega), if_neg (by omega)]
  unfold outV
  rw [if_neg (by omega), if_neg (by omega), if_neg (by omega), if_pos rfl]
  unfold endV mayV
  by_cases hn : n = 2
  · subst hn; rfl
  · rw [if_neg hn, if_neg (show ¬ (10 : Nat) = 13 by omega), if_neg (by simp [hn]), if_neg (show ¬ (10 : Nat) = 13 by omega), if_neg (by omega)]
theorem step_cr (hok : okB p q n = true) (hst : st = 1 ∨ st = 2 ∨ st = 4) : stepV p q n st 13 = if n = 1 then ⟨ev0, 0, 6⟩ else ⟨⟨false, false, false, true, false, 0⟩, 5, 0⟩ := by
  have h := okB_spec hok
  unfold stepV
  rw [if_neg (by omega), if_neg (by omega), if_neg (by omega)]
  unfold outV
  rw [if_neg (by omega), if_neg (by omega), if_pos rfl]
  unfold endV mayV
  by_cases hn : n = 1
  · subst hn; rfl
  · rw [if_neg hn, if_pos (show (13 : Nat) = 13 from rfl), if_neg (by simp [hn]), if_pos rfl, if_neg (by omega)]

/-- A line feed behind a record. -/
theorem At.lf (h : At p q n l s x f st) (hok : okB p q n = true) (hst : st = 1 ∨ st = 2 ∨ st = 4) (hi : x.i < s.size) (hb : bytN s x.i = 10) (hbg : (x.bg : Int) ≤ l.rs) :
    (n = 2 → Dead p q n l s (wrongV (recR x f) 6 x.i)) ∧ (n ≠ 2 → widthB l (recR x f) = true → Dead p q n l s (wrongV (recR x f) 10 x.i)) ∧ (n ≠ 2 → widthB l (recR x f) = false → Idle p q n l s (goR (wholeV x.i (recR x f)) (x.i + 1))) := by
  have hbd := h.bd
  have hs := step_lf hok hst
  rw [← hb] at hs
  have hst0 : st ≠ 0 := by omega
  have hE := lin_is (l := l) x f (x.bg - (if st = 0 then 1 else 0))
  refine ⟨fun hn => ?_, fun hn hw => ?_, fun hn hw => ?_⟩
  · rw [if_pos hn] at hs
    exact dead_rec (h.scan hi (by rw [hs]) (by decide))
  · rw [if_neg hn] at hs
    have h10 : linE l ⟨f, x.rc, x.bg - (if st = 0 then 1 else 0), x.rs.length, headN x, 0⟩ = 10 := by rw [hE, if_pos hw]
    refine dead_rec (h.make hi hs ?_ (by decide))
    rw [take_line_no rfl (by rw [h10]; decide), h10]
  · rw [if_neg hn] at hs
    have h0 : linE l ⟨f, x.rc, x.bg - (if st = 0 then 1 else 0), x.rs.length, headN x, 0⟩ = 0 := by rw [hE, if_neg (by rw [hw]; simp)]
    have hrun := h.next hs (take_last (l := l) (b := 0) rfl h0) rfl
    refine ⟨h.kd, ?_, by simp only [goR]; omega, rfl, hbg, ?_, ?_⟩
    · have := h.len
      simp only [goR, wholeV, recR, List.length_append, List.length_singleton]
      omega
    · simp only [goR, wholeV, recR, List.length_append, List.length_singleton]
      omega
    · rw [show (goR (wholeV x.i (recR x f)) (x.i + 1)).i = x.i + 1 from rfl, hrun, show outs (goR (wholeV x.i (recR x f)) (x.i + 1)) = outs (wholeV x.i (recR x f)) from rfl, outs_whole x f x.i h.len, show headN (goR (wholeV x.i (recR x f)) (x.i + 1)) = headN (wholeV x.i (recR x f)) from rfl, head_whole]
      simp only [if_neg hst0, Nat.sub_zero, goR, wholeV, recR, List.length_append, List.length_singleton, outW]
end

end Go.Proofs.YtajedohgcepkiaaDoor
