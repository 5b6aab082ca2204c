/-
  The document's reader and the machine: carriage returns, empty lines, the beginning of a record.
-/
import Derived.Test.YtajedohgcepkiaaDoorRows
import Derived.Test.YtajedohgcepkiaaDoorWhoL
namespace Go.Proofs.YtajedohgcepkiaaDoor
open Go.RowKit

def bgR (x : Rd) : Rd := ⟨x.i, x.bg + 1, x.rc, x.rs, x.en, x.kd, x.pl⟩
theorem isB_is (s : ByteArray) (i b : Nat) : isB s i b = true ↔ i < s.size ∧ bytN s i = b := by
  unfold isB
  have := bytN_is s i
  rw [decide_eq_true_eq]
  constructor
  · rintro ⟨h1, h2⟩; exact ⟨h1, by omega⟩
  · rintro ⟨h1, h2⟩; exact ⟨h1, by omega⟩

section
variable {p q : Nat} {n : Int} {l : Lim} {s : ByteArray} {x : Rd} {f : ByteArray} {st : Nat}
theorem dead_go {j : Nat} (h : Dead p q n l s x) : Dead p q n l s (goR x j) := ⟨h.kd, h.len, h.ft, h.out, h.bd⟩

/-- Behind a carriage return that ended a record, or an empty line: what stands there is the second half, or a fault. -/
theorem behind_cr {y : MS} {e : Ev} {i : Nat} (hr : runM p q n l s (i + 1) = y) (h0 : y.ft = (0, 0)) (hst : y.st = 5 ∨ y.st = 6) (hi : i < s.size) (hk : x.kd = 0) (hl : x.rs.length = x.en.length) (hb : x.rs.length ≤ s.size) (ho : y.out = outs x)
    (he : y.st = 5 → e = ⟨false, false, false, false, true, 0⟩) (he6 : y.st = 6 → e = ev0) :
    (isB s (i + 1) 10 = true → runM p q n l s (i + 2) = takeM l y e 0 (i + 1)) ∧ (isB s (i + 1) 10 = false → Dead p q n l s (wrongV x 6 (i + 1))) := by
  refine ⟨fun h10 => ?_, fun h10 => ?_⟩
  · obtain ⟨h1, h2⟩ := (isB_is _ _ _).1 h10
    have h3 := run_step (p := p) (q := q) (n := n) (l := l) (s := s) (i + 1)
    rw [hr, h2] at h3
    rw [h3]
    unfold stepM
    rw [if_neg (by rw [h0]; simp)]
    rcases hst with e5 | e6
    · rw [e5, he e5]
      rfl
    · rw [e6, he6 e6]
      rfl
  · by_cases h1 : i + 1 < s.size
    · have h2 : bytN s (i + 1) ≠ 10 := fun hc => by
        have := (isB_is s (i + 1) 10).2 ⟨h1, hc⟩
        rw [h10] at this
        cases this
      have h3 := run_step (p := p) (q := q) (n := n) (l := l) (s := s) (i + 1)
      rw [hr] at h3
      have h4 : (stepV p q n y.st (bytN s (i + 1))).er = 6 := by
        rcases hst with e5 | e6
        · rw [e5]; unfold stepV behV; rw [if_neg (by omega), if_pos rfl, if_neg h2]
        · rw [e6]; unfold stepV behV; rw [if_neg (by omega), if_neg (by omega), if_pos rfl, if_neg h2]
      unfold stepM at h3
      rw [if_neg (by rw [h0]; simp), if_pos (by rw [h4]; decide)] at h3
      exact dead_at hk hl hb h1 (by rw [h3, h4]) (by rw [h3, ho]) (by decide)
    · have hz : i + 1 = s.size := by omega
      have hf : finM p q n l s = ⟨y.st, y.mr, y.out, (6, i + 1)⟩ := by
        unfold finM
        rw [← hz, hr]
        unfold endM
        rw [if_neg (by rw [h0]; simp)]
        have hc : closeV y.st = ⟨ev0, 0, 6⟩ := by
          unfold closeV
          rcases hst with e5 | e6
          · rw [e5]; rfl
          · rw [e6]; rfl
        rw [hc, if_pos (by simp)]
      rw [hz] at hf ⊢
      exact dead_end hk hl hb (by rw [hf]) (by rw [hf, ho]) (by decide)

/-- A carriage return behind a record. -/
theorem At.cr (h : At p q n l s x f st) (hok : okB p q n = true) (hst : st = 1 ∨ st = 2 ∨ st = 4) (hi : x.i < s.size) (hb : bytN s x.i = 13) (hbg : (x.bg : Int) ≤ l.rs) :
    (n = 1 → Dead p q n l s (wrongV (recR x f) 6 x.i)) ∧ (n ≠ 1 → widthB l (recR x f) = true → Dead p q n l s (wrongV (recR x f) 10 x.i)) ∧
      (n ≠ 1 → widthB l (recR x f) = false → (isB s (x.i + 1) 10 = true → Idle p q n l s (goR (wholeV (x.i + 1) (recR x f)) (x.i + 2))) ∧ (isB s (x.i + 1) 10 = false → Dead p q n l s (wrongV (recR x f) 6 (x.i + 1)))) := by
  have hbd := h.bd
  have hs := step_cr hok hst
  rw [← hb] at hs
  have hst0 : st ≠ 0 := by omega
  have hE := lin_is (l := l) x f (x.bg - (if st = 0 then 1 else 0))
  refine ⟨fun hn => ?_, fun hn hw => ?_, fun hn hw => ?_⟩
  · rw [if_pos hn] at hs
    exact dead_rec (h.scan hi (by rw [hs]) (by decide))
  · rw [if_neg hn] at hs
    have h10 : linE l ⟨f, x.rc, x.bg - (if st = 0 then 1 else 0), x.rs.length, headN x, 0⟩ = 10 := by rw [hE, if_pos hw]
    refine dead_rec (h.make hi hs ?_ (by decide))
    rw [take_line_no rfl (by rw [h10]; decide), h10]
  · rw [if_neg hn] at hs
    have h0 : linE l ⟨f, x.rc, x.bg - (if st = 0 then 1 else 0), x.rs.length, headN x, 0⟩ = 0 := by rw [hE, if_neg (by rw [hw]; simp)]
    have hrun := h.next hs (take_line (l := l) (b := 0) rfl h0) rfl
    simp only [if_neg hst0, Nat.sub_zero, outW] at hrun
    obtain ⟨b1, b2⟩ := behind_cr (x := x) (e := ⟨false, false, false, false, true, 0⟩) hrun rfl (.inl rfl) hi h.kd h.len (by omega) rfl (fun _ => rfl) (fun e => by simp at e)
    refine ⟨fun h10 => ?_, fun h10 => dead_rec (b2 h10)⟩
    have hr2 := b1 h10
    unfold takeM at hr2
    rw [take_record rfl] at hr2
    simp only [if_true] at hr2
    have hi1 := ((isB_is _ _ _).1 h10).1
    refine ⟨h.kd, ?_, by simp only [goR]; omega, rfl, hbg, ?_, ?_⟩
    · have := h.len
      simp only [goR, wholeV, recR, List.length_append, List.length_singleton]
      omega
    · simp only [goR, wholeV, recR, List.length_append, List.length_singleton]
      omega
    · rw [show (goR (wholeV (x.i + 1) (recR x f)) (x.i + 2)).i = x.i + 2 from rfl, hr2, show outs (goR (wholeV (x.i + 1) (recR x f)) (x.i + 2)) = outs (wholeV (x.i + 1) (recR x f)) from rfl, outs_whole x f (x.i + 1) h.len, show headN (goR (wholeV (x.i + 1) (recR x f)) (x.i + 2)) = headN (wholeV (x.i + 1) (recR x f)) from rfl, head_whole]
      simp only [goR, wholeV, recR, List.length_append, List.length_singleton, outW]

theorem step_zero {b : Nat} (h10 : b ≠ 10) (h13 : b ≠ 13) : ∃ ad fi b' to_, stepV p q n 0 b = ⟨⟨true, ad, fi, false, false, b'⟩, to_, 0⟩ := by
  unfold stepV
  rw [if_neg (by omega), if_neg (by omega), if_neg (by omega)]
  unfold outV
  by_cases hq : b = q
  · rw [if_pos hq]
    exact ⟨_, _, _, _, rfl⟩
  · rw [if_neg hq]
    by_cases hp : b = p
    · rw [if_pos hp]
      exact ⟨_, _, _, _, rfl⟩
    · rw [if_neg hp, if_neg h13, if_neg h10, if_neg (by omega)]
      exact ⟨_, _, _, _, rfl⟩
/-- A record begins. -/
theorem Idle.start (h : Idle p q n l s x) (hfl : 1 ≤ l.fl) (hfs : 1 ≤ l.fs) (hi : x.i < s.size) (h10 : bytN s x.i ≠ 10) (h13 : bytN s x.i ≠ 13) :
    ((x.bg : Int) = l.rs → Dead p q n l s (wrongV x 9 x.i)) ∧ ((x.bg : Int) ≠ l.rs → At p q n l s (bgR x) ⟨#[]⟩ 0) := by
  have hbd := h.bd
  have hbg := h.bg
  have hz : (ByteArray.mk #[]).size = 0 := rfl
  refine ⟨fun hr => ?_, fun hr => ?_⟩
  · obtain ⟨ad, fi, b', to_, hs⟩ := step_zero (p := p) (q := q) (n := n) h10 h13
    have h3 := run_step (p := p) (q := q) (n := n) (l := l) (s := s) x.i
    rw [h.run] at h3
    unfold stepM takeM at h3
    rw [if_neg (by simp), hs, if_neg (by simp)] at h3
    simp only [] at h3
    rw [take_begin_no rfl (by simp only []; omega), if_neg (by decide)] at h3
    exact dead_at h.kd h.len (by omega) hi (by rw [h3]) (by rw [h3]) (by decide)
  · refine ⟨h.kd, h.len, h.i, by simp only [bgR, h.rc]; simp; omega, by omega, by simp only [bgR, h.rc]; simp; omega, ?_, fun _ => ⟨h.rc, rfl, by simp only [bgR]; omega, by simp only [bgR]; omega, hi, h10, h13⟩, fun e => by omega, fun e => by omega⟩
    rw [show (bgR x).i = x.i from rfl, h.run]
    simp only [bgR, h.rc, if_true, Nat.add_sub_cancel]
    rfl
theorem step_lf0 (hok : okB p q n = true) : stepV p q n 0 10 = if n = 2 then ⟨ev0, 0, 6⟩ else ⟨ev0, 0, 0⟩ := by
  have h := okB_spec hok
  unfold stepV
  rw [if_neg (by omega), if_neg (by omega), if_neg (by omega)]
  unfold outV
  rw [if_neg (by omega), if_neg (by omega), if_neg (by omega), if_pos rfl]
  unfold endV mayV
  by_cases hn : n = 2
  · subst hn; rfl
  · rw [if_neg hn, if_neg (show ¬ (10 : Nat) = 13 by omega), if_neg (by simp [hn]), if_neg (show ¬ (10 : Nat) = 13 by omega), if_pos rfl]
theorem step_cr0 (hok : okB p q n = true) : stepV p q n 0 13 = if n = 1 then ⟨ev0, 0, 6⟩ else ⟨ev0, 6, 0⟩ := by
  have h := okB_spec hok
  unfold stepV
  rw [if_neg (by omega), if_neg (by omega), if_neg (by omega)]
  unfold outV
  rw [if_neg (by omega), if_neg (by omega), if_pos rfl]
  unfold endV mayV
  by_cases hn : n = 1
  · subst hn; rfl
  · rw [if_neg hn, if_pos (show (13 : Nat) = 13 from rfl), if_neg (by simp [hn]), if_pos rfl, if_pos rfl]
/-- An empty line that a line feed ends. -/
theorem Idle.lf (h : Idle p q n l s x) (hok : okB p q n = true) (hi : x.i < s.size) (hb : bytN s x.i = 10) :
    (n = 2 → Dead p q n l s (wrongV x 6 x.i)) ∧ (n ≠ 2 → Idle p q n l s (goR x (x.i + 1))) := by
  have hbd := h.bd
  have hs := step_lf0 hok
  rw [← hb] at hs
  have h3 := run_step (p := p) (q := q) (n := n) (l := l) (s := s) x.i
  rw [h.run] at h3
  refine ⟨fun hn => ?_, fun hn => ?_⟩
  · rw [if_pos hn] at hs
    unfold stepM at h3
    rw [if_neg (by simp), hs, if_pos (by simp)] at h3
    exact dead_at h.kd h.len (by omega) hi (by rw [h3]) (by rw [h3]) (by decide)
  · rw [if_neg hn] at hs
    unfold stepM takeM at h3
    rw [if_neg (by simp), hs, if_neg (by simp)] at h3
    simp only [] at h3
    unfold ev0 at h3
    rw [take_nothing rfl, if_pos rfl] at h3
    refine ⟨h.kd, h.len, by simp only [goR]; omega, h.rc, h.bg, by simp only [goR]; omega, ?_⟩
    rw [show (goR x (x.i + 1)).i = x.i + 1 from rfl, h3]
    rfl
/-- An empty line that begins with a carriage return. -/
theorem Idle.cr (h : Idle p q n l s x) (hok : okB p q n = true) (hi : x.i < s.size) (hb : bytN s x.i = 13) :
    (n = 1 → Dead p q n l s (wrongV x 6 x.i)) ∧ (n ≠ 1 → (isB s (x.i + 1) 10 = true → Idle p q n l s (goR x (x.i + 2))) ∧ (isB s (x.i + 1) 10 = false → Dead p q n l s (wrongV x 6 (x.i + 1)))) := by
  have hbd := h.bd
  have hs := step_cr0 hok
  rw [← hb] at hs
  have h3 := run_step (p := p) (q := q) (n := n) (l := l) (s := s) x.i
  rw [h.run] at h3
  refine ⟨fun hn => ?_, fun hn => ?_⟩
  · rw [if_pos hn] at hs
    unfold stepM at h3
    rw [if_neg (by simp), hs, if_pos (by simp)] at h3
    exact dead_at h.kd h.len (by omega) hi (by rw [h3]) (by rw [h3]) (by decide)
  · rw [if_neg hn] at hs
    unfold stepM takeM at h3
    rw [if_neg (by simp), hs, if_neg (by simp)] at h3
    simp only [] at h3
    unfold ev0 at h3
    rw [take_nothing rfl, if_pos rfl] at h3
    obtain ⟨b1, b2⟩ := behind_cr (x := x) (e := ev0) h3 rfl (.inr rfl) hi h.kd h.len (by omega) rfl (fun e => by simp at e) (fun _ => rfl)
    refine ⟨fun h10 => ?_, b2⟩
    have hr2 := b1 h10
    unfold takeM at hr2
    unfold ev0 at hr2
    rw [take_nothing rfl] at hr2
    simp only [if_true] at hr2
    have hi1 := ((isB_is _ _ _).1 h10).1
    refine ⟨h.kd, h.len, by simp only [goR]; omega, h.rc, h.bg, by simp only [goR]; omega, ?_⟩
    rw [show (goR x (x.i + 2)).i = x.i + 2 from rfl, hr2]
    rfl
/-- Nothing is left. -/
theorem Idle.done (h : Idle p q n l s x) (hi : x.i = s.size) : Done p q n l s x := by
  have hbd := h.bd
  have hf : finM p q n l s = ⟨0, ⟨⟨#[]⟩, [], x.bg, x.rs.length, headN x, 0⟩, outs x, (0, 0)⟩ := by
    unfold finM
    rw [← hi, h.run]
    unfold endM takeM
    rw [if_neg (by simp), show closeV 0 = ⟨ev0, 0, 0⟩ from rfl, if_neg (by simp)]
    simp only []
    unfold ev0
    rw [take_nothing rfl, if_pos rfl]
    rfl
  exact ⟨h.kd, h.len, by rw [hf], by rw [hf], by omega⟩
/-- At the very beginning. -/
theorem Idle.first (hrs : 0 ≤ l.rs) : Idle p q n l s ⟨0, 0, [], [], [], 0, 0⟩ := ⟨rfl, rfl, Nat.zero_le _, rfl, hrs, ⟨Nat.zero_le _, Nat.zero_le _⟩, rfl⟩
end

end Go.Proofs.YtajedohgcepkiaaDoor
