/-
  What records a text has within limits, plain.
-/
import Derived.Test.YtdjlbbemgahohaaRows
import Derived.Test.YtdjlbbemgahohaaLmw
namespace Go.Proofs.Ytdjlbbemgahohaa
open Go.RowKit

/-- What holds ahead of each byte. -/
structure LInv (l : Lim) (x : MS) : Prop where
  st0 : x.mr.st = 0
  fd : (x.mr.fd.size : Int) ≤ l.fs
  rcs : ∀ u ∈ x.mr.rc, (u.size : Int) ≤ l.fs
  ct : x.mr.ct = (recs x).length
  bg : (x.mr.bg : Int) ≤ l.rs
  bgc : x.mr.ct + (if x.st = 0 ∨ x.st = 6 then 0 else 1) ≤ x.mr.bg
  z : x.st = 0 ∨ x.st = 6 → x.mr.rc = [] ∧ x.mr.fd.size = 0
  five : x.st = 5 → 0 < x.mr.rc.length ∧ (x.mr.rc.length : Int) ≤ l.fl ∧ (must l x.mr = true → x.mr.rc.length = x.mr.wd) ∧ x.mr.fd.size = 0
  oth : x.st ≠ 0 → x.st ≠ 5 → x.st ≠ 6 → (x.mr.rc.length : Int) < l.fl ∧ (must l x.mr = true → x.mr.rc.length < x.mr.wd)
  outs : ∀ R ∈ recs x, 0 < R.length ∧ (R.length : Int) ≤ l.fl ∧ ∀ u ∈ R, (u.size : Int) ≤ l.fs
  wd : 0 < (recs x).length → 0 < x.mr.wd ∧ ∃ R, (recs x)[0]? = some R ∧ R.length = x.mr.wd
  uni : l.un = true → ∀ R ∈ recs x, R.length = x.mr.wd

section
variable {l : Lim} {x : MS}
theorem LInv.ft (h : LInv l x) (f : Nat × Nat) : LInv l ⟨x.st, x.mr, x.out, f⟩ := ⟨h.st0, h.fd, h.rcs, h.ct, h.bg, h.bgc, h.z, h.five, h.oth, h.outs, h.wd, h.uni⟩
theorem takeM_of {e : Ev} {to_ i : Nat} {m' : Mkr} {r : Option (List ByteArray)} (h : takeV l x.mr e = (m', r)) (h0 : m'.st = 0) : takeM l x e to_ i = ⟨to_, m', outW x.out r i, (0, 0)⟩ := by
  unfold takeM
  rw [h, if_pos h0]
theorem takeM_no {e : Ev} {to_ i : Nat} (h : (takeV l x.mr e).1.st ≠ 0) : takeM l x e to_ i = ⟨x.st, x.mr, x.out, ((takeV l x.mr e).1.st, i)⟩ := by
  unfold takeM
  rw [if_neg h]
theorem LInv.err (h : LInv l x) {e : Ev} {to_ i : Nat} (he : (takeV l x.mr e).1.st ≠ 0) : LInv l (takeM l x e to_ i) := by
  rw [takeM_no he]
  exact h.ft _
/-- Nothing but the state turns. -/
theorem LInv.stay (h : LInv l x) {to_ i : Nat} {b : Nat} (hto : ((x.st = 0 ∨ x.st = 6) ∧ (to_ = 0 ∨ to_ = 6)) ∨ (x.st ≠ 0 ∧ x.st ≠ 5 ∧ x.st ≠ 6 ∧ to_ ≠ 0 ∧ to_ ≠ 5 ∧ to_ ≠ 6)) : LInv l (takeM l x ⟨false, false, false, false, false, b⟩ to_ i) := by
  rw [takeM_of (take_nothing h.st0) h.st0]
  have hb := h.bgc
  refine ⟨h.st0, h.fd, h.rcs, h.ct, h.bg, ?_, fun c => ?_, fun c => ?_, fun c1 c2 c3 => ?_, h.outs, h.wd, h.uni⟩
  · simp only [] at hb ⊢
    split
    · omega
    · rcases hto with c | c
      · omega
      · rw [if_neg (by omega)] at hb; omega
  · rcases hto with c' | c'
    · exact h.z c'.1
    · simp only [] at c; omega
  · simp only [] at c; omega
  · rcases hto with c' | c'
    · simp only [] at c1 c3; omega
    · exact h.oth c'.1 c'.2.1 c'.2.2.1
/-- A byte is the field's. -/
theorem LInv.add (h : LInv l x) {to_ i b : Nat} (hx : x.st ≠ 0 ∧ x.st ≠ 5 ∧ x.st ≠ 6) (hto : to_ ≠ 0 ∧ to_ ≠ 5 ∧ to_ ≠ 6) : LInv l (takeM l x ⟨false, true, false, false, false, b⟩ to_ i) := by
  by_cases hf : l.fs ≤ (x.mr.fd.size : Int)
  · exact h.err (by rw [take_full h.st0 hf]; decide)
  · rw [takeM_of (take_add h.st0 (by omega)) rfl]
    have hb := h.bgc
    rw [if_neg (by omega)] at hb
    refine ⟨rfl, by simp only []; rw [one_size]; omega, h.rcs, h.ct, h.bg, by simp only []; rw [if_neg (by omega)]; omega, fun c => ?_, fun c => ?_, fun _ _ _ => h.oth hx.1 hx.2.1 hx.2.2, h.outs, h.wd, h.uni⟩
    · simp only [] at c; omega
    · simp only [] at c; omega
/-- A record begins, with a byte or a quote. -/
theorem LInv.begins (h : LInv l x) {to_ i b : Nat} {ad : Bool} (hfs : 1 ≤ l.fs) (hfl : 1 ≤ l.fl) (hx : x.st = 0) (hto : to_ ≠ 0 ∧ to_ ≠ 5 ∧ to_ ≠ 6) : LInv l (takeM l x ⟨true, ad, false, false, false, b⟩ to_ i) := by
  obtain ⟨z1, z2⟩ := h.z (.inl hx)
  have hb := h.bgc
  rw [if_pos (.inl hx)] at hb
  by_cases hr : l.rs ≤ (x.mr.bg : Int)
  · exact h.err (by rw [take_begin_no h.st0 hr]; decide)
  · have hm : must l x.mr = true → x.mr.rc.length < x.mr.wd := fun hm => by
      unfold must at hm
      simp at hm
      have := h.wd (by rw [← h.ct]; exact hm.2)
      rw [z1]
      exact this.1
    cases ad
    · rw [takeM_of (take_begin h.st0 (by omega)) rfl]
      refine ⟨rfl, h.fd, h.rcs, h.ct, by simp only []; omega, by simp only []; rw [if_neg (by omega)]; omega, fun c => ?_, fun c => ?_, fun _ _ _ => ⟨by simp only [z1]; simp; omega, hm⟩, h.outs, h.wd, h.uni⟩
      · simp only [] at c; omega
      · simp only [] at c; omega
    · rw [takeM_of (take_begin_add h.st0 (by omega) (by omega)) rfl]
      refine ⟨rfl, by simp only []; rw [one_size]; omega, h.rcs, h.ct, by simp only []; omega, by simp only []; rw [if_neg (by omega)]; omega, fun c => ?_, fun c => ?_, fun _ _ _ => ⟨by simp only [z1]; simp; omega, hm⟩, h.outs, h.wd, h.uni⟩
      · simp only [] at c; omega
      · simp only [] at c; omega
theorem mem_snoc {R : List ByteArray} {f : ByteArray} {P : ByteArray → Prop} (h : ∀ u ∈ R, P u) (hf : P f) : ∀ u ∈ R ++ [f], P u := fun u hu => by
  rcases List.mem_append.1 hu with hu | hu
  · exact h u hu
  · simp at hu; subst hu; exact hf
/-- A field is whole, and another one comes. -/
theorem LInv.field (h : LInv l x) {i b : Nat} {be : Bool} (hfl : 1 ≤ l.fl) (hx : x.st ≠ 5 ∧ x.st ≠ 6) (hbe : be = decide (x.st = 0)) : LInv l (takeM l x ⟨be, false, true, false, false, b⟩ 1 i) := by
  have hb := h.bgc
  have hz : (ByteArray.mk #[]).size = 0 := rfl
  have hfs0 : 0 ≤ l.fs := by have := h.fd; omega
  have hlt : (x.mr.rc.length : Int) < l.fl ∧ (must l x.mr = true → x.mr.rc.length < x.mr.wd) := by
    by_cases e : x.st = 0
    · obtain ⟨z1, z2⟩ := h.z (.inl e)
      refine ⟨by rw [z1]; simp; omega, fun hm => ?_⟩
      unfold must at hm
      simp at hm
      have := h.wd (by rw [← h.ct]; exact hm.2)
      rw [z1]
      exact this.1
    · exact h.oth e hx.1 hx.2
  by_cases hr : be = true ∧ l.rs ≤ (x.mr.bg : Int)
  · obtain ⟨rfl, hr⟩ := hr
    exact h.err (by rw [take_begin_no h.st0 hr]; decide)
  · by_cases hE : fldE l x.mr = 0
    · have hE' := hE
      unfold fldE fieldV at hE'
      simp only [] at hE'
      have e1 : ¬ l.fl ≤ (x.mr.rc.length : Int) + 1 := fun c => by rw [if_pos c] at hE'; cases hE'
      rw [if_neg e1] at hE'
      have e2 : ¬ (must l x.mr = true ∧ x.mr.rc.length + 1 = x.mr.wd) := fun c => by rw [if_pos c] at hE'; cases hE'
      have key : ∀ bg' : Nat, (bg' : Int) ≤ l.rs → x.mr.ct + 1 ≤ bg' → LInv l ⟨1, ⟨⟨#[]⟩, x.mr.rc ++ [x.mr.fd], bg', x.mr.ct, x.mr.wd, 0⟩, outW x.out none i, (0, 0)⟩ := by
        intro bg' h1 h2
        refine ⟨rfl, by simp only []; omega, mem_snoc h.rcs h.fd, h.ct, h1, by simp only []; rw [if_neg (by omega)]; omega, fun c => ?_, fun c => ?_, fun _ _ _ => ⟨?_, fun hm => ?_⟩, h.outs, h.wd, h.uni⟩
        · simp only [] at c; omega
        · simp only [] at c; omega
        · simp only [List.length_append, List.length_singleton]; omega
        · have hm' : must l x.mr = true := hm
          have a1 := hlt.2 hm'
          have a2 : x.mr.rc.length + 1 ≠ x.mr.wd := fun c => e2 ⟨hm', c⟩
          simp only [List.length_append, List.length_singleton]
          omega
      cases be
      · have hx0 : x.st ≠ 0 := fun e => by rw [decide_eq_true e] at hbe; cases hbe
        rw [takeM_of (take_field h.st0 hE) rfl]
        rw [if_neg (by omega)] at hb
        exact key _ h.bg hb
      · have hr' : ¬ l.rs ≤ (x.mr.bg : Int) := fun c => hr ⟨rfl, c⟩
        rw [takeM_of (take_begin_field h.st0 (by omega) hE) rfl]
        refine key _ (by omega) ?_
        have : x.mr.ct ≤ x.mr.bg := by omega
        omega
    · cases be
      · exact h.err (by rw [take_field_no h.st0 hE]; exact hE)
      · have hr' : ¬ l.rs ≤ (x.mr.bg : Int) := fun c => hr ⟨rfl, c⟩
        exact h.err (by rw [take_begin_field_no h.st0 (by omega) hE]; exact hE)
/-- A record comes out. -/
theorem LInv.hand (h : LInv l x) {i : Nat} {R : List ByteArray} {fd : ByteArray} (hR : 0 < R.length ∧ (R.length : Int) ≤ l.fl ∧ ∀ u ∈ R, (u.size : Int) ≤ l.fs) (hm : must l x.mr = true → R.length = x.mr.wd) (hfd : fd.size = 0) (hb : x.mr.ct + 1 ≤ x.mr.bg) :
    LInv l ⟨0, ⟨fd, [], x.mr.bg, x.mr.ct + 1, if x.mr.ct = 0 then R.length else x.mr.wd, 0⟩, outW x.out (some R) i, (0, 0)⟩ := by
  have ho : recs ⟨0, ⟨fd, [], x.mr.bg, x.mr.ct + 1, if x.mr.ct = 0 then R.length else x.mr.wd, 0⟩, outW x.out (some R) i, (0, 0)⟩ = recs x ++ [R] := outW_map x.out (some R) i
  have hfs0 : 0 ≤ l.fs := by have := h.fd; omega
  refine ⟨rfl, by simp only []; omega, fun u hu => by simp at hu, by rw [ho, List.length_append, List.length_singleton, ← h.ct], h.bg, by simp only []; simp; omega, fun _ => ⟨rfl, hfd⟩, fun c => ?_, fun c => ?_, ?_, ?_, ?_⟩
  · simp only [] at c; omega
  · exact absurd rfl c
  · rw [ho]
    intro S hS
    rcases List.mem_append.1 hS with hS | hS
    · exact h.outs S hS
    · simp at hS; subst hS; exact hR
  · rw [ho]
    intro _
    simp only []
    by_cases hc : x.mr.ct = 0
    · rw [if_pos hc]
      have hn : recs x = [] := List.length_eq_zero_iff.1 (by rw [← h.ct]; exact hc)
      exact ⟨hR.1, R, by rw [hn]; rfl, rfl⟩
    · rw [if_neg hc]
      obtain ⟨a, S, b, c⟩ := h.wd (by rw [← h.ct]; omega)
      refine ⟨a, S, ?_, c⟩
      rw [List.getElem?_append_left (by rw [← h.ct]; omega)]
      exact b
  · rw [ho]
    intro hu S hS
    simp only []
    by_cases hc : x.mr.ct = 0
    · rw [if_pos hc]
      have hn : recs x = [] := List.length_eq_zero_iff.1 (by rw [← h.ct]; exact hc)
      rw [hn] at hS
      simp at hS
      subst hS
      rfl
    · rw [if_neg hc]
      rcases List.mem_append.1 hS with hS | hS
      · exact h.uni hu S hS
      · simp at hS
        subst hS
        exact hm (by unfold must; rw [hu]; simp; omega)
/-- The last field of a record. -/
theorem LInv.line (h : LInv l x) {to_ i b : Nat} {re : Bool} (hx : x.st ≠ 0 ∧ x.st ≠ 5 ∧ x.st ≠ 6) (hto : (re = true ∧ to_ = 0) ∨ (re = false ∧ to_ = 5)) : LInv l (takeM l x ⟨false, false, false, true, re, b⟩ to_ i) := by
  have hb := h.bgc
  rw [if_neg (by omega)] at hb
  have hz : (ByteArray.mk #[]).size = 0 := rfl
  have hfs0 : 0 ≤ l.fs := by have := h.fd; omega
  obtain ⟨o1, o2⟩ := h.oth hx.1 hx.2.1 hx.2.2
  by_cases hE : linE l x.mr = 0
  · have hE' := hE
    unfold linE lineV at hE'
    simp only [] at hE'
    have e2 : must l x.mr = true → x.mr.rc.length + 1 = x.mr.wd := fun c => by
      refine Classical.byContradiction fun hn => ?_
      rw [if_pos ⟨c, hn⟩] at hE'
      cases hE'
    have hlen : (x.mr.rc ++ [x.mr.fd]).length = x.mr.rc.length + 1 := by simp
    rcases hto with ⟨rfl, rfl⟩ | ⟨rfl, rfl⟩
    · rw [takeM_of (take_last h.st0 hE) rfl, ← hlen]
      exact h.hand ⟨by rw [hlen]; omega, by rw [hlen]; omega, mem_snoc h.rcs h.fd⟩ (fun hm => by rw [hlen]; exact e2 hm) hz hb
    · rw [takeM_of (take_line h.st0 hE) rfl]
      refine ⟨rfl, by simp only []; omega, mem_snoc h.rcs h.fd, h.ct, h.bg, by simp only []; rw [if_neg (by omega)]; omega, fun c => ?_, fun _ => ⟨by simp only []; rw [hlen]; omega, by simp only []; rw [hlen]; omega, fun hm => by simp only []; rw [hlen]; exact e2 hm, rfl⟩, fun _ c _ => absurd rfl c, h.outs, h.wd, h.uni⟩
      simp only [] at c; omega
  · exact h.err (by rw [take_line_no h.st0 hE]; exact hE)
/-- The second half of an end of line behind a record. -/
theorem LInv.record (h : LInv l x) {i b : Nat} (hx : x.st = 5) : LInv l (takeM l x ⟨false, false, false, false, true, b⟩ 0 i) := by
  have hb := h.bgc
  rw [if_neg (by omega)] at hb
  obtain ⟨f1, f2, f3, f4⟩ := h.five hx
  rw [takeM_of (take_record h.st0) rfl]
  exact h.hand ⟨f1, f2, h.rcs⟩ f3 f4 hb

theorem LInv.step {p q : Nat} {n : Int} {b i : Nat} (h : LInv l x) (hfs : 1 ≤ l.fs) (hfl : 1 ≤ l.fl) : LInv l (stepM p q n l x b i) := by
  unfold stepM
  by_cases c0 : x.ft.1 ≠ 0
  · rw [if_pos c0]; exact h
  · rw [if_neg c0]
    by_cases c1 : (stepV p q n x.st b).er ≠ 0
    · rw [if_pos c1]; exact h.ft _
    · rw [if_neg c1]
      unfold stepV at c1 ⊢
      by_cases s3 : x.st = 3
      · rw [if_pos s3]
        unfold inV
        split
        · exact h.stay (.inr (by first | omega | (dsimp only; omega)))
        · exact h.add (by first | omega | (dsimp only; omega)) (by first | omega | (dsimp only; omega))
      · rw [if_neg s3] at c1 ⊢
        by_cases s5 : x.st = 5
        · rw [if_pos s5] at c1 ⊢
          unfold behV at c1 ⊢
          by_cases hb : b = 10
          · rw [if_pos hb]; exact h.record s5
          · rw [if_neg hb] at c1; exact absurd (by decide) c1
        · rw [if_neg s5] at c1 ⊢
          by_cases s6 : x.st = 6
          · rw [if_pos s6] at c1 ⊢
            unfold behV at c1 ⊢
            by_cases hb : b = 10
            · rw [if_pos hb]; exact h.stay (.inl (by first | omega | (dsimp only; omega)))
            · rw [if_neg hb] at c1; exact absurd (by decide) c1
          · rw [if_neg s6] at c1 ⊢
            unfold outV at c1 ⊢
            have hend : ∀ {c : Nat}, ¬ (endV n x.st c).er ≠ 0 → LInv l (takeM l x (endV n x.st c).ev (endV n x.st c).to_ i) := by
              intro c hc
              unfold endV at hc ⊢
              by_cases m1 : mayV n c = false
              · rw [if_pos m1] at hc; exact absurd (by decide) hc
              · rw [if_neg m1]
                split
                · split
                  · exact h.stay (.inl (by first | omega | (dsimp only; omega)))
                  · exact h.line (by first | omega | (dsimp only; omega)) (.inr ⟨rfl, rfl⟩)
                · split
                  · exact h.stay (.inl (by first | omega | (dsimp only; omega)))
                  · exact h.line (by first | omega | (dsimp only; omega)) (.inl ⟨rfl, rfl⟩)
            by_cases hq : b = q
            · rw [if_pos hq] at c1 ⊢
              unfold quoV at c1 ⊢
              by_cases s2 : x.st = 2
              · rw [if_pos s2] at c1; exact absurd (by decide) c1
              · rw [if_neg s2] at c1 ⊢
                by_cases s4 : x.st = 4
                · rw [if_pos s4]; exact h.add (by first | omega | (dsimp only; omega)) (by first | omega | (dsimp only; omega))
                · rw [if_neg s4]
                  by_cases s0 : x.st = 0
                  · rw [decide_eq_true s0]; exact h.begins hfs hfl s0 (by first | omega | (dsimp only; omega))
                  · rw [decide_eq_false s0]; exact h.stay (.inr (by first | omega | (dsimp only; omega)))
            · rw [if_neg hq] at c1 ⊢
              by_cases hp : b = p
              · rw [if_pos hp]; exact h.field hfl (by first | omega | (dsimp only; omega)) rfl
              · rw [if_neg hp] at c1 ⊢
                by_cases h13 : b = 13
                · rw [if_pos h13] at c1 ⊢; exact hend c1
                · rw [if_neg h13] at c1 ⊢
                  by_cases h10 : b = 10
                  · rw [if_pos h10] at c1 ⊢; exact hend c1
                  · rw [if_neg h10] at c1 ⊢
                    by_cases s4 : x.st = 4
                    · rw [if_pos s4] at c1; exact absurd (by decide) c1
                    · rw [if_neg s4]
                      by_cases s0 : x.st = 0
                      · rw [decide_eq_true s0]; exact h.begins hfs hfl s0 (by first | omega | (dsimp only; omega))
                      · rw [decide_eq_false s0]; exact h.add (by first | omega | (dsimp only; omega)) (by first | omega | (dsimp only; omega))
theorem LInv.first (hfs : 0 ≤ l.fs) (hrs : 0 ≤ l.rs) : LInv l ms0 :=
  ⟨rfl, hfs, fun u hu => (by cases hu), rfl, hrs, (by decide), fun _ => ⟨rfl, rfl⟩, fun c => (by cases c), fun c => absurd rfl c, fun R hR => (by cases hR), fun c => (by cases c), fun _ R hR => (by cases hR)⟩
theorem LInv.runs {p q : Nat} {n : Int} {t : ByteArray} (hfs : 1 ≤ l.fs) (hfl : 1 ≤ l.fl) (hrs : 0 ≤ l.rs) : ∀ k, LInv l (runU p q n l t k)
  | 0 => LInv.first (by omega) hrs
  | k + 1 => by
    have h := LInv.runs (p := p) (q := q) (n := n) (t := t) hfs hfl hrs k
    show LInv l (stepU p q n l t (runU p q n l t k) k)
    unfold stepU
    split
    · exact h
    · split
      · exact h.ft _
      · exact h.step hfs hfl
theorem LInv.fin {p q : Nat} {n : Int} {t : ByteArray} (hfs : 1 ≤ l.fs) (hfl : 1 ≤ l.fl) (hrs : 0 ≤ l.rs) : LInv l (finU p q n l t) := by
  have h := LInv.runs (p := p) (q := q) (n := n) (t := t) hfs hfl hrs t.size
  have hst := runU_st (p := p) (q := q) (n := n) (l := l) (t := t) t.size
  unfold finU endU endM
  generalize runU p q n l t t.size = x at h hst ⊢
  split
  · exact h
  · split
    · exact h.ft _
    · split
      · exact h.ft _
      · rename_i c1
        unfold closeV at c1 ⊢
        by_cases s1 : x.st = 1 ∨ x.st = 2 ∨ x.st = 4
        · rw [if_pos s1]; exact h.line (by first | omega | (dsimp only; omega)) (.inl ⟨rfl, rfl⟩)
        · rw [if_neg s1] at c1 ⊢
          by_cases s3 : x.st = 3
          · rw [if_pos s3] at c1; exact absurd (by decide) c1
          · rw [if_neg s3] at c1 ⊢
            by_cases s5 : x.st = 5 ∨ x.st = 6
            · rw [if_pos s5] at c1; exact absurd (by decide) c1
            · rw [if_neg s5]; exact h.stay (.inl (by first | omega | (dsimp only; omega)))
/-- All that the records of a text are within limits. -/
theorem limits_plain {p q : Nat} {n : Int} {t : ByteArray} (hf : fitsB l.fs l.fl l.rs = true) : ((recs (finU p q n l t)).length : Int) ≤ l.rs ∧ ∀ R ∈ recs (finU p q n l t), 0 < R.length ∧ (R.length : Int) ≤ l.fl ∧ (∀ u ∈ R, (u.size : Int) ≤ l.fs) ∧ (l.un = true → ∀ S, (recs (finU p q n l t))[0]? = some S → R.length = S.length) := by
  unfold fitsB at hf
  simp at hf
  have h := LInv.fin (l := l) (p := p) (q := q) (n := n) (t := t) (by omega) (by omega) (by omega)
  refine ⟨by have := h.ct; have := h.bgc; have := h.bg; split at * <;> omega, fun R hR => ?_⟩
  obtain ⟨a, b, c⟩ := h.outs R hR
  refine ⟨a, b, c, fun hu S hS => ?_⟩
  rw [h.uni hu R hR, h.uni hu S (List.mem_of_getElem? hS)]
end

end Go.Proofs.Ytdjlbbemgahohaa
