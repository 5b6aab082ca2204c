/-
  A text, plain: a record of fields that mean nothing, laid with Delims between and an end of line behind, is read as it was.
-/
import Derived.Test.YtmaoeeonpedllaaRows
import Derived.Test.YtmaoeeonpedllaaNdM
import Derived.Test.YtmaoeeonpedllaaNdA
namespace Go.Proofs.Ytmaoeeonpedllaa.Nd
open Go.RowKit

/-- What stands behind a record's first field. -/
def tl (x : UInt8) (e : ByteArray) : List ByteArray → ByteArray
  | [] => e
  | f :: r => ⟨#[x]⟩ ++ (f ++ tl x e r)
/-- The first k fields, with Delims between. -/
def jn (x : UInt8) (L : List ByteArray) : Nat → ByteArray
  | 0 => ⟨#[]⟩
  | k + 1 => (if k = 0 then jn x L k else jn x L k ++ ⟨#[x]⟩) ++ L.getD k ⟨#[]⟩
theorem getD_of {L : List ByteArray} {k : Nat} {s : ByteArray} (h : L[k]? = some s) : L.getD k ⟨#[]⟩ = s := by rw [List.getD_eq_getElem?_getD, h]; rfl
theorem jn_size (x : UInt8) (L : List ByteArray) : ∀ k, k ≤ L.length → (jn x L k).size ≤ sumN L k + k
  | 0, _ => Nat.zero_le _
  | k + 1, h => by
    have ih := jn_size x L k (by omega)
    obtain ⟨s, hs⟩ : ∃ s, L[k]? = some s := ⟨_, List.getElem?_eq_getElem (by omega)⟩
    rw [sumN_succ L k s hs]
    unfold jn
    rw [getD_of hs, ByteArray.size_append]
    split
    · omega
    · rw [ByteArray.size_append]
      show _ + 1 + _ ≤ _
      omega
theorem jn_all (x : UInt8) (e f : ByteArray) (r : List ByteArray) : ∀ k, k ≤ r.length → jn x (f :: r) (k + 1) ++ tl x e (r.drop k) = f ++ tl x e r
  | 0, _ => by
    show (⟨#[]⟩ ++ f) ++ tl x e r = _
    rw [none_append]
  | k + 1, h => by
    rw [← jn_all x e f r k (by omega)]
    obtain ⟨s, hs⟩ : ∃ s, r[k]? = some s := ⟨_, List.getElem?_eq_getElem (by omega)⟩
    have hd : r.drop k = s :: r.drop (k + 1) := by
      rw [List.drop_eq_getElem_cons (by omega)]
      congr 1
      have := List.getElem?_eq_getElem (l := r) (i := k) (by omega)
      rw [this] at hs
      injection hs
    have hj : jn x (f :: r) (k + 1 + 1) = (jn x (f :: r) (k + 1) ++ ⟨#[x]⟩) ++ s := by
      show (if k + 1 = 0 then _ else _) ++ (f :: r).getD (k + 1) ⟨#[]⟩ = _
      rw [if_neg (by omega), getD_of (L := f :: r) (k := k + 1) (s := s) (by rw [List.getElem?_cons_succ]; exact hs)]
    rw [hj, hd]
    show _ = jn x (f :: r) (k + 1) ++ (⟨#[x]⟩ ++ (s ++ tl x e (r.drop (k + 1))))
    rw [append_assoc, append_assoc]

section
variable {p q : Nat} {n : Int} {t : ByteArray}

/-- None of its bytes means something. -/
def Bare (p q : Nat) (f : ByteArray) : Prop := ∀ j, j < f.size → bytN f j ≠ p ∧ bytN f j ≠ q ∧ bytN f j ≠ 13 ∧ bytN f j ≠ 10

theorem extract_snoc (f : ByteArray) (j : Nat) (h : j < f.size) : f.extract 0 (j + 1) = f.extract 0 j ++ ⟨#[UInt8.ofNat (bytN f j)]⟩ := by
  rw [← extract_one f j h]
  apply byt_inj
  · rw [ByteArray.size_append, ByteArray.size_extract, ByteArray.size_extract, ByteArray.size_extract]; omega
  · intro i hi
    rw [ByteArray.size_extract] at hi
    rw [byt_append, ByteArray.size_extract, byt_extract, byt_extract, byt_extract]
    rw [if_pos (by omega)]
    by_cases c : i < min j f.size - 0
    · rw [if_pos c, if_pos (by omega)]
    · rw [if_neg c, if_pos (by omega)]
      congr 1
      omega
theorem extract_none (f : ByteArray) : f.extract 0 0 = ⟨#[]⟩ := size_none _ (by rw [ByteArray.size_extract]; omega)
theorem extract_all (f : ByteArray) : f.extract 0 f.size = f := by
  apply byt_inj
  · rw [ByteArray.size_extract]; omega
  · intro i hi
    rw [ByteArray.size_extract] at hi
    rw [byt_extract, if_pos (by omega), Nat.zero_add]

theorem field_run {f pre post : ByteArray} {st bg : Nat} {rc : List ByteArray} (ht : t = pre ++ (f ++ post)) (hst : st = 0 ∨ st = 1) (hb : Bare p q f) (hf : f.size ≤ 100000) (hbg : bg ≤ 1)
    (h0 : runM p q n wLim t pre.size = ⟨st, ⟨⟨#[]⟩, rc, bg, 0, 0, 0⟩, [], (0, 0)⟩) :
    ∀ j, j ≤ f.size → runM p q n wLim t (pre.size + j) = ⟨if j = 0 then st else 2, ⟨f.extract 0 j, rc, if st = 0 ∧ j ≠ 0 then bg + 1 else bg, 0, 0, 0⟩, [], (0, 0)⟩
  | 0, _ => by rw [Nat.add_zero, h0, extract_none, if_pos rfl, if_neg (by omega)]
  | j + 1, hj => by
    have ih := field_run ht hst hb hf hbg h0 j (by omega)
    have hbt : bytN t (pre.size + j) = bytN f j := by
      unfold bytN
      rw [ht, byt_append, if_neg (by omega), show pre.size + j - pre.size = j by omega, byt_append, if_pos (by omega)]
    obtain ⟨b1, b2, b3, b4⟩ := hb j (by omega)
    have hsz : (f.extract 0 j).size = j := by rw [ByteArray.size_extract]; omega
    show stepM p q n wLim (runM p q n wLim t (pre.size + j)) (bytN t (pre.size + j)) (pre.size + j) = _
    rw [ih, hbt, extract_snoc f j (by omega)]
    generalize hfe : f.extract 0 j = g at hsz ⊢
    rw [if_neg (by omega : ¬ j + 1 = 0)]
    have hs : stepV p q n (if j = 0 then st else 2) (bytN f j) = ⟨⟨decide ((if j = 0 then st else 2) = 0), true, false, false, false, bytN f j⟩, 2, 0⟩ := step_plain (by split <;> omega) b1 b2 b4 b3
    unfold stepM takeM
    rw [if_neg (by simp)]
    simp only []
    rw [hs, if_neg (by simp)]
    simp only []
    by_cases c : (if j = 0 then st else 2) = 0
    · have cj : j = 0 ∧ st = 0 := by
        by_cases e : j = 0
        · rw [if_pos e] at c; exact ⟨e, c⟩
        · rw [if_neg e] at c; omega
      rw [decide_eq_true c, if_neg (show ¬ (st = 0 ∧ j ≠ 0) by omega), if_pos (show st = 0 ∧ j + 1 ≠ 0 by omega)]
      rw [take_begin_add (l := wLim) (m := ⟨g, rc, bg, 0, 0, 0⟩) rfl (by show (bg : Int) < 2147483648; omega) (by show (g.size : Int) < 2147483648; omega)]
      rfl
    · have cj : ¬ (j = 0 ∧ st = 0) := fun e => c (by rw [if_pos e.1]; exact e.2)
      rw [decide_eq_false c]
      have e : (if st = 0 ∧ j ≠ 0 then bg + 1 else bg) = (if st = 0 ∧ j + 1 ≠ 0 then bg + 1 else bg) := by
        by_cases e : st = 0
        · rw [if_pos (by omega), if_pos (by omega)]
        · rw [if_neg (by omega), if_neg (by omega)]
      rw [e]
      rw [take_add (l := wLim) (m := ⟨g, rc, if st = 0 ∧ j + 1 ≠ 0 then bg + 1 else bg, 0, 0, 0⟩) rfl (by show (g.size : Int) < 2147483648; omega)]
      rfl

theorem fldE_wide (m : Mkr) (h : m.rc.length ≤ 100000) : fldE wLim m = 0 := by
  unfold fldE fieldV wLim
  simp only []
  rw [if_neg (by omega), if_neg (by simp [must])]
theorem linE_wide (m : Mkr) : linE wLim m = 0 := by
  unfold linE lineV wLim
  simp only []
  rw [if_neg (by simp [must])]

theorem close_zero {x : MS} {i : Nat} (h : x.ft.1 = 0) (hs : x.st = 0) (hm : x.mr.st = 0) : (endM wLim x i).ft.1 = 0 ∧ recs (endM wLim x i) = recs x := by
  obtain ⟨st, mr, out, ft⟩ := x
  simp only [] at h hs hm
  subst hs
  have ht : takeV wLim mr ev0 = (mr, none) := take_nothing hm
  unfold endM takeM
  rw [if_neg (by rw [h]; simp)]
  simp only []
  rw [show closeV 0 = ⟨ev0, 0, 0⟩ from rfl, if_neg (by simp), ht]
  simp only []
  rw [if_pos hm]
  exact ⟨rfl, rfl⟩

theorem run_end {pre fd : ByteArray} {st bg : Nat} {rc : List ByteArray} (hp : 10 ≠ p ∧ 13 ≠ p) (hq : 10 ≠ q ∧ 13 ≠ q) (ht : t = pre ++ endS n)
    (h0 : runM p q n wLim t pre.size = ⟨st, ⟨fd, rc, bg, 0, 0, 0⟩, [], (0, 0)⟩) (hst : st = 1 ∨ st = 2) :
    (finM p q n wLim t).ft.1 = 0 ∧ recs (finM p q n wLim t) = [rc ++ [fd]] := by
  by_cases h2 : n = 2
  · have he : endS n = ⟨#[13, 10]⟩ := by unfold endS; rw [if_pos h2]
    rw [he] at ht
    have hz : t.size = pre.size + 1 + 1 := by rw [ht, ByteArray.size_append]; rfl
    have b0 : bytN t pre.size = 13 := by unfold bytN; rw [ht, byt_append, if_neg (by omega), Nat.sub_self]; rfl
    have b1 : bytN t (pre.size + 1) = 10 := by unfold bytN; rw [ht, byt_append, if_neg (by omega), show pre.size + 1 - pre.size = 1 by omega]; rfl
    have r1 : runM p q n wLim t (pre.size + 1) = ⟨5, ⟨⟨#[]⟩, rc ++ [fd], bg, 0, 0, 0⟩, [], (0, 0)⟩ := by
      show stepM p q n wLim (runM p q n wLim t pre.size) (bytN t pre.size) pre.size = _
      rw [h0, b0]
      have hs : stepV p q n st 13 = ⟨⟨false, false, false, true, false, 0⟩, 5, 0⟩ := by
        unfold stepV
        rw [if_neg (by omega), if_neg (by omega), if_neg (by omega)]
        unfold outV
        rw [if_neg hq.2, if_neg hp.2, if_pos rfl]
        unfold endV mayV
        rw [if_neg (by rw [if_pos rfl, h2]; simp), if_pos rfl, if_neg (by omega)]
      unfold stepM takeM
      rw [if_neg (by simp)]
      simp only []
      rw [hs, if_neg (by simp)]
      simp only []
      rw [take_line (l := wLim) rfl (linE_wide _)]
      rfl
    have r2 : runM p q n wLim t (pre.size + 1 + 1) = ⟨0, ⟨⟨#[]⟩, [], bg, 1, (rc ++ [fd]).length, 0⟩, [(rc ++ [fd], pre.size + 1)], (0, 0)⟩ := by
      show stepM p q n wLim (runM p q n wLim t (pre.size + 1)) (bytN t (pre.size + 1)) (pre.size + 1) = _
      rw [r1, b1]
      have hs : stepV p q n 5 10 = ⟨⟨false, false, false, false, true, 0⟩, 0, 0⟩ := by
        unfold stepV behV
        rfl
      unfold stepM takeM
      rw [if_neg (by simp)]
      simp only []
      rw [hs, if_neg (by simp)]
      simp only []
      rw [take_record (l := wLim) rfl]
      rfl
    have hc := close_zero (x := runM p q n wLim t (pre.size + 1 + 1)) (i := t.size) (by rw [r2]) (by rw [r2]) (by rw [r2])
    unfold finM
    rw [hz] at hc ⊢
    exact ⟨hc.1, by rw [hc.2, r2]; rfl⟩
  · have he : endS n = ⟨#[10]⟩ := by unfold endS; rw [if_neg h2]
    rw [he] at ht
    have hz : t.size = pre.size + 1 := by rw [ht, ByteArray.size_append]; rfl
    have b0 : bytN t pre.size = 10 := by unfold bytN; rw [ht, byt_append, if_neg (by omega), Nat.sub_self]; rfl
    have r1 : runM p q n wLim t (pre.size + 1) = ⟨0, ⟨⟨#[]⟩, [], bg, 1, rc.length + 1, 0⟩, [(rc ++ [fd], pre.size)], (0, 0)⟩ := by
      show stepM p q n wLim (runM p q n wLim t pre.size) (bytN t pre.size) pre.size = _
      rw [h0, b0]
      have hs : stepV p q n st 10 = ⟨⟨false, false, false, true, true, 0⟩, 0, 0⟩ := by
        unfold stepV
        rw [if_neg (by omega), if_neg (by omega), if_neg (by omega)]
        unfold outV
        rw [if_neg hq.1, if_neg hp.1, if_neg (by omega), if_pos rfl]
        unfold endV mayV
        rw [if_neg (by rw [if_neg (by omega)]; simp [h2]), if_neg (by omega), if_neg (by omega)]
      unfold stepM takeM
      rw [if_neg (by simp)]
      simp only []
      rw [hs, if_neg (by simp)]
      simp only []
      rw [take_last (l := wLim) rfl (linE_wide _)]
      rfl
    have hc := close_zero (x := runM p q n wLim t (pre.size + 1)) (i := t.size) (by rw [r1]) (by rw [r1]) (by rw [r1])
    unfold finM
    rw [hz] at hc ⊢
    exact ⟨hc.1, by rw [hc.2, r1]; rfl⟩

theorem run_tail {x : UInt8} (hp : 10 ≠ p ∧ 13 ≠ p) (hq : 10 ≠ q ∧ 13 ≠ q) (hpq : p ≠ q) (hx : x.toNat = p) (hn : n = 1 ∨ n = 2 ∨ n = 3) : ∀ (r : List ByteArray) (pre fd : ByteArray) (st bg : Nat) (rc : List ByteArray), t = pre ++ tl x (endS n) r →
    runM p q n wLim t pre.size = ⟨st, ⟨fd, rc, bg, 0, 0, 0⟩, [], (0, 0)⟩ → (st = 1 ∨ st = 2 ∨ (st = 0 ∧ r ≠ [] ∧ bg = 0)) → (∀ f ∈ r, Bare p q f ∧ f.size ≤ 100000) → rc.length + r.length ≤ 100000 → bg ≤ 1 →
    (finM p q n wLim t).ft.1 = 0 ∧ recs (finM p q n wLim t) = [rc ++ fd :: r]
  | [], pre, fd, st, bg, rc, ht, h0, hst, _, _, _ => run_end hp hq ht h0 (by rcases hst with h | h | h; exact .inl h; exact .inr h; exact absurd rfl h.2.1)
  | f :: r, pre, fd, st, bg, rc, ht, h0, hst, hr, hl, hbg => by
    have ht' : t = pre ++ (⟨#[x]⟩ ++ (f ++ tl x (endS n) r)) := ht
    have b0 : bytN t pre.size = p := by
      unfold bytN
      rw [ht', byt_append, if_neg (by omega), Nat.sub_self, byt_append, if_pos (by show 0 < 1; omega), byt_one, hx]
      rfl
    obtain ⟨hf1, hf2⟩ := hr f (by simp)
    obtain ⟨bg', hbg', r1⟩ : ∃ bg', bg' ≤ 1 ∧ runM p q n wLim t (pre.size + 1) = ⟨1, ⟨⟨#[]⟩, rc ++ [fd], bg', 0, 0, 0⟩, [], (0, 0)⟩ := by
      have hs : stepV p q n st p = ⟨⟨decide (st = 0), false, true, false, false, 0⟩, 1, 0⟩ := by
        unfold stepV
        rw [if_neg (by omega), if_neg (by omega), if_neg (by omega)]
        unfold outV
        rw [if_neg hpq, if_pos rfl]
      have hrl : rc.length ≤ 100000 := by simp at hl; omega
      rw [run_step, h0, b0]
      unfold stepM takeM
      rw [if_neg (by simp)]
      simp only []
      rw [hs, if_neg (by simp)]
      simp only []
      by_cases c : st = 0
      · have hb0 : bg = 0 := by rcases hst with h | h | h; omega; omega; exact h.2.2
        refine ⟨1, Nat.le_refl _, ?_⟩
        rw [decide_eq_true c, take_begin_field (l := wLim) (m := ⟨fd, rc, bg, 0, 0, 0⟩) rfl (by show (bg : Int) < 2147483648; omega) (fldE_wide _ hrl), hb0]
        rfl
      · refine ⟨bg, hbg, ?_⟩
        rw [decide_eq_false c, take_field (l := wLim) (m := ⟨fd, rc, bg, 0, 0, 0⟩) rfl (fldE_wide _ hrl)]
        rfl
    have hps : (pre ++ ⟨#[x]⟩).size = pre.size + 1 := by rw [ByteArray.size_append]; rfl
    have ht2 : t = (pre ++ ⟨#[x]⟩) ++ (f ++ tl x (endS n) r) := by rw [ht', append_assoc]
    have r2 := field_run (n := n) ht2 (.inr rfl) hf1 hf2 hbg' (by rw [hps]; exact r1) f.size (Nat.le_refl _)
    rw [extract_all, if_neg (show ¬ (1 = 0 ∧ f.size ≠ 0) by omega)] at r2
    have hps2 : ((pre ++ ⟨#[x]⟩) ++ f).size = (pre ++ ⟨#[x]⟩).size + f.size := ByteArray.size_append
    have ht3 : t = ((pre ++ ⟨#[x]⟩) ++ f) ++ tl x (endS n) r := by rw [ht2, append_assoc, append_assoc, append_assoc]
    have := run_tail hp hq hpq hx hn r ((pre ++ ⟨#[x]⟩) ++ f) f _ bg' (rc ++ [fd]) ht3 (by rw [hps2]; exact r2) (by split <;> omega) (fun g hg => hr g (by simp [hg])) (by simp at hl ⊢; omega) hbg'
    rw [List.append_assoc] at this
    exact this

theorem pre_front {f g : ByteArray} (h0 : byt g 0 < 128) (h : Bom.preN (f ++ g) = 3) : Bom.preN f = 3 := by
  have hp := Bom.pre_is (f ++ g)
  rw [h] at hp
  have hf : ∀ i, i < 3 → i < f.size := by
    intro i hi
    refine Classical.byContradiction fun c => ?_
    have h1 := hp.2.1 f.size (by omega)
    rw [byt_append, if_neg (by omega), Nat.sub_self] at h1
    unfold Bom.mk at h1
    split at h1
    · omega
    · split at h1 <;> omega
  refine Bom.pre_unique (Bom.pre_is f) ⟨Nat.le_refl _, fun i hi => ?_, fun hc => by omega⟩
  have := hp.2.1 i hi
  rwa [byt_append, if_pos (hf i hi)] at this
theorem tl_front {x : UInt8} (hx : x.toNat < 128) (n : Int) (r : List ByteArray) : byt (tl x (endS n) r) 0 < 128 := by
  cases r with
  | nil =>
    show byt (endS n) 0 < 128
    unfold endS
    split
    · rw [show byt ⟨#[13, 10]⟩ 0 = 13 from rfl]; omega
    · rw [show byt ⟨#[10]⟩ 0 = 10 from rfl]; omega
  | cons f r =>
    show byt (⟨#[x]⟩ ++ (f ++ tl x (endS n) r)) 0 < 128
    rw [byt_append, if_pos (by show 0 < 1; omega), byt_one]
    omega
theorem tl_whole {x : UInt8} (hx : x.toNat < 128) (n : Int) : ∀ r : List ByteArray, (∀ f ∈ r, Utf.stateAt f f.size = 0) → Utf.stateAt (tl x (endS n) r) (tl x (endS n) r).size = 0
  | [], _ => whole_end n
  | f :: r, h => whole_append (whole_one hx) (whole_append (h f (by simp)) (tl_whole hx n r (fun g hg => h g (by simp [hg]))))

theorem bare_of {f : ByteArray} {al fi : Bool} (h : whyN p q f al fi = 0) : Bare p q f ∧ ¬ (f.size = 0 ∧ al = true) ∧ ¬ (fi = true ∧ Bom.hadB f = true) := by
  unfold whyN at h
  split at h
  · cases h
  · rename_i c1
    split at h
    · cases h
    · rename_i c2
      split at h
      · cases h
      · rename_i c3
        split at h
        · cases h
        · rename_i c4
          split at h
          · cases h
          · rename_i c5
            refine ⟨fun j hj => ?_, c4, c5⟩
            have e : ∀ b : Nat, hasC f b ≠ true → bytN f j ≠ b := fun b hb hc => hb (hasC_yes hj (by rw [← bytN_is, hc]))
            have c3' : hasC f 13 ≠ true ∧ hasC f 10 ≠ true := by
              refine ⟨fun c => c3 (by rw [c]; rfl), fun c => c3 (by rw [c, Bool.or_true])⟩
            exact ⟨e p c1, e q c2, e 13 c3'.1, e 10 c3'.2⟩

/-- A record none of whose fields must be quoted is read as it stands. -/
theorem plain_yes {x : UInt8} {L : List ByteArray} (hok : okB p q n = true) (hx : x.toNat = p) (hL : L ≠ []) (hlen : L.length ≤ 1000) (hsz : ∀ f ∈ L, f.size ≤ 100000)
    (hy : ∀ (k : Nat) (f : ByteArray), L[k]? = some f → whyN p q f (decide (L.length = 1)) (decide (k = 0)) = 0 ∧ Utf.stateAt f f.size = 0) :
    (finU p q n wLim (Bom.stripS (jn x L L.length ++ endS n))).ft.1 = 0 ∧ recs (finU p q n wLim (Bom.stripS (jn x L L.length ++ endS n))) = [L] := by
  obtain ⟨⟨hp0, hp13, hp10⟩, ⟨_, hq13, hq10⟩, hpq, hn⟩ := okB_spec hok
  match L, hL with
  | f :: r, _ =>
    have ht : jn x (f :: r) (f :: r).length ++ endS n = f ++ tl x (endS n) r := by
      have := jn_all x (endS n) f r r.length (Nat.le_refl _)
      rw [List.drop_length] at this
      exact this
    rw [ht]
    have hx128 : x.toNat < 128 := by omega
    obtain ⟨h0, hw0⟩ := hy 0 f rfl
    obtain ⟨hb, ha, hm⟩ := bare_of h0
    have hr : ∀ g ∈ r, Bare p q g ∧ Utf.stateAt g g.size = 0 := fun g hg => by
      obtain ⟨k, hk⟩ := List.mem_iff_getElem?.1 hg
      obtain ⟨h1, h2⟩ := hy (k + 1) g (by rw [List.getElem?_cons_succ]; exact hk)
      exact ⟨(bare_of h1).1, h2⟩
    have hs : Bom.stripS (f ++ tl x (endS n) r) = f ++ tl x (endS n) r := by
      unfold Bom.stripS
      rw [if_neg]
      intro hc
      have := pre_front (tl_front hx128 n r) hc
      exact hm ⟨rfl, by unfold Bom.hadB; exact decide_eq_true this⟩
    rw [hs, finU_whole (whole_append hw0 (tl_whole hx128 n r (fun g hg => (hr g hg).2)))]
    generalize htt : f ++ tl x (endS n) r = t
    have ht0 : t = ⟨#[]⟩ ++ (f ++ tl x (endS n) r) := by rw [none_append, htt]
    have hfs := hsz f (by simp)
    have r1 := field_run (p := p) (q := q) (n := n) (st := 0) (bg := 0) (rc := []) ht0 (.inl rfl) hb hfs (by omega) rfl f.size (Nat.le_refl _)
    rw [extract_all] at r1
    have r1' : runM p q n wLim t f.size = ⟨if f.size = 0 then 0 else 2, ⟨f, [], if 0 = 0 ∧ f.size ≠ 0 then 0 + 1 else 0, 0, 0, 0⟩, [], (0, 0)⟩ := by
      have e : (⟨#[]⟩ : ByteArray).size + f.size = f.size := by show 0 + f.size = _; omega
      rw [e] at r1
      exact r1
    have hres := run_tail (x := x) ⟨by omega, by omega⟩ ⟨by omega, by omega⟩ (by omega) hx hn r f f _ _ [] htt.symm r1' (by
      by_cases c : f.size = 0
      · right; right
        rw [if_pos c, if_neg (by omega)]
        refine ⟨rfl, fun e => ha ⟨c, ?_⟩, rfl⟩
        rw [e]; rfl
      · rw [if_neg c]; exact .inr (.inl rfl)) (fun g hg => ⟨(hr g hg).1, hsz g (by simp [hg])⟩) (by simp at hlen ⊢; omega) (by split <;> omega)
    exact hres
end

end Go.Proofs.Ytmaoeeonpedllaa.Nd
