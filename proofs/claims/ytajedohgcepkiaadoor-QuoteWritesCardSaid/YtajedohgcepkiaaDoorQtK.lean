/-
  Plain: a field quoted, alone in a text, is read as one record of it.
-/
import Derived.Test.YtajedohgcepkiaaDoorRows
import Derived.Test.YtajedohgcepkiaaDoorNdK
import Derived.Test.YtajedohgcepkiaaDoorQtM
namespace Go.Proofs.YtajedohgcepkiaaDoor.Qt
open Go.RowKit Nd

def dblB (q : UInt8) (f : ByteArray) : ByteArray := ⟨(dbl q f.data.toList).toArray⟩
def quoB (q : UInt8) (f : ByteArray) : ByteArray := ⟨#[q]⟩ ++ (dblB q f ++ ⟨#[q]⟩)
theorem toList_app (a b : ByteArray) : (a ++ b).data.toList = a.data.toList ++ b.data.toList := by
  rw [ByteArray.data_append, Array.toList_append]
theorem of_lists {a b : ByteArray} (h : a.data.toList = b.data.toList) : a = b := by
  obtain ⟨⟨a⟩⟩ := a
  obtain ⟨⟨b⟩⟩ := b
  simp only [] at h
  rw [h]
theorem dblB_list (q : UInt8) (f : ByteArray) : (dblB q f).data.toList = dbl q f.data.toList := by unfold dblB; rfl
theorem quoB_list (q : UInt8) (f : ByteArray) : (quoB q f).data.toList = quo q f.data.toList := by
  unfold quoB quo
  rw [toList_app, toList_app, dblB_list]
  rfl
theorem dblB_append (q : UInt8) (a b : ByteArray) : dblB q (a ++ b) = dblB q a ++ dblB q b := of_lists (by rw [toList_app, dblB_list, dblB_list, dblB_list, toList_app, dbl_append])
theorem quoB_inj (q : UInt8) {a b : ByteArray} (h : quoB q a = quoB q b) : a = b := of_lists (quo_inj q (by rw [← quoB_list, h, quoB_list]))
theorem quoB_size (q : UInt8) (f : ByteArray) : (quoB q f).size = f.size + f.data.toList.count q + 2 := by
  rw [← ByteArray.size_data, ← Array.length_toList, quoB_list, quo_len, Array.length_toList, ByteArray.size_data]
theorem quoB_le (q : UInt8) (f : ByteArray) : (quoB q f).size ≤ f.size + f.size + 2 := by
  have h := List.count_le_length (a := q) (l := f.data.toList)
  rw [Array.length_toList, ByteArray.size_data] at h
  have := quoB_size q f
  omega
/-- What a byte is laid as. -/
def two (q b : UInt8) : ByteArray := if b = q then ⟨#[q, q]⟩ else ⟨#[b]⟩
theorem dblB_one (q b : UInt8) : dblB q ⟨#[b]⟩ = two q b := by
  unfold two dblB
  show ByteArray.mk (dbl q [b]).toArray = _
  rw [dbl_cons]
  split <;> rfl
theorem dblB_snoc (q : UInt8) (f : ByteArray) (k : Nat) (h : k < f.size) : dblB q (f.extract 0 (k + 1)) = dblB q (f.extract 0 k) ++ two q (UInt8.ofNat (bytN f k)) := by
  rw [extract_snoc f k h, dblB_append, dblB_one]
theorem extract_both (f : ByteArray) (k : Nat) (h : k ≤ f.size) : f.extract 0 k ++ f.extract k f.size = f := by
  refine byt_inj (by rw [ByteArray.size_append, ByteArray.size_extract, ByteArray.size_extract]; omega) (fun i hi => ?_)
  rw [byt_append, ByteArray.size_extract]
  by_cases c : i < min k f.size - 0
  · rw [if_pos c, byt_extract, if_pos (by omega), Nat.zero_add]
  · rw [if_neg c, byt_extract]
    rw [ByteArray.size_append, ByteArray.size_extract, ByteArray.size_extract] at hi
    rw [if_pos (by omega), show k + (i - (min k f.size - 0)) = i by omega]
theorem dblB_split (q : UInt8) (f : ByteArray) (k : Nat) (h : k ≤ f.size) : dblB q f = dblB q (f.extract 0 k) ++ dblB q (f.extract k f.size) := by
  rw [← dblB_append, extract_both f k h]
theorem dblB_none (q : UInt8) : dblB q ⟨#[]⟩ = ⟨#[]⟩ := rfl

/- UTF-8. -/
theorem step_low {s b : Int} (h0 : s ≠ 0) (hb : b < 128) : Utf.stepI s b = -1 := by
  unfold Utf.stepI
  rw [if_neg h0]
  repeat' split
  all_goals first | rfl | omega
theorem state_front (a b : ByteArray) : ∀ j, j ≤ a.size → Utf.stateAt (a ++ b) j = Utf.stateAt a j
  | 0, _ => rfl
  | j + 1, hj => by
    show (if j < (a ++ b).size then Utf.stepI (Utf.stateAt (a ++ b) j) (byt (a ++ b) j) else -1) = (if j < a.size then Utf.stepI (Utf.stateAt a j) (byt a j) else -1)
    rw [if_pos (by rw [ByteArray.size_append]; omega), if_pos (by omega), state_front a b j (by omega), byt_append, if_pos (by omega)]
theorem state_snoc (a : ByteArray) (x : UInt8) : Utf.stateAt (a ++ ⟨#[x]⟩) (a ++ ⟨#[x]⟩).size = Utf.stepI (Utf.stateAt a a.size) x.toNat := by
  have e : (a ++ ⟨#[x]⟩ : ByteArray).size = a.size + 1 := ByteArray.size_append
  rw [e]
  show (if a.size < (a ++ ⟨#[x]⟩ : ByteArray).size then Utf.stepI (Utf.stateAt (a ++ ⟨#[x]⟩) a.size) (byt (a ++ ⟨#[x]⟩) a.size) else -1) = _
  rw [if_pos (by omega), state_front a _ a.size (Nat.le_refl _), byt_append, if_neg (by omega), Nat.sub_self, byt_one]
theorem ofNat_byt (f : ByteArray) (k : Nat) : (UInt8.ofNat (bytN f k)).toNat = bytN f k := by
  rw [UInt8.toNat_ofNat']
  have := bytN_lt f k
  omega
theorem state_dbl {x : UInt8} (hx : x.toNat < 128) {f : ByteArray} (hw : Utf.stateAt f f.size = 0) : ∀ k, k ≤ f.size → Utf.stateAt (dblB x (f.extract 0 k)) (dblB x (f.extract 0 k)).size = Utf.stateAt f k
  | 0, _ => by rw [extract_none]; rfl
  | k + 1, hk => by
    have ih := state_dbl hx hw k (by omega)
    rw [dblB_snoc x f k (by omega)]
    generalize dblB x (f.extract 0 k) = d at ih ⊢
    have hs : Utf.stateAt f (k + 1) = Utf.stepI (Utf.stateAt f k) (bytN f k : Int) := by
      show (if k < f.size then Utf.stepI (Utf.stateAt f k) (byt f k) else -1) = _
      rw [if_pos (by omega), bytN_is]
    unfold two
    by_cases e : UInt8.ofNat (bytN f k) = x
    · have hb : bytN f k < 128 := by rw [← ofNat_byt, e]; exact hx
      rw [if_pos e]
      have h0 : Utf.stateAt f k = 0 := Classical.byContradiction fun c => by
        rw [step_low c (by omega)] at hs
        rw [Utf.stateAt_fail f (k + 1) f.size hs (by omega)] at hw
        cases hw
      have h1 : Utf.stepI 0 (x.toNat : Int) = 0 := by
        unfold Utf.stepI
        rw [if_pos rfl, if_pos (by omega)]
      have e2 : d ++ ⟨#[x, x]⟩ = (d ++ ⟨#[x]⟩) ++ ⟨#[x]⟩ := by rw [append_assoc]; rfl
      rw [e2, state_snoc, state_snoc, ih, h0, h1, h1, hs, h0, ← ofNat_byt, e, h1]
    · rw [if_neg e, state_snoc, ih, hs, ofNat_byt]
theorem whole_dbl {x : UInt8} (hx : x.toNat < 128) {f : ByteArray} (hw : Utf.stateAt f f.size = 0) : Utf.stateAt (dblB x f) (dblB x f).size = 0 := by
  have := state_dbl hx hw f.size (Nat.le_refl _)
  rw [extract_all] at this
  rw [this, hw]
theorem whole_quo {x : UInt8} (hx : x.toNat < 128) {f : ByteArray} (hw : Utf.stateAt f f.size = 0) : Utf.stateAt (quoB x f) (quoB x f).size = 0 :=
  whole_append (whole_one hx) (whole_append (whole_dbl hx hw) (whole_one hx))

/- The machine. -/
section
variable {p q : Nat} {n : Int} {t : ByteArray}
theorem step_open : stepV p q n 0 q = ⟨⟨true, false, false, false, false, 0⟩, 3, 0⟩ := by
  unfold stepV
  rw [if_neg (by omega), if_neg (by omega), if_neg (by omega)]
  unfold outV
  rw [if_pos rfl]
  rfl
theorem step_in {b : Nat} (h : b ≠ q) : stepV p q n 3 b = ⟨evA b, 3, 0⟩ := by
  unfold stepV
  rw [if_pos rfl]
  unfold inV
  rw [if_neg h]
theorem step_shut : stepV p q n 3 q = ⟨ev0, 4, 0⟩ := by
  unfold stepV
  rw [if_pos rfl]
  unfold inV
  rw [if_pos rfl]
theorem step_again : stepV p q n 4 q = ⟨evA q, 3, 0⟩ := by
  unfold stepV
  rw [if_neg (by omega), if_neg (by omega), if_neg (by omega)]
  unfold outV
  rw [if_pos rfl]
  rfl
def inQ (f : ByteArray) : MS := ⟨3, ⟨f, [], 1, 0, 0, 0⟩, [], (0, 0)⟩
def outQ (f : ByteArray) : MS := ⟨4, ⟨f, [], 1, 0, 0, 0⟩, [], (0, 0)⟩
theorem quo_open (i : Nat) : stepM p q n wLim ms0 q i = inQ ⟨#[]⟩ := by
  unfold stepM takeM
  rw [if_neg (by show ¬ (0 : Nat) ≠ 0; simp)]
  rw [show ms0.st = 0 from rfl, step_open, if_neg (by simp)]
  simp only []
  rw [take_begin (l := wLim) (m := ms0.mr) rfl (by decide)]
  rfl
theorem quo_in {f : ByteArray} {b i : Nat} (hf : f.size ≤ 100000) (h : b ≠ q) : stepM p q n wLim (inQ f) b i = inQ (f ++ ⟨#[UInt8.ofNat b]⟩) := by
  unfold inQ stepM takeM
  rw [if_neg (by simp)]
  simp only []
  rw [step_in h, if_neg (by simp)]
  simp only []
  unfold evA
  rw [take_add (l := wLim) (m := ⟨f, [], 1, 0, 0, 0⟩) rfl (by show (f.size : Int) < 2147483648; omega)]
  rfl
theorem quo_shut {f : ByteArray} {i : Nat} : stepM p q n wLim (inQ f) q i = outQ f := by
  unfold inQ outQ stepM takeM
  rw [if_neg (by simp)]
  simp only []
  rw [step_shut, if_neg (by simp)]
  simp only []
  unfold ev0
  rw [take_nothing (l := wLim) (m := ⟨f, [], 1, 0, 0, 0⟩) rfl]
  rfl
theorem quo_again {f : ByteArray} {i : Nat} (hf : f.size ≤ 100000) : stepM p q n wLim (outQ f) q i = inQ (f ++ ⟨#[UInt8.ofNat q]⟩) := by
  unfold inQ outQ stepM takeM
  rw [if_neg (by simp)]
  simp only []
  rw [step_again, if_neg (by simp)]
  simp only []
  unfold evA
  rw [take_add (l := wLim) (m := ⟨f, [], 1, 0, 0, 0⟩) rfl (by show (f.size : Int) < 2147483648; omega)]
  rfl
theorem quo_end {f : ByteArray} {i : Nat} : (endM wLim (outQ f) i).ft.1 = 0 ∧ recs (endM wLim (outQ f) i) = [[f]] := by
  unfold outQ endM takeM
  rw [if_neg (by simp)]
  simp only []
  rw [show closeV 4 = ⟨⟨false, false, false, true, true, 0⟩, 0, 0⟩ from rfl, if_neg (by simp)]
  simp only []
  rw [take_last (l := wLim) (m := ⟨f, [], 1, 0, 0, 0⟩) rfl (linE_wide _)]
  exact ⟨rfl, rfl⟩

theorem bytN_at {a b c : ByteArray} {i : Nat} (h : i < b.size) : bytN (a ++ (b ++ c)) (a.size + i) = bytN b i := by
  unfold bytN
  rw [byt_append, if_neg (by omega), show a.size + i - a.size = i by omega, byt_append, if_pos h]

theorem quo_run {x : UInt8} {f : ByteArray} (hx : x.toNat = q) (ht : t = quoB x f) (hf : f.size ≤ 100000) : ∀ k, k ≤ f.size → runM p q n wLim t (1 + (dblB x (f.extract 0 k)).size) = inQ (f.extract 0 k)
  | 0, _ => by
    rw [extract_none]
    show stepM p q n wLim ms0 (bytN t 0) 0 = _
    have h0 : bytN t 0 = q := by
      unfold bytN
      rw [ht]
      unfold quoB
      rw [byt_append, if_pos (by show 0 < 1; omega), byt_one, hx]
      rfl
    rw [h0, quo_open]
  | k + 1, hk => by
    have ih := quo_run hx ht hf k (by omega)
    have hfz : (f.extract 0 k).size ≤ 100000 := by rw [ByteArray.size_extract]; omega
    rw [dblB_snoc x f k (by omega), extract_snoc f k (by omega)]
    have hsp : t = (⟨#[x]⟩ ++ dblB x (f.extract 0 k)) ++ (two x (UInt8.ofNat (bytN f k)) ++ (dblB x (f.extract (k + 1) f.size) ++ ⟨#[x]⟩)) := by
      rw [ht]
      unfold quoB
      rw [dblB_split x f (k + 1) (by omega), dblB_snoc x f k (by omega)]
      simp only [append_assoc]
    generalize f.extract 0 k = g at ih hsp hfz ⊢
    generalize dblB x g = d at ih hsp ⊢
    generalize dblB x (f.extract (k + 1) f.size) ++ ⟨#[x]⟩ = r at hsp
    have hs1 : (⟨#[x]⟩ ++ d : ByteArray).size = 1 + d.size := ByteArray.size_append
    have hofn := ofNat_byt f k
    generalize hb : bytN f k = b at hsp hofn ⊢
    by_cases e : UInt8.ofNat b = x
    · have hbq : b = q := by rw [← hx, ← e, hofn]
      unfold two at hsp ⊢
      rw [if_pos e] at hsp ⊢
      have b0 : bytN t (1 + d.size) = q := by
        have := bytN_at (a := ⟨#[x]⟩ ++ d) (b := ⟨#[x, x]⟩) (c := r) (i := 0) (by show 0 < 2; omega)
        rw [hs1] at this
        rw [hsp]
        exact this.trans (by rw [← hx]; rfl)
      have b1 : bytN t (1 + d.size + 1) = q := by
        have := bytN_at (a := ⟨#[x]⟩ ++ d) (b := ⟨#[x, x]⟩) (c := r) (i := 1) (by show 1 < 2; omega)
        rw [hs1] at this
        rw [hsp]
        exact this.trans (by rw [← hx]; rfl)
      have ez : 1 + (d ++ ⟨#[x, x]⟩ : ByteArray).size = 1 + d.size + 1 + 1 := by
        have : (d ++ ⟨#[x, x]⟩ : ByteArray).size = d.size + 2 := ByteArray.size_append
        omega
      rw [ez]
      show stepM p q n wLim (stepM p q n wLim (runM p q n wLim t (1 + d.size)) (bytN t (1 + d.size)) (1 + d.size)) (bytN t (1 + d.size + 1)) (1 + d.size + 1) = _
      rw [ih, b0, b1, quo_shut, quo_again hfz, hbq]
    · have hbq : b ≠ q := fun h => e (UInt8.toNat_inj.1 (by rw [hofn, hx, h]))
      unfold two at hsp ⊢
      rw [if_neg e] at hsp ⊢
      have b0 : bytN t (1 + d.size) = b := by
        have := bytN_at (a := ⟨#[x]⟩ ++ d) (b := ⟨#[UInt8.ofNat b]⟩) (c := r) (i := 0) (by show 0 < 1; omega)
        rw [hs1] at this
        rw [hsp]
        refine this.trans ?_
        unfold bytN
        rw [byt_one, hofn]
        rfl
      have ez : 1 + (d ++ ⟨#[UInt8.ofNat b]⟩ : ByteArray).size = 1 + d.size + 1 := by
        have : (d ++ ⟨#[UInt8.ofNat b]⟩ : ByteArray).size = d.size + 1 := ByteArray.size_append
        omega
      rw [ez]
      show stepM p q n wLim (runM p q n wLim t (1 + d.size)) (bytN t (1 + d.size)) (1 + d.size) = _
      rw [ih, b0, quo_in hfz hbq]

theorem quo_strip {x : UInt8} {f : ByteArray} (hx : x.toNat < 128) : Bom.stripS (quoB x f) = quoB x f := by
  unfold Bom.stripS
  rw [if_neg]
  intro h
  have hp := Bom.pre_is (quoB x f)
  rw [h] at hp
  have h1 := hp.2.1 0 (by omega)
  unfold quoB at h1
  rw [byt_append, if_pos (by show 0 < 1; omega), byt_one] at h1
  unfold Bom.mk at h1
  rw [if_pos rfl] at h1
  omega

/-- What is quoted alone is read as one record of it. -/
theorem quo_read {x : UInt8} {f : ByteArray} (hok : okB p q n = true) (hx : x.toNat = q) (hf : f.size ≤ 100000) (hw : Utf.stateAt f f.size = 0) :
    (finU p q n wLim (Bom.stripS (quoB x f))).ft.1 = 0 ∧ recs (finU p q n wLim (Bom.stripS (quoB x f))) = [[f]] := by
  obtain ⟨_, hq, _, _⟩ := okB_spec hok
  have hx128 : x.toNat < 128 := by omega
  rw [quo_strip hx128, finU_whole (whole_quo hx128 hw)]
  generalize ht : quoB x f = t
  have r1 := quo_run (p := p) (n := n) hx ht.symm hf f.size (Nat.le_refl _)
  rw [extract_all] at r1
  have hz : t.size = 1 + (dblB x f).size + 1 := by
    rw [← ht]
    unfold quoB
    rw [ByteArray.size_append, ByteArray.size_append]
    show 1 + ((dblB x f).size + 1) = _
    omega
  have hl : bytN t (1 + (dblB x f).size) = q := by
    have e : t = (⟨#[x]⟩ ++ dblB x f) ++ (⟨#[x]⟩ ++ ⟨#[]⟩) := by
      rw [← ht, append_none]
      unfold quoB
      rw [append_assoc]
    have := bytN_at (a := ⟨#[x]⟩ ++ dblB x f) (b := ⟨#[x]⟩) (c := ⟨#[]⟩) (i := 0) (by show 0 < 1; omega)
    rw [show (⟨#[x]⟩ ++ dblB x f : ByteArray).size = 1 + (dblB x f).size from ByteArray.size_append] at this
    rw [e]
    exact this.trans (by rw [← hx]; rfl)
  unfold finM
  rw [hz]
  show (endM wLim (stepM p q n wLim (runM p q n wLim t (1 + (dblB x f).size)) (bytN t (1 + (dblB x f).size)) (1 + (dblB x f).size)) _).ft.1 = 0 ∧ recs (endM wLim (stepM p q n wLim (runM p q n wLim t (1 + (dblB x f).size)) (bytN t (1 + (dblB x f).size)) (1 + (dblB x f).size)) _) = [[f]]
  rw [r1, hl, quo_shut]
  exact quo_end
end

end Go.Proofs.YtajedohgcepkiaaDoor.Qt
