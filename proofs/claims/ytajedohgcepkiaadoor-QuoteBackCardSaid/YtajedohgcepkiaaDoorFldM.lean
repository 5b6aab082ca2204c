/-
  A maker, plain: what it has, and what an event does to it.
-/
import Derived.Test.YtajedohgcepkiaaDoorRows
import Derived.Test.YtajedohgcepkiaaDoorStrs
import Derived.Test.YtajedohgcepkiaaDoorEv
namespace Go.Proofs.YtajedohgcepkiaaDoor
open Go.RowKit

structure Lim where
  fs : Int
  fl : Int
  rs : Int
  un : Bool
/-- The open field and record, how many were begun and handed out, the first one's width, the error. -/
structure Mkr where
  fd : ByteArray
  rc : List ByteArray
  bg : Nat
  ct : Nat
  wd : Nat
  st : Nat
def mkr0 : Mkr := ⟨⟨#[]⟩, [], 0, 0, 0, 0⟩

def Sz (m : Mkr) (n : Nat) : Prop := m.fd.size ≤ n ∧ m.rc.length ≤ n ∧ m.bg ≤ n ∧ m.ct ≤ n ∧ m.wd ≤ n
theorem Sz.mono {m : Mkr} {a b : Nat} (h : Sz m a) (hab : a ≤ b) : Sz m b := by obtain ⟨h1, h2, h3, h4, h5⟩ := h; exact ⟨by omega, by omega, by omega, by omega, by omega⟩
theorem Sz.zero (n : Nat) : Sz mkr0 n := ⟨Nat.zero_le _, Nat.zero_le _, Nat.zero_le _, Nat.zero_le _, Nat.zero_le _⟩

def must (l : Lim) (m : Mkr) : Bool := l.un && decide (0 < m.ct)
def beginV (l : Lim) (m : Mkr) : Mkr × Nat := if l.rs ≤ m.bg then (m, 9) else (⟨m.fd, m.rc, m.bg + 1, m.ct, m.wd, m.st⟩, 0)
def addV (l : Lim) (m : Mkr) (b : Nat) : Mkr × Nat := if l.fs ≤ m.fd.size then (m, 7) else (⟨m.fd ++ ⟨#[UInt8.ofNat b]⟩, m.rc, m.bg, m.ct, m.wd, m.st⟩, 0)
def putV (m : Mkr) : Mkr := ⟨⟨#[]⟩, m.rc ++ [m.fd], m.bg, m.ct, m.wd, m.st⟩
def fieldV (l : Lim) (m : Mkr) : Mkr × Nat := (putV m, if l.fl ≤ m.rc.length + 1 then 8 else if must l m = true ∧ m.rc.length + 1 = m.wd then 10 else 0)
def lineV (l : Lim) (m : Mkr) : Mkr × Nat := (putV m, if must l m = true ∧ m.rc.length + 1 ≠ m.wd then 10 else 0)
def onV (c : Bool) (m : Mkr) (o : Mkr × Nat) : Mkr × Nat := if c then o else (m, 0)
def thenV (o : Mkr × Nat) (f : Mkr → Mkr × Nat) : Mkr × Nat := if o.2 = 0 then f o.1 else o
def gatherV (l : Lim) (m : Mkr) (e : Ev) : Mkr × Nat :=
  thenV (onV e.be m (beginV l m)) fun m1 => thenV (onV e.ad m1 (addV l m1 e.by_)) fun m2 => thenV (onV e.fi m2 (fieldV l m2)) fun m3 => onV e.li m3 (lineV l m3)
def handV (m : Mkr) : Mkr := ⟨m.fd, [], m.bg, m.ct + 1, if m.ct = 0 then m.rc.length else m.wd, m.st⟩
def stopV (m : Mkr) (s : Nat) : Mkr := ⟨m.fd, m.rc, m.bg, m.ct, m.wd, s⟩
/-- What Take does: the maker behind it, the record that is handed out. -/
def midV (l : Lim) (m : Mkr) (e : Ev) : Mkr := if m.st = 0 then stopV (gatherV l m e).1 (gatherV l m e).2 else m
def takeV (l : Lim) (m : Mkr) (e : Ev) : Mkr × Option (List ByteArray) :=
  if (midV l m e).st = 0 ∧ e.re = true then (handV (midV l m e), some (midV l m e).rc) else (midV l m e, none)

theorem then_ok {o : Mkr × Nat} {f : Mkr → Mkr × Nat} (h : o.2 = 0) : thenV o f = f o.1 := by unfold thenV; rw [if_pos h]
theorem then_no {o : Mkr × Nat} {f : Mkr → Mkr × Nat} (h : o.2 ≠ 0) : thenV o f = o := by unfold thenV; rw [if_neg h]
theorem begin_sz {l : Lim} {m : Mkr} {n : Nat} (h : Sz m n) : Sz (beginV l m).1 (n + 1) := by
  unfold beginV
  split
  · exact h.mono (by omega)
  · obtain ⟨h1, h2, h3, h4, h5⟩ := h; exact ⟨by simp only []; omega, by simp only []; omega, by simp only []; omega, by simp only []; omega, by simp only []; omega⟩
theorem add_sz {l : Lim} {m : Mkr} {b n : Nat} (h : Sz m n) : Sz (addV l m b).1 (n + 1) := by
  unfold addV
  split
  · exact h.mono (by omega)
  · obtain ⟨h1, h2, h3, h4, h5⟩ := h
    refine ⟨?_, by simp only []; omega, by simp only []; omega, by simp only []; omega, by simp only []; omega⟩
    rw [ByteArray.size_append]
    show _ + 1 ≤ _
    omega
theorem put_sz {m : Mkr} {n : Nat} (h : Sz m n) : Sz (putV m) (n + 1) := by
  obtain ⟨h1, h2, h3, h4, h5⟩ := h
  refine ⟨Nat.zero_le _, ?_, by simp only [putV]; omega, by simp only [putV]; omega, by simp only [putV]; omega⟩
  simp only [putV, List.length_append, List.length_singleton]
  omega
theorem on_sz {c : Bool} {m : Mkr} {o : Mkr × Nat} {n : Nat} (h : Sz m n) (ho : Sz o.1 (n + 1)) : Sz (onV c m o).1 (n + 1) := by
  unfold onV
  split
  · exact ho
  · exact h.mono (by omega)
theorem then_sz {o : Mkr × Nat} {f : Mkr → Mkr × Nat} {n k : Nat} (h : Sz o.1 n) (hf : Sz (f o.1).1 k) (hk : n ≤ k) : Sz (thenV o f).1 k := by
  unfold thenV
  split
  · exact hf
  · exact h.mono hk
theorem gather_sz {l : Lim} {m : Mkr} {e : Ev} {n : Nat} (h : Sz m n) : Sz (gatherV l m e).1 (n + 4) := by
  unfold gatherV
  have h1 := on_sz (c := e.be) h (begin_sz (l := l) h)
  refine then_sz h1 ?_ (by omega)
  have h2 := on_sz (c := e.ad) h1 (add_sz (l := l) (b := e.by_) h1)
  refine then_sz h2 ?_ (by omega)
  have h3 := on_sz (c := e.fi) (o := fieldV l _) h2 (put_sz h2)
  refine then_sz h3 ?_ (by omega)
  exact on_sz (c := e.li) (o := lineV l _) h3 (put_sz h3)
theorem hand_sz {m : Mkr} {n : Nat} (h : Sz m n) : Sz (handV m) (n + 1) := by
  obtain ⟨h1, h2, h3, h4, h5⟩ := h
  refine ⟨by simp only [handV]; omega, Nat.zero_le _, by simp only [handV]; omega, by simp only [handV]; omega, ?_⟩
  simp only [handV]
  split <;> omega
theorem take_sz {l : Lim} {m : Mkr} {e : Ev} {n : Nat} (h : Sz m n) : Sz (takeV l m e).1 (n + 5) := by
  have hs : Sz (midV l m e) (n + 4) := by
    unfold midV
    split
    · exact gather_sz (l := l) (e := e) h
    · exact h.mono (by omega)
  unfold takeV
  split
  · exact hand_sz hs
  · exact hs.mono (by omega)
theorem take_stopped {l : Lim} {m : Mkr} {e : Ev} (h : m.st ≠ 0) : takeV l m e = (m, none) := by
  unfold takeV midV
  rw [if_neg h, if_neg (fun h' => h h'.1)]

/-- Within wide limits, not uniform, nothing is an error. -/
def wideL : Lim := ⟨1000, 1000, 1000, false⟩
theorem gather_wide {m : Mkr} {e : Ev} {n : Nat} (h : Sz m n) (hn : n ≤ 900) : (gatherV wideL m e).2 = 0 := by
  have hz : ∀ {c : Bool} {m : Mkr} {o : Mkr × Nat}, o.2 = 0 → (onV c m o).2 = 0 := by intro c m o ho; unfold onV; split <;> simp [ho]
  have b0 : ∀ {m : Mkr}, Sz m 999 → (beginV wideL m).2 = 0 := by
    intro m h; unfold beginV wideL; rw [if_neg]; have := h.2.2.1; simp only []; omega
  have a0 : ∀ {m : Mkr} {b : Nat}, Sz m 999 → (addV wideL m b).2 = 0 := by
    intro m b h; unfold addV wideL; rw [if_neg]; have := h.1; simp only []; omega
  have f0 : ∀ {m : Mkr}, Sz m 998 → (fieldV wideL m).2 = 0 := by
    intro m h; unfold fieldV wideL; simp only []; rw [if_neg (by have := h.2.1; omega), if_neg (by simp [must])]
  have l0 : ∀ {m : Mkr}, (lineV wideL m).2 = 0 := by intro m; unfold lineV wideL; simp only []; rw [if_neg (by simp [must])]
  unfold gatherV
  have h1 := on_sz (c := e.be) h (begin_sz (l := wideL) h)
  have e1 := hz (c := e.be) (m := m) (b0 (h.mono (by omega)))
  rw [then_ok e1]
  generalize (onV e.be m (beginV wideL m)).1 = m1 at h1 ⊢
  have h2 := on_sz (c := e.ad) h1 (add_sz (l := wideL) (b := e.by_) h1)
  have e2 := hz (c := e.ad) (m := m1) (a0 (b := e.by_) (h1.mono (by omega)))
  rw [then_ok e2]
  generalize (onV e.ad m1 (addV wideL m1 e.by_)).1 = m2 at h2 ⊢
  have e3 := hz (c := e.fi) (m := m2) (f0 (h2.mono (by omega)))
  rw [then_ok e3]
  exact hz l0
theorem mid_wide {m : Mkr} {e : Ev} {n : Nat} (h0 : m.st = 0) (h : Sz m n) (hn : n ≤ 900) : midV wideL m e = stopV (gatherV wideL m e).1 0 := by
  unfold midV
  rw [if_pos h0, gather_wide h hn]
theorem take_wide {m : Mkr} {e : Ev} {n : Nat} (h0 : m.st = 0) (h : Sz m n) (hn : n ≤ 900) : (takeV wideL m e).1.st = 0 := by
  unfold takeV
  rw [mid_wide h0 h hn]
  split <;> rfl

end Go.Proofs.YtajedohgcepkiaaDoor
