/-
  A text, plain: what the scanner and the maker come to, byte by byte, and its first fault (UTF-8 aside).
-/
import Derived.Test.YtajedohgcepkiaaDoorRows
import Derived.Test.YtajedohgcepkiaaDoorFldM
import Derived.Test.YtajedohgcepkiaaDoorScanM
import Derived.Lib.Hide
namespace Go.Proofs.YtajedohgcepkiaaDoor
open Go.RowKit

/-- The scanner's state, the maker, the whole records and the place of each one's last byte, the first fault (0: none) and its place. -/
structure MS where
  st : Nat
  mr : Mkr
  out : List (List ByteArray × Nat)
  ft : Nat × Nat
def ms0 : MS := ⟨0, mkr0, [], (0, 0)⟩
def outW (o : List (List ByteArray × Nat)) (r : Option (List ByteArray)) (i : Nat) : List (List ByteArray × Nat) := match r with
  | none => o
  | some L => o ++ [(L, i)]
/-- What an event does, at a place. -/
def takeM (l : Lim) (x : MS) (e : Ev) (to_ i : Nat) : MS :=
  if (takeV l x.mr e).1.st = 0 then ⟨to_, (takeV l x.mr e).1, outW x.out (takeV l x.mr e).2 i, (0, 0)⟩ else ⟨x.st, x.mr, x.out, ((takeV l x.mr e).1.st, i)⟩
def stepM (p q : Nat) (n : Int) (l : Lim) (x : MS) (b i : Nat) : MS :=
  if x.ft.1 ≠ 0 then x
  else if (stepV p q n x.st b).er ≠ 0 then ⟨x.st, x.mr, x.out, ((stepV p q n x.st b).er, i)⟩
  else takeM l x (stepV p q n x.st b).ev (stepV p q n x.st b).to_ i
def runM (p q : Nat) (n : Int) (l : Lim) (s : ByteArray) : Nat → MS
  | 0 => ms0
  | k + 1 => stepM p q n l (runM p q n l s k) (bytN s k) k
def endM (l : Lim) (x : MS) (i : Nat) : MS :=
  if x.ft.1 ≠ 0 then x
  else if (closeV x.st).er ≠ 0 then ⟨x.st, x.mr, x.out, ((closeV x.st).er, i)⟩
  else takeM l x (closeV x.st).ev 0 i
def finM (p q : Nat) (n : Int) (l : Lim) (s : ByteArray) : MS := endM l (runM p q n l s s.size) s.size

section
variable {p q : Nat} {n : Int} {l : Lim} {s : ByteArray}
theorem run_stuck {i : Nat} (h : (runM p q n l s i).ft.1 ≠ 0) : ∀ k, runM p q n l s (i + k) = runM p q n l s i
  | 0 => rfl
  | k + 1 => by
    show stepM p q n l (runM p q n l s (i + k)) _ _ = _
    rw [run_stuck h k]
    unfold stepM
    rw [if_pos h]
theorem fin_stuck {i : Nat} (hi : i ≤ s.size) (h : (runM p q n l s i).ft.1 ≠ 0) : finM p q n l s = runM p q n l s i := by
  unfold finM
  have e := run_stuck h (s.size - i)
  rw [show i + (s.size - i) = s.size by omega] at e
  rw [e]
  unfold endM
  rw [if_pos h]
theorem run_step (i : Nat) : runM p q n l s (i + 1) = stepM p q n l (runM p q n l s i) (bytN s i) i := rfl

/-- What an event does to a maker without an error, part by part. -/
theorem take_add {m : Mkr} {b : Nat} (h0 : m.st = 0) (hf : (m.fd.size : Int) < l.fs) : takeV l m ⟨false, true, false, false, false, b⟩ = (⟨m.fd ++ ⟨#[UInt8.ofNat b]⟩, m.rc, m.bg, m.ct, m.wd, 0⟩, none) := by
  simp [takeV, midV, h0, gatherV, thenV, onV, addV, stopV, show ¬ l.fs ≤ (m.fd.size : Int) by omega]
theorem take_full {m : Mkr} {b : Nat} (h0 : m.st = 0) (hf : l.fs ≤ (m.fd.size : Int)) : (takeV l m ⟨false, true, false, false, false, b⟩).1.st = 7 := by
  simp [takeV, midV, h0, gatherV, thenV, onV, addV, stopV, hf]
theorem take_begin_add {m : Mkr} {b : Nat} (h0 : m.st = 0) (hr : (m.bg : Int) < l.rs) (hf : (m.fd.size : Int) < l.fs) : takeV l m ⟨true, true, false, false, false, b⟩ = (⟨m.fd ++ ⟨#[UInt8.ofNat b]⟩, m.rc, m.bg + 1, m.ct, m.wd, 0⟩, none) := by
  simp [takeV, midV, h0, gatherV, thenV, onV, beginV, addV, stopV, show ¬ l.rs ≤ (m.bg : Int) by omega, show ¬ l.fs ≤ (m.fd.size : Int) by omega]
theorem take_begin {m : Mkr} {b : Nat} (h0 : m.st = 0) (hr : (m.bg : Int) < l.rs) : takeV l m ⟨true, false, false, false, false, b⟩ = (⟨m.fd, m.rc, m.bg + 1, m.ct, m.wd, 0⟩, none) := by
  simp [takeV, midV, h0, gatherV, thenV, onV, beginV, stopV, show ¬ l.rs ≤ (m.bg : Int) by omega]
theorem take_begin_no {m : Mkr} {ad fi li re : Bool} {b : Nat} (h0 : m.st = 0) (hr : l.rs ≤ (m.bg : Int)) : (takeV l m ⟨true, ad, fi, li, re, b⟩).1.st = 9 := by
  simp [takeV, midV, h0, gatherV, thenV, onV, beginV, stopV, hr]
theorem take_nothing {m : Mkr} {b : Nat} (h0 : m.st = 0) : takeV l m ⟨false, false, false, false, false, b⟩ = (m, none) := by
  obtain ⟨fd, rc, bg, ct, wd, st⟩ := m
  simp at h0
  subst h0
  simp [takeV, midV, gatherV, thenV, onV, stopV]
/-- The error that a field behind which another one comes makes. -/
def fldE (l : Lim) (m : Mkr) : Nat := (fieldV l m).2
theorem take_field {m : Mkr} {b : Nat} (h0 : m.st = 0) (he : fldE l m = 0) : takeV l m ⟨false, false, true, false, false, b⟩ = (⟨⟨#[]⟩, m.rc ++ [m.fd], m.bg, m.ct, m.wd, 0⟩, none) := by
  unfold fldE fieldV at he
  simp only [] at he
  simp [takeV, midV, h0, gatherV, thenV, onV, fieldV, putV, stopV, he]
theorem take_field_no {m : Mkr} {b : Nat} (h0 : m.st = 0) (he : fldE l m ≠ 0) : (takeV l m ⟨false, false, true, false, false, b⟩).1.st = fldE l m := by
  unfold fldE fieldV at he ⊢
  simp only [] at he ⊢
  simp [takeV, midV, h0, gatherV, thenV, onV, fieldV, putV, stopV, he]
theorem take_begin_field {m : Mkr} {b : Nat} (h0 : m.st = 0) (hr : (m.bg : Int) < l.rs) (he : fldE l m = 0) : takeV l m ⟨true, false, true, false, false, b⟩ = (⟨⟨#[]⟩, m.rc ++ [m.fd], m.bg + 1, m.ct, m.wd, 0⟩, none) := by
  have hm : must l ⟨m.fd, m.rc, m.bg + 1, m.ct, m.wd, 0⟩ = must l m := rfl
  unfold fldE fieldV at he
  simp only [] at he
  simp [takeV, midV, h0, gatherV, thenV, onV, beginV, fieldV, hm, putV, stopV, show ¬ l.rs ≤ (m.bg : Int) by omega, he]
theorem take_begin_field_no {m : Mkr} {b : Nat} (h0 : m.st = 0) (hr : (m.bg : Int) < l.rs) (he : fldE l m ≠ 0) : (takeV l m ⟨true, false, true, false, false, b⟩).1.st = fldE l m := by
  have hm : must l ⟨m.fd, m.rc, m.bg + 1, m.ct, m.wd, 0⟩ = must l m := rfl
  unfold fldE fieldV at he ⊢
  simp only [] at he ⊢
  simp [takeV, midV, h0, gatherV, thenV, onV, beginV, fieldV, hm, putV, stopV, show ¬ l.rs ≤ (m.bg : Int) by omega]
  rw [if_neg he]
/-- .. and the last one of a record. -/
def linE (l : Lim) (m : Mkr) : Nat := (lineV l m).2
theorem take_line {m : Mkr} {b : Nat} (h0 : m.st = 0) (he : linE l m = 0) : takeV l m ⟨false, false, false, true, false, b⟩ = (⟨⟨#[]⟩, m.rc ++ [m.fd], m.bg, m.ct, m.wd, 0⟩, none) := by
  unfold linE lineV at he
  simp only [] at he
  simp [takeV, midV, h0, gatherV, thenV, onV, lineV, putV, stopV, he]
theorem take_line_no {m : Mkr} {re : Bool} {b : Nat} (h0 : m.st = 0) (he : linE l m ≠ 0) : (takeV l m ⟨false, false, false, true, re, b⟩).1.st = linE l m := by
  unfold linE lineV at he ⊢
  simp only [] at he ⊢
  simp [takeV, midV, h0, gatherV, thenV, onV, lineV, putV, stopV, he]
theorem take_last {m : Mkr} {b : Nat} (h0 : m.st = 0) (he : linE l m = 0) : takeV l m ⟨false, false, false, true, true, b⟩ = (⟨⟨#[]⟩, [], m.bg, m.ct + 1, if m.ct = 0 then m.rc.length + 1 else m.wd, 0⟩, some (m.rc ++ [m.fd])) := by
  unfold linE lineV at he
  simp only [] at he
  simp [takeV, midV, h0, gatherV, thenV, onV, lineV, putV, stopV, handV, he]
theorem take_record {m : Mkr} {b : Nat} (h0 : m.st = 0) : takeV l m ⟨false, false, false, false, true, b⟩ = (⟨m.fd, [], m.bg, m.ct + 1, if m.ct = 0 then m.rc.length else m.wd, 0⟩, some m.rc) := by
  simp [takeV, midV, h0, gatherV, thenV, onV, stopV, handV]
end

end Go.Proofs.YtajedohgcepkiaaDoor
