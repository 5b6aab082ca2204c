/-
  Plain: a field is read as it was of what is written of it. Walks: the chapter's example.
-/
import Derived.Test.YtajedohgcepkiaaDoorRows
import Derived.Test.YtajedohgcepkiaaDoorQtN
import Derived.Deep.RegionHeld
namespace Go.Proofs.YtajedohgcepkiaaDoor
open Go.RowKit Qt Nd

theorem quoB_drop (x : UInt8) (f : ByteArray) : (quoB x f).data.toList.drop 1 = dbl x f.data.toList ++ [x] := by rw [quoB_list]; rfl
theorem scB_quo (x : UInt8) (f : ByteArray) : scB x (quoB x f) = f := of_lists (by rw [scB_list, quoB_drop, sc_dbl])
theorem fit_quo (x : UInt8) (f : ByteArray) : fitB x (quoB x f) = true := by unfold fitB; rw [scB_quo]; exact decide_eq_true rfl
theorem beg_quo (x : UInt8) (f : ByteArray) : begB x (quoB x f) = true := by
  unfold begB Lib.hasPrefix
  rw [quoB_list]
  unfold quo
  simp [List.isPrefixOf]
theorem unq_quo (p q : Nat) (f : ByteArray) : unqV p q (quoB (toB q) f) = (f, true, 0) := by
  unfold unqV
  rw [beg_quo, if_pos rfl, fit_quo, if_pos rfl, scB_quo]
theorem beg_bare {q : Nat} {f : ByteArray} (hq : q < 256) (h : hasC f q = false) : begB (toB q) f = false := by
  cases c : begB (toB q) f
  · rfl
  · obtain ⟨t, ht⟩ := beg_yes c
    have h0 : 0 < f.size := by rw [← size_list, ht]; simp
    have hb := hasC_not h 0 h0
    refine absurd ?_ hb
    rw [byt_list, ht]
    have := toB_toNat (q : Int) (by omega) (by omega)
    simpa using this
theorem unq_bare {p q : Nat} {f : ByteArray} {al fi : Bool} (hq : q < 256) (h : whyN p q f al fi = 0) : unqV p q f = (f, false, 0) := by
  unfold whyN at h
  split at h
  · cases h
  · rename_i c1
    split at h
    · cases h
    · rename_i c2
      split at h
      · cases h
      · rename_i c3
        unfold unqV
        rw [beg_bare hq (by simpa using c2), if_neg Bool.false_ne_true]
        have hw : whyN p q f false false = 0 := by
          unfold whyN
          rw [if_neg c1, if_neg c2, if_neg c3, if_neg (fun e => by cases e.2), if_neg (fun e => by cases e.1)]
        rw [if_pos hw]
theorem unq_wri {p q : Nat} (f : ByteArray) (al fi : Bool) (hq : q < 256) : unqV p q (wriB p q f al fi) = (f, if whyN p q f al fi = 0 then false else true, 0) := by
  unfold wriB
  by_cases h : whyN p q f al fi = 0
  · rw [if_pos h, if_pos h, unq_bare hq h]
  · rw [if_neg h, if_neg h, unq_quo]

def itsQ : ByteArray := ⟨#[39, 105, 116, 39, 39, 115, 39]⟩
def itsB : ByteArray := ⟨#[105, 116, 39, 115]⟩
theorem its_quo : quoB (toB (39 : Nat)) itsB = itsQ := of_lists (by rw [quoB_list]; kernel_rfl)

set_option maxHeartbeats 2000000 in
theorem awake_any (w : World) (hM : MaxL w) : Calls Tryd.prog 9 #[] w (Gives (.bool true) w) := by
  apply Gives.of
  have hcell := fun (W : World) (x : Later W) => x.cell
  have HQ : Hid (∀ W, MaxL W → Calls Tryd.prog 12 #[.agg #[.int .u8 44, .int .u8 39, .int .i64 1], .string ⟨#[105, 116, 39, 115]⟩] W (Gives (.string ⟨#[39, 105, 116, 39, 39, 115, 39]⟩) W)) := Lib.hid (fun W h => by
    have := progQuoted_any 44 39 1 itsB W h (by decide) (by omega)
    rw [its_quo] at this
    exact this)
  have HU : Hid (∀ W, MaxL W → Calls Tryd.prog 16 #[.agg #[.int .u8 44, .int .u8 39, .int .i64 1], .string ⟨#[39, 105, 116, 39, 39, 115, 39]⟩] W (Gives (.tuple #[.string ⟨#[105, 116, 39, 115]⟩, .bool true, .int .i64 0]) W)) := Lib.hid (fun W h => by
    have := unquote_any 44 39 1 itsQ W h (by decide) (by omega) (by omega)
    rw [← its_quo, unq_quo, its_quo] at this
    exact this)
  go_enter Tryd.func9, Tryd.ntmps9
  go_wp2_with (first | (go_at_call 12; (first | (with_reducible refine (later_call _ (HQ.out _ (by (repeat (first | assumption | (with_reducible refine MaxL.later _ ?_) | (with_reducible refine MaxL.alloc ?_ _) | (with_reducible refine MaxL.drew ?_)))))).mono ?_) | (with_reducible refine (call_later (HQ.out _ (by (repeat (first | assumption | (with_reducible refine MaxL.later _ ?_) | (with_reducible refine MaxL.alloc ?_ _) | (with_reducible refine MaxL.drew ?_)))))).mono ?_)); rintro e w' ⟨rfl, x, rfl⟩) | (go_at_call 16; (first | (with_reducible refine (later_call _ (HU.out _ (by (repeat (first | assumption | (with_reducible refine MaxL.later _ ?_) | (with_reducible refine MaxL.alloc ?_ _) | (with_reducible refine MaxL.drew ?_)))))).mono ?_) | (with_reducible refine (call_later (HU.out _ (by (repeat (first | assumption | (with_reducible refine MaxL.later _ ?_) | (with_reducible refine MaxL.alloc ?_ _) | (with_reducible refine MaxL.drew ?_)))))).mono ?_)); rintro e w' ⟨rfl, x, rfl⟩))
  go_ret
  refine ⟨rfl, ?_⟩
  (repeat (first | (with_reducible exact Below.refl _ _) | (with_reducible refine later_below _ ?_) | (with_reducible refine alloc_below ?_ _) | (with_reducible refine Below.drew ?_) | (refine Below.setCell ?_ (by first | exact Nat.le_refl _ | (simp; done) | (simp; omega) | omega) _)))

end Go.Proofs.YtajedohgcepkiaaDoor
