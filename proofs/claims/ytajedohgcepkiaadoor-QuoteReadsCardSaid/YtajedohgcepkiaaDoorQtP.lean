/-
  Walks: fields quoted, and as written, by the program; how many bytes that is.
-/
import Derived.Test.YtajedohgcepkiaaDoorRows
import Derived.Test.YtajedohgcepkiaaDoorLawT
import Derived.Test.YtajedohgcepkiaaDoorNdP
import Derived.Test.YtajedohgcepkiaaDoorNdSh
import Derived.Test.YtajedohgcepkiaaDoorQtK
import Derived.Lib.SplitLaws
namespace Go.Proofs.YtajedohgcepkiaaDoor
open Go.RowKit Qt

theorem ofSh {f : FuncId} {args : Array Value} {v : Value} {w : World} (h : Calls Tryd.prog f args w fun e w' => e = .returned v ∧ Below w.heap.size w w') : Calls Tryd.prog f args w (Gives v w) := h
theorem ofSame {f : FuncId} {args : Array Value} {v : Value} {w : World} (h : Calls Tryd.prog f args w fun e w' => e = .returned v ∧ w' = w) : Calls Tryd.prog f args w (Gives v w) :=
  h.mono fun _ _ ⟨h1, h2⟩ => ⟨h1, h2 ▸ Below.refl _ _⟩

def unpB (q : UInt8) (f : ByteArray) : ByteArray := ⟨(unp q f.data.toList).toArray⟩
theorem unpB_list (q : UInt8) (f : ByteArray) : (unpB q f).data.toList = unp q f.data.toList := by unfold unpB; rfl

theorem repl_one (x : UInt8) (f : ByteArray) (w : World) (hM : MaxL w) (hs : f.size ≤ 1000000) : Calls Tryd.prog 23 #[.string f, .string ⟨#[x]⟩, .string ⟨#[x, x]⟩] w (Gives (.string (dblB x f)) w) := by
  obtain ⟨m, hm⟩ := hM
  have hc := Lib.countB_le ⟨#[x]⟩ (by show 1 ≤ 1; omega) f.size f (Nat.le_refl _)
  refine (ofSh (Sh.strings_ReplaceAll f ⟨#[x]⟩ ⟨#[x, x]⟩ m w (by omega) hm (by show 1 ≤ 1; omega) (by show f.size + Lib.countB f ⟨#[x]⟩ * 2 ≤ _; omega))).mono fun e w' h => ?_
  rw [show Lib.replaceAll f.data.toList (⟨#[x]⟩ : ByteArray).data.toList (⟨#[x, x]⟩ : ByteArray).data.toList = dbl x f.data.toList from all_one x _] at h
  exact h
theorem repl_two (x : UInt8) (f : ByteArray) (w : World) (hM : MaxL w) (hs : f.size ≤ 1000000) : Calls Tryd.prog 23 #[.string f, .string ⟨#[x, x]⟩, .string ⟨#[x]⟩] w (Gives (.string (unpB x f)) w) := by
  obtain ⟨m, hm⟩ := hM
  have hc := Lib.countB_le ⟨#[x, x]⟩ (by show 1 ≤ 2; omega) f.size f (Nat.le_refl _)
  refine (ofSh (Sh.strings_ReplaceAll f ⟨#[x, x]⟩ ⟨#[x]⟩ m w (by omega) hm (by show 1 ≤ 2; omega) (by show f.size + Lib.countB f ⟨#[x, x]⟩ * 1 ≤ _; omega))).mono fun e w' h => ?_
  rw [show Lib.replaceAll f.data.toList (⟨#[x, x]⟩ : ByteArray).data.toList (⟨#[x]⟩ : ByteArray).data.toList = unp x f.data.toList from all_two x _] at h
  exact h
theorem count_one (x : UInt8) (f : ByteArray) (w : World) : Calls Tryd.prog 25 #[.string f, .string ⟨#[x]⟩] w (Gives (.int .i64 (f.data.toList.count x)) w) := ofSame (Sh.strings_Count_one f x w)
theorem pre_one (x : UInt8) (f : ByteArray) (w : World) : Calls Tryd.prog 26 #[.string f, .string ⟨#[x]⟩] w (Gives (.bool (Lib.hasPrefix f.data.toList [x])) w) := ofSame (Sh.strings_HasPrefix f ⟨#[x]⟩ w)
theorem suf_one (x : UInt8) (f : ByteArray) (w : World) (hs : f.size ≤ 1000000) : Calls Tryd.prog 40 #[.string f, .string ⟨#[x]⟩] w (Gives (.bool (Lib.hasSuffix f.data.toList [x])) w) := ofSame (Sh.strings_HasSuffix f ⟨#[x]⟩ w (by omega))

theorem dblB_le (x : UInt8) (f : ByteArray) : (dblB x f).size ≤ 2 * f.size := by
  have h := dbl_len x f.data.toList
  rw [← dblB_list, Array.length_toList, Array.length_toList, ByteArray.size_data, ByteArray.size_data] at h
  have hc := List.count_le_length (a := x) (l := f.data.toList)
  rw [Array.length_toList, ByteArray.size_data] at hc
  omega
theorem once_ext (x : UInt8) : (⟨#[x, x]⟩ : ByteArray).extract 0 1 = ⟨#[x]⟩ := byt_inj rfl (fun i hi => by
  have hi' : i < 1 := hi
  obtain rfl : i = 0 := by omega
  rw [byt_extract, if_pos (by omega)]
  rfl)

set_option maxRecDepth 100000 in
theorem quotes_any (p q : Nat) (n : Int) (w : World) (hq : q < 256) : Calls Tryd.prog 22 #[.agg #[.int .u8 p, .int .u8 q, .int .i64 n]] w (Gives (.tuple #[.string ⟨#[toB q]⟩, .string ⟨#[toB q, toB q]⟩]) w) := by
  apply Gives.of
  have hcell := fun (W : World) (x : Later W) => x.cell
  have hcv := fun W => convert_ints (P := Tryd.prog) W 56 9 5 Tryd.underlying56 Tryd.underlying5 Tryd.underlying9
  have k := fun W => hcv W [(q : Int), (q : Int)] (by simp; omega) 2 rfl _ rfl
  clear hcv hq
  simp only [List.map] at k
  have k1 := k (w.alloc (.cells #[.int .u8 p, .int .u8 q, .int .i64 n] 23))
  rw [show (w.alloc (.cells #[.int .u8 p, .int .u8 q, .int .i64 n] 23)).heap.size = w.heap.size + 1 by simp] at k1
  clear k
  have e1 := once_ext (toB q)
  go_enter Tryd.func22, Tryd.ntmps22
  go_wp2
  refine bodyPost_ret (v := .tuple #[.string ⟨#[toB q]⟩, .string ⟨#[toB q, toB q]⟩]) (by simp (maxDischargeDepth := 8) [results, Tryd.results22, go_sem]) rfl ⟨rfl, ?_⟩
  go_grown

set_option maxHeartbeats 1000000 in
theorem progQuoted_any (p q : Nat) (n : Int) (f : ByteArray) (w : World) (hM : MaxL w) (hs : f.size ≤ 1000000) (hq : q < 256) :
    Calls Tryd.prog 12 #[.agg #[.int .u8 p, .int .u8 q, .int .i64 n], .string f] w (Gives (.string (quoB (toB q) f)) w) := by
  apply Gives.of
  have hcell := fun (W : World) (x : Later W) => x.cell
  have HQ := Lib.hid (fun W => quotes_any p q n W hq)
  have HR := Lib.hid (fun W (h : MaxL W) => repl_one (toB q) f W h hs)
  have hd1 := dblB_le (toB q) f
  have hd2 : (⟨#[toB q]⟩ ++ dblB (toB q) f : ByteArray).size = 1 + (dblB (toB q) f).size := ByteArray.size_append
  have hd3 : (⟨#[toB q]⟩ : ByteArray).size = 1 := rfl
  clear hq
  go_enter Tryd.func12, Tryd.ntmps12
  go_wp2_with (first | (go_at_call 22; (first | (with_reducible refine (later_call _ (HQ.out _)).mono ?_) | (with_reducible refine (call_later (HQ.out _)).mono ?_)); rintro e w' ⟨rfl, x, rfl⟩) | (go_at_call 23; (first | (with_reducible refine (later_call _ (HR.out _ (by (repeat (first | assumption | (with_reducible refine MaxL.later _ ?_) | (with_reducible refine MaxL.alloc ?_ _) | (with_reducible refine MaxL.drew ?_)))))).mono ?_) | (with_reducible refine (call_later (HR.out _ (by (repeat (first | assumption | (with_reducible refine MaxL.later _ ?_) | (with_reducible refine MaxL.alloc ?_ _) | (with_reducible refine MaxL.drew ?_)))))).mono ?_)); rintro e w' ⟨rfl, x, rfl⟩))
  go_ret
  refine ⟨ret_string (append_assoc _ _ _), ?_⟩
  (repeat (first | (with_reducible exact Below.refl _ _) | (with_reducible refine later_below _ ?_) | (with_reducible refine alloc_below ?_ _) | (with_reducible refine Below.drew ?_) | (refine Below.setCell ?_ (by first | exact Nat.le_refl _ | (simp; done) | (simp; omega) | omega) _)))

/-- A field as written. -/
def wriB (p q : Nat) (f : ByteArray) (al fi : Bool) : ByteArray := if whyN p q f al fi = 0 then f else quoB (toB q) f

set_option maxHeartbeats 1000000 in
theorem written_any (p q : Nat) (n : Int) (f : ByteArray) (al fi : Bool) (w : World) (hM : MaxL w) (hs : f.size ≤ 1000000) (hp : p < 256) (hq : q < 256) :
    Calls Tryd.prog 14 #[.agg #[.int .u8 p, .int .u8 q, .int .i64 n], .string f, .bool al, .bool fi] w (Gives (.string (wriB p q f al fi)) w) := by
  apply Gives.of
  have hcell := fun (W : World) (x : Later W) => x.cell
  have HQ := Lib.hid (fun W (h : MaxL W) => progQuoted_any p q n f W h hs hq)
  have HN := Lib.hid (fun W => need_any p q n f al fi W hs hp hq)
  unfold wriB
  clear hs hq hp
  by_cases h : whyN p q f al fi = 0
  · rw [decide_eq_false (show ¬ whyN p q f al fi ≠ 0 from fun c => c h)] at HN
    rw [if_pos h]
    clear h
    go_enter Tryd.func14, Tryd.ntmps14
    go_wp2_with (first | (go_at_call 24; (first | (with_reducible refine (later_call _ (HN.out _)).mono ?_) | (with_reducible refine (call_later (HN.out _)).mono ?_)); rintro e w' ⟨rfl, x, rfl⟩) | (go_at_call 12; (first | (with_reducible refine (later_call _ (HQ.out _ (by (repeat (first | assumption | (with_reducible refine MaxL.later _ ?_) | (with_reducible refine MaxL.alloc ?_ _) | (with_reducible refine MaxL.drew ?_)))))).mono ?_) | (with_reducible refine (call_later (HQ.out _ (by (repeat (first | assumption | (with_reducible refine MaxL.later _ ?_) | (with_reducible refine MaxL.alloc ?_ _) | (with_reducible refine MaxL.drew ?_)))))).mono ?_)); rintro e w' ⟨rfl, x, rfl⟩))
    go_ret
    refine ⟨rfl, ?_⟩
    (repeat (first | (with_reducible exact Below.refl _ _) | (with_reducible refine later_below _ ?_) | (with_reducible refine alloc_below ?_ _) | (with_reducible refine Below.drew ?_) | (refine Below.setCell ?_ (by first | exact Nat.le_refl _ | (simp; done) | (simp; omega) | omega) _)))
  · rw [decide_eq_true h] at HN
    rw [if_neg h]
    clear h
    go_enter Tryd.func14, Tryd.ntmps14
    go_wp2_with (first | (go_at_call 24; (first | (with_reducible refine (later_call _ (HN.out _)).mono ?_) | (with_reducible refine (call_later (HN.out _)).mono ?_)); rintro e w' ⟨rfl, x, rfl⟩) | (go_at_call 12; (first | (with_reducible refine (later_call _ (HQ.out _ (by (repeat (first | assumption | (with_reducible refine MaxL.later _ ?_) | (with_reducible refine MaxL.alloc ?_ _) | (with_reducible refine MaxL.drew ?_)))))).mono ?_) | (with_reducible refine (call_later (HQ.out _ (by (repeat (first | assumption | (with_reducible refine MaxL.later _ ?_) | (with_reducible refine MaxL.alloc ?_ _) | (with_reducible refine MaxL.drew ?_)))))).mono ?_)); rintro e w' ⟨rfl, x, rfl⟩))
    go_ret
    refine ⟨rfl, ?_⟩
    (repeat (first | (with_reducible exact Below.refl _ _) | (with_reducible refine later_below _ ?_) | (with_reducible refine alloc_below ?_ _) | (with_reducible refine Below.drew ?_) | (refine Below.setCell ?_ (by first | exact Nat.le_refl _ | (simp; done) | (simp; omega) | omega) _)))

set_option maxHeartbeats 1000000 in
theorem size_any (p q : Nat) (n : Int) (f : ByteArray) (al fi : Bool) (w : World) (hs : f.size ≤ 1000000) (hp : p < 256) (hq : q < 256) :
    Calls Tryd.prog 15 #[.agg #[.int .u8 p, .int .u8 q, .int .i64 n], .string f, .bool al, .bool fi] w (Gives (.int .i64 (wriB p q f al fi).size) w) := by
  apply Gives.of
  have hcell := fun (W : World) (x : Later W) => x.cell
  have HQ := Lib.hid (fun W => quotes_any p q n W hq)
  have HC := Lib.hid (fun W => count_one (toB q) f W)
  have HN := Lib.hid (fun W => need_any p q n f al fi W hs hp hq)
  have hz := quoB_size (toB q) f
  have hc := List.count_le_length (a := toB q) (l := f.data.toList)
  rw [Array.length_toList, ByteArray.size_data] at hc
  unfold wriB
  by_cases h : whyN p q f al fi = 0
  · rw [decide_eq_false (show ¬ whyN p q f al fi ≠ 0 from fun c => c h)] at HN
    rw [if_pos h]
    clear h hz hc hs hp hq
    go_enter Tryd.func15, Tryd.ntmps15
    go_wp2_with (first | (go_at_call 24; (first | (with_reducible refine (later_call _ (HN.out _)).mono ?_) | (with_reducible refine (call_later (HN.out _)).mono ?_)); rintro e w' ⟨rfl, x, rfl⟩))
    go_ret
    refine ⟨rfl, ?_⟩
    (repeat (first | (with_reducible exact Below.refl _ _) | (with_reducible refine later_below _ ?_) | (with_reducible refine alloc_below ?_ _) | (with_reducible refine Below.drew ?_) | (refine Below.setCell ?_ (by first | exact Nat.le_refl _ | (simp; done) | (simp; omega) | omega) _)))
  · rw [decide_eq_true h] at HN
    rw [if_neg h]
    generalize f.data.toList.count (toB q) = c at HC hz hc
    have hw1 : wrap64 ((f.size : Int) + (c : Int)) = f.size + c := by unfold wrap64; omega
    have hw2 : wrap64 ((f.size : Int) + (c : Int) + 2) = f.size + c + 2 := by unfold wrap64; omega
    have HZ := Lib.hid hz
    clear h hz hc hs hp hq
    go_enter Tryd.func15, Tryd.ntmps15
    go_wp2_with (first | (go_at_call 24; (first | (with_reducible refine (later_call _ (HN.out _)).mono ?_) | (with_reducible refine (call_later (HN.out _)).mono ?_)); rintro e w' ⟨rfl, x, rfl⟩) | (go_at_call 22; (first | (with_reducible refine (later_call _ (HQ.out _)).mono ?_) | (with_reducible refine (call_later (HQ.out _)).mono ?_)); rintro e w' ⟨rfl, x, rfl⟩) | (go_at_call 25; (first | (with_reducible refine (later_call _ (HC.out _)).mono ?_) | (with_reducible refine (call_later (HC.out _)).mono ?_)); rintro e w' ⟨rfl, x, rfl⟩))
    go_ret
    refine ⟨?_, ?_⟩
    · rw [HZ.out]
      simp [hw2]
    · (repeat (first | (with_reducible exact Below.refl _ _) | (with_reducible refine later_below _ ?_) | (with_reducible refine alloc_below ?_ _) | (with_reducible refine Below.drew ?_) | (refine Below.setCell ?_ (by first | exact Nat.le_refl _ | (simp; done) | (simp; omega) | omega) _)))

end Go.Proofs.YtajedohgcepkiaaDoor
