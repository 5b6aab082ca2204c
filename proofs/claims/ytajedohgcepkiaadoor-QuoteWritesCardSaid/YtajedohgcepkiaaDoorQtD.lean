/-
  Walks: fields quoted, and as written, by the document; the field that a text is.
-/
import Derived.Test.YtajedohgcepkiaaDoorRows
import Derived.Test.YtajedohgcepkiaaDoorNdR
import Derived.Test.YtajedohgcepkiaaDoorSame
import Derived.Test.YtajedohgcepkiaaDoorQtN
namespace Go.Proofs.YtajedohgcepkiaaDoor
open Go.RowKit Qt Nd

theorem one9_any (b : Bool) (w : World) : Calls Tryd.prog 11 #[.bool b] w (Gives (.int .i64 (one01 b)) w) := by
  apply Gives.of
  unfold one01
  cases b
  · go_enter Tryd.func11, Tryd.ntmps11
    go_wp2
    go_ret
    exact ⟨rfl, Below.refl _ _⟩
  · go_enter Tryd.func11, Tryd.ntmps11
    go_wp2
    go_ret
    exact ⟨rfl, Below.refl _ _⟩

theorem toB_nat {q : Nat} (hq : q < 256) : (toB q).toNat = q := by
  have := toB_toNat (q : Int) (by omega) (by omega)
  omega
theorem ext_one (f : ByteArray) (k : Nat) (h : k < f.size) : f.extract k (k + 1) = ⟨#[UInt8.ofNat (bytN f k)]⟩ := by
  refine byt_inj (by rw [ByteArray.size_extract]; show min (k + 1) f.size - k = 1; omega) (fun i hi => ?_)
  rw [ByteArray.size_extract] at hi
  obtain rfl : i = 0 := by omega
  rw [byt_extract, if_pos (by omega), Nat.add_zero, byt_one, ofNat_byt, bytN_is]
theorem quo_twice {x : UInt8} {f : ByteArray} {k : Nat} (h : k < f.size) (e : bytN f k = x.toNat) :
    (⟨#[x]⟩ ++ dblB x (f.extract 0 k)) ++ ⟨#[x]⟩ ++ f.extract k (k + 1) = ⟨#[x]⟩ ++ dblB x (f.extract 0 (k + 1)) := by
  have e' : UInt8.ofNat (bytN f k) = x := UInt8.toNat_inj.1 (by rw [ofNat_byt, e])
  rw [ext_one f k h, dblB_snoc x f k h, e']
  unfold two
  rw [if_pos rfl, append_assoc, append_assoc]
  rfl
theorem quo_once {x : UInt8} {f : ByteArray} {k : Nat} (h : k < f.size) (e : bytN f k ≠ x.toNat) :
    (⟨#[x]⟩ ++ dblB x (f.extract 0 k)) ++ f.extract k (k + 1) = ⟨#[x]⟩ ++ dblB x (f.extract 0 (k + 1)) := by
  rw [ext_one f k h, dblB_snoc x f k h]
  unfold two
  rw [if_neg (fun c => e (by rw [← ofNat_byt, c])), append_assoc]

set_option maxRecDepth 100000 in
set_option maxHeartbeats 2000000 in
theorem refQuoted_any (p q : Nat) (n : Int) (f : ByteArray) (w : World) (hs : f.size ≤ 1000000) (hq : q < 256) :
    Calls Tryd.prog 13 #[.agg #[.int .i64 p, .int .i64 q, .int .i64 n], .string f] w (Gives (.string (quoB (toB q) f)) w) := by
  apply Gives.of
  have hcell := fun (W : World) (x : Later W) => x.cell
  have hcv := fun W => convert_ints (P := Tryd.prog) W 56 9 5 Tryd.underlying56 Tryd.underlying5 Tryd.underlying9
  have k := fun W => hcv W [(q : Int)] (by simp; omega) 1 rfl _ rfl
  clear hcv
  simp only [List.map] at k
  have k1 := k (w.alloc (.cells #[.int .i64 p, .int .i64 q, .int .i64 n] 26))
  rw [show (w.alloc (.cells #[.int .i64 p, .int .i64 q, .int .i64 n] 26)).heap.size = w.heap.size + 1 by simp] at k1
  clear k
  have hw : IntKind.u8.wrap (q : Int) = q := by unfold IntKind.wrap; simp [IntKind.bits, IntKind.signed]; omega
  have hx := toB_nat hq
  obtain ⟨x, hxd⟩ : ∃ x, toB (q : Int) = x := ⟨_, rfl⟩
  rw [hxd] at hx k1 ⊢
  have hx1 : (⟨#[x]⟩ : ByteArray).size = 1 := rfl
  clear hq hxd
  have HD := Lib.hid (dblB_le x)
  have HX := Lib.hid hx
  clear hx
  go_enter Tryd.func13, Tryd.ntmps13
  go_wp2
  obtain ⟨W0, hW0⟩ : ∃ W0, (w.alloc (.cells #[.int .i64 p, .int .i64 q, .int .i64 n] 26)) = W0 := ⟨_, rfl⟩
  have hbx : W0.cell? ⟨w.heap.size, 1, none⟩ = some (.int .i64 q) := by rw [← hW0]; exact (Box.new w 26 #[.int .i64 p, .int .i64 q, .int .i64 n]).cell 1
  have hlt : w.heap.size < W0.heap.size := by rw [← hW0]; simp
  have hbw : Below w.heap.size w W0 := by rw [← hW0]; exact (Below.refl _ _).alloc (Nat.le_refl _) _
  go_loopw [6, 7] (fun sv iv (wr : World) => ∃ (S : ByteArray) (k : Nat), k ≤ f.size ∧ sv = .string S ∧ iv = .int .i64 k ∧ S = ⟨#[x]⟩ ++ dblB x (f.extract 0 k) ∧ ∃ y : Later W0, wr = y.w) (fun _ iv _ => f.size - (intOf iv).toNat)
  case atStart => exact ⟨⟨#[x]⟩, 0, by omega, rfl, rfl, by rw [extract_none, dblB_none, append_none], ⟨⟨_, by rw [← hW0]; exact (Below.refl _ _).alloc (Nat.le_refl _) _⟩, rfl⟩⟩
  case round =>
    obtain ⟨S, k, hk, rfl, rfl, hS, y, rfl⟩ := hrel
    have hz : S.size ≤ 2000001 := by
      have h1 := HD.out (f.extract 0 k)
      rw [ByteArray.size_extract] at h1
      rw [hS, ByteArray.size_append]
      omega
    have HS := Lib.hid hS
    clear hS
    by_cases c1 : k < f.size
    · have i1 : (k : Int) < (f.size : Int) := by omega
      have i2 : (0 : Int) ≤ (k : Int) := by omega
      have i3 : (k : Int) ≤ (k : Int) + 1 := by omega
      have i4 : (k : Int) + 1 ≤ (f.size : Int) := by omega
      have hw1 : wrap64 ((k : Int) + 1) = (k : Int) + 1 := by unfold wrap64; omega
      have b1 := byt_eq f k c1
      have hwb : wrap64 (byt f k) = byt f k := by have := byt_range f k; unfold wrap64; omega
      have hez : (f.extract k (k + 1)).size = 1 := by rw [ByteArray.size_extract]; omega
      have hsz1 : (S ++ ⟨#[x]⟩ : ByteArray).size = S.size + 1 := ByteArray.size_append
      by_cases c2 : byt f k = (q : Int)
      · have e2 : (byt f k == (q : Int)) = true := by simp [c2]
        have HB := Lib.hid c2
        clear c2
        go_wp2
        refine wp_region_anch y (by kernel_rfl) (by kernel_rfl) ?_
        repeat (go_big_quiet_step (fail))
        refine wpQuiet_nil ?_
        rintro w' ⟨z, rfl⟩
        go_wp2
        go_roundw
        case rel => exact ⟨_, k + 1, by omega, rfl, by go_num, (by rw [HS.out]; exact quo_twice c1 (by rw [HX.out]; have := HB.out; have h2 := bytN_is f k; omega)), z, rfl⟩
        case measure => simp [intOf]; omega
      · have e2 : (byt f k == (q : Int)) = false := by simp [c2]
        have HB := Lib.hid c2
        clear c2
        go_wp2
        refine wp_region_anch y (by kernel_rfl) (by kernel_rfl) ?_
        repeat (go_big_quiet_step (fail))
        refine wpQuiet_nil ?_
        rintro w' ⟨z, rfl⟩
        go_wp2
        go_roundw
        case rel => exact ⟨_, k + 1, by omega, rfl, by go_num, (by rw [HS.out]; exact quo_once c1 (by rw [HX.out]; have := HB.out; have h2 := bytN_is f k; omega)), z, rfl⟩
        case measure => simp [intOf]; omega
    · obtain rfl : k = f.size := by omega
      have i1 : ¬ (f.size : Int) < (f.size : Int) := by omega
      go_wp2
      go_ret
      refine ⟨ret_string (by rw [HS.out, extract_all, append_assoc]; rfl), hbw.trans (y.below.mono (by omega))⟩

set_option maxHeartbeats 1000000 in
theorem refWritten_any (p q : Nat) (n : Int) (f : ByteArray) (al fi : Bool) (w : World) (hs : f.size ≤ 1000000) (hq : q < 256) :
    Calls Tryd.prog 10 #[.agg #[.int .i64 p, .int .i64 q, .int .i64 n], .string f, .int .i64 (one01 al), .int .i64 (one01 fi)] w (Gives (.string (wriB p q f al fi)) w) := by
  apply Gives.of
  have hcell := fun (W : World) (x : Later W) => x.cell
  have HQ := Lib.hid (fun W => refQuoted_any p q n f W hs hq)
  have HN := Lib.hid (fun W => refWhy_any p q n f al fi W (by unfold maxLen; omega))
  unfold wriB
  clear hs hq
  generalize one01 al = a1 at HN ⊢
  generalize one01 fi = f1 at HN ⊢
  generalize whyN p q f al fi = N at HN ⊢
  by_cases h : N = 0
  · subst h
    rw [if_pos rfl]
    go_enter Tryd.func10, Tryd.ntmps10
    go_wp2_with (first | (go_at_call 21; (first | (with_reducible refine (later_call _ (HN.out _)).mono ?_) | (with_reducible refine (call_later (HN.out _)).mono ?_)); rintro e w' ⟨rfl, x, rfl⟩) | (go_at_call 13; (first | (with_reducible refine (later_call _ (HQ.out _)).mono ?_) | (with_reducible refine (call_later (HQ.out _)).mono ?_)); rintro e w' ⟨rfl, x, rfl⟩))
    go_ret
    refine ⟨rfl, ?_⟩
    (repeat (first | (with_reducible exact Below.refl _ _) | (with_reducible refine later_below _ ?_) | (with_reducible refine alloc_below ?_ _) | (with_reducible refine Below.drew ?_) | (refine Below.setCell ?_ (by first | exact Nat.le_refl _ | (simp; done) | (simp; omega) | omega) _)))
  · have h1 : decide ((0 : Int) < (N : Int)) = true := decide_eq_true (by omega)
    have h2 : (0 : Int) < (N : Int) := by omega
    rw [if_neg h]
    clear h
    go_enter Tryd.func10, Tryd.ntmps10
    go_wp2_with (first | (go_at_call 21; (first | (with_reducible refine (later_call _ (HN.out _)).mono ?_) | (with_reducible refine (call_later (HN.out _)).mono ?_)); rintro e w' ⟨rfl, x, rfl⟩) | (go_at_call 13; (first | (with_reducible refine (later_call _ (HQ.out _)).mono ?_) | (with_reducible refine (call_later (HQ.out _)).mono ?_)); rintro e w' ⟨rfl, x, rfl⟩))
    go_ret
    refine ⟨rfl, ?_⟩
    (repeat (first | (with_reducible exact Below.refl _ _) | (with_reducible refine later_below _ ?_) | (with_reducible refine alloc_below ?_ _) | (with_reducible refine Below.drew ?_) | (refine Below.setCell ?_ (by first | exact Nat.le_refl _ | (simp; done) | (simp; omega) | omega) _)))

end Go.Proofs.YtajedohgcepkiaaDoor
