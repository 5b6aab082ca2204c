/-
  The law WholeParses returns true for every dialect, all limits and every text. Conditions: none.
-/
import Derived.Test.YtdkdbmiafnadmaaRows
import Derived.Test.YtdkdbmiafnadmaaPse
import Derived.Test.YtdkdbmiafnadmaaLimC
import Derived.Test.YtdkdbmiafnadmaaRefW
import Derived.Test.YtdkdbmiafnadmaaAwk
import Derived.Test.YtdkdbmiafnadmaaOpenD
import Derived.Test.YtdkdbmiafnadmaaOpenL
import Derived.Deep.RegionHeld
import Derived.WalkKit
import Derived.Lib.Hide
namespace Go.Proofs.Ytdkdbmiafnadmaa
open Go.ChangeShapes Go.WideShapes Go.ChangeAt Go.RowKit Go.Joins


theorem fits_any (a b c u : Int) (w : World) :
    Calls Try.prog 9 #[.agg #[.int .i64 a, .int .i64 b, .int .i64 c, .int .i64 u]] w (Gives (.bool (fitsB a b c)) w) := by
  apply Gives.of
  have i0 : ∀ w, (Instr.index 56 (.agg #[.int .i64 a, .int .i64 b, .int .i64 c]) (.int .i64 0)).run Try.prog w = .ok (.int .i64 a) w := fun _ => by kernel_rfl
  have i1 : ∀ w, (Instr.index 56 (.agg #[.int .i64 a, .int .i64 b, .int .i64 c]) (.int .i64 1)).run Try.prog w = .ok (.int .i64 b) w := fun _ => by kernel_rfl
  have i2 : ∀ w, (Instr.index 56 (.agg #[.int .i64 a, .int .i64 b, .int .i64 c]) (.int .i64 2)).run Try.prog w = .ok (.int .i64 c) w := fun _ => by kernel_rfl
  go_enter Try.func9, Try.ntmps9
  go_wp2
  go_rounds 4
  all_goals (go_ret; refine ⟨ret_bool ?_, by go_grown⟩; clear i0 i1 i2; simp [fitsB]; omega)



theorem res_dial {p q : Nat} {n : Int} {l : Lim} {s : ByteArray} (h : okB p q n = false) : resT p q n l s = [] ∧ resK p q n l s = 1 ∧ resA p q n l s = 0 := by
  have hy : whyE p q n l = 1 := by unfold whyE; rw [if_pos h]
  unfold resT resK resA
  rw [hy]
  exact ⟨rfl, rfl, rfl⟩
theorem res_lim {p q : Nat} {n : Int} {l : Lim} {s : ByteArray} (h : okB p q n = true) (hf : fitsB l.fs l.fl l.rs = false) : resT p q n l s = [] ∧ resK p q n l s = 2 ∧ resA p q n l s = 0 := by
  have hy : whyE p q n l = 2 := by unfold whyE; rw [if_neg (by rw [h]; decide), if_pos hf]
  unfold resT resK resA
  rw [hy]
  exact ⟨rfl, rfl, rfl⟩
theorem res_ok {p q : Nat} {n : Int} {l : Lim} {s : ByteArray} (h : okB p q n = true) (hf : fitsB l.fs l.fl l.rs = true) :
    resT p q n l s = recs (finU p q n l (Bom.stripS s)) ∧ resK p q n l s = (finU p q n l (Bom.stripS s)).ft.1 ∧ resA p q n l s = (if (finU p q n l (Bom.stripS s)).ft.1 = 0 then 0 else offN s + (finU p q n l (Bom.stripS s)).ft.2) := by
  have hy : whyE p q n l = 0 := by unfold whyE; rw [if_neg (by rw [h]; decide), if_neg (by rw [hf]; decide)]
  unfold resT resK resA
  rw [hy]
  exact ⟨rfl, rfl, rfl⟩

/-- What stands all through the region that calls the document's parse. -/
abbrev ParS (W1 : World) (db lb p q : Nat) (n : Int) (l : Lim) (w' : World) : Prop :=
  w'.cell? ⟨db, 0, none⟩ = some (.int .u8 p) ∧ w'.cell? ⟨db, 1, none⟩ = some (.int .u8 q) ∧ w'.cell? ⟨db, 2, none⟩ = some (.int .i64 n) ∧
  w'.cell? ⟨lb, 0, none⟩ = some (.int .i64 l.fs) ∧ w'.cell? ⟨lb, 1, none⟩ = some (.int .i64 l.fl) ∧ w'.cell? ⟨lb, 2, none⟩ = some (.int .i64 l.rs) ∧ w'.cell? ⟨lb, 3, none⟩ = some (.bool l.un) ∧
  Below W1.heap.size W1 w'
theorem parS_next {W1 w w' : World} {db lb p q : Nat} {n : Int} {l : Lim} (h : ParS W1 db lb p q n l w) (hb : Below w.heap.size w w') : ParS W1 db lb p q n l w' := by
  obtain ⟨h0, h1, h2, h3, h4, h5, h6, h7⟩ := h
  have g : ∀ {a : Addr} {v : Value}, w.cell? a = some v → w'.cell? a = some v := fun {a v} hc => (hb.cell (World.block_lt_of_cell? w _ hc)).trans hc
  exact ⟨g h0, g h1, g h2, g h3, g h4, g h5, g h6, h7.trans (hb.mono h7.size)⟩

theorem par_long (p q : Nat) (n : Int) (l : Lim) (s : ByteArray) (w : World) (h : 300 < s.size) (hs : s.size ≤ maxLen) : Calls Try.prog 3 #[.agg #[.int .u8 p, .int .u8 q, .int .i64 n], .agg #[.int .i64 l.fs, .int .i64 l.fl, .int .i64 l.rs, .bool l.un], .string s] w (Gives (.bool true) w) := by
  apply Gives.of
  unfold maxLen at hs
  have d1 : decide ((300 : Int) < (s.size : Int)) = true := decide_eq_true (by omega)
  go_enter Try.func3, Try.ntmps3
  go_wp2_with (go_at_call 5; (first | (with_reducible refine (later_call _ (awake_any _)).mono ?_) | (with_reducible refine (call_later (awake_any _)).mono ?_)); rintro e w' ⟨rfl, x, rfl⟩)
  go_ret
  refine ⟨rfl, ?_⟩
  (repeat (first | (with_reducible exact Below.refl _ _) | (with_reducible refine later_below _ ?_) | (with_reducible refine alloc_below ?_ _) | (with_reducible refine Below.drew ?_) | (refine Below.setCell ?_ (by first | exact Nat.le_refl _ | (simp; done) | (simp; omega) | omega) _)))

set_option maxRecDepth 100000 in
set_option maxHeartbeats 8000000 in
theorem par_bad (p q : Nat) (n : Int) (l : Lim) (s : ByteArray) (w : World) (hp : p < 256) (hq : q < 256) (h : s.size ≤ 300) (hok : okB p q n = false) : Calls Try.prog 3 #[.agg #[.int .u8 p, .int .u8 q, .int .i64 n], .agg #[.int .i64 l.fs, .int .i64 l.fl, .int .i64 l.rs, .bool l.un], .string s] w (Gives (.bool true) w) := by
  apply Gives.of
  have hcell := fun (W : World) (x : Later W) => x.cell
  have d1 : decide ((300 : Int) < (s.size : Int)) = false := decide_eq_false (by omega)
  have HP := Lib.hid (fun W => parse_any p q n l s W (by omega))
  have HF := Lib.hid (fun W => ref_any p q n W hp hq)
  have HR := Lib.hid (fun W => hok ▸ right_any p q n W)
  obtain ⟨e1, e2, e3⟩ := res_dial (l := l) (s := s) hok
  unfold ParP at HP
  rw [e1, e2, e3] at HP
  clear e1 e2 e3 hok
  go_enter Try.func3, Try.ntmps3
  go_upto_region 4 with (go_at_call 6; refine (HP.out _).mono ?_; rintro e w1 ⟨v, rfl, ht, hb⟩; have HT := Lib.hid ht; have HB := Lib.hid hb; clear ht hb)
  have hw1 : Below w.heap.size w w1 := (((Below.refl _ _).alloc (Nat.le_refl _) _).alloc (by simp) _).trans (HB.out.mono (by simp; omega))
  have hdb : Box w1 w.heap.size 23 #[.int .u8 p, .int .u8 q, .int .i64 n] := ((Box.new w _ _).alloc _).below HB.out (by simp; omega)
  have hlb : Box w1 (w.heap.size + 1) 25 #[.int .i64 l.fs, .int .i64 l.fl, .int .i64 l.rs, .bool l.un] := (show Box ((w.alloc (.cells #[.int .u8 p, .int .u8 q, .int .i64 n] 23)).alloc (.cells #[.int .i64 l.fs, .int .i64 l.fl, .int .i64 l.rs, .bool l.un] 25)) (w.heap.size + 1) 25 #[.int .i64 l.fs, .int .i64 l.fl, .int .i64 l.rs, .bool l.un] from by simpa using Box.new (w.alloc (.cells #[.int .u8 p, .int .u8 q, .int .i64 n] 23)) 25 #[.int .i64 l.fs, .int .i64 l.fl, .int .i64 l.rs, .bool l.un]).below HB.out (by simp)
  have hfx := Box.new w1 30 #[.int .i64 ((1 : Nat) : Int), .int .i64 ((0 : Nat) : Int)]
  have hal : Below w1.heap.size w1 (w1.alloc (.cells #[.int .i64 ((1 : Nat) : Int), .int .i64 ((0 : Nat) : Int)] 30)) := (Below.refl _ _).alloc (Nat.le_refl _) _
  have ht1 := HT.out.below hal
  have hd1 := hdb.below hal hdb.lt
  have hl1 := hlb.below hal hlb.lt
  have hw2 := hw1.trans (hal.mono hw1.size)
  obtain ⟨fb, hfe⟩ : ∃ fb, w1.heap.size = fb := ⟨_, rfl⟩
  generalize w1.alloc (.cells #[.int .i64 ((1 : Nat) : Int), .int .i64 ((0 : Nat) : Int)] 30) = W1 at hfx ht1 hd1 hl1 hw2 ⊢
  rw [hfe] at hfx ⊢
  obtain ⟨db, hde⟩ : ∃ db, w.heap.size = db := ⟨_, rfl⟩
  obtain ⟨lb, hle⟩ : ∃ lb, w.heap.size + 1 = lb := ⟨_, rfl⟩
  obtain ⟨A, c, rfl, hTc, hcm, hA⟩ := ht1.at_
  clear hTc hcm hA
  have HT1 := Lib.hid ht1
  have HW2 := Lib.hid hw2
  have f0 : W1.cell? ⟨fb, 0, none⟩ = some (.int .i64 ((1 : Nat) : Int)) := hfx.cell 0
  have f1 : W1.cell? ⟨fb, 1, none⟩ = some (.int .i64 ((0 : Nat) : Int)) := hfx.cell 1
  have k0 : W1.cell? ⟨w.heap.size, 0, none⟩ = some (.int .u8 p) := hd1.cell 0
  have k1 : W1.cell? ⟨w.heap.size, 1, none⟩ = some (.int .u8 q) := hd1.cell 1
  have k2 : W1.cell? ⟨w.heap.size, 2, none⟩ = some (.int .i64 n) := hd1.cell 2
  have l0 : W1.cell? ⟨w.heap.size + 1, 0, none⟩ = some (.int .i64 l.fs) := hl1.cell 0
  have l1 : W1.cell? ⟨w.heap.size + 1, 1, none⟩ = some (.int .i64 l.fl) := hl1.cell 1
  have l2 : W1.cell? ⟨w.heap.size + 1, 2, none⟩ = some (.int .i64 l.rs) := hl1.cell 2
  have l3 : W1.cell? ⟨w.heap.size + 1, 3, none⟩ = some (.bool l.un) := hl1.cell 3
  have hlt0 := hd1.lt
  have hlt1 := hl1.lt
  have hlt2 := hfx.lt
  rw [hde] at hlt0 k0 k1 k2
  rw [hle] at hlt1 l0 l1 l2 l3
  rw [hle, hde]
  have HFX := Lib.hid hfx
  have HLE := Lib.hid hle
  clear HT HB HP hw1 hdb hlb hfx hal ht1 hd1 hl1 hw2 hfe hle
  go_wp2_with (first | (go_at_call 8; (first | (with_reducible refine (later_call _ (HF.out _)).mono ?_) | (with_reducible refine (call_later (HF.out _)).mono ?_)); rintro e w' ⟨rfl, x, rfl⟩) | (go_at_call 7; (first | (with_reducible refine (later_call _ (HR.out _)).mono ?_) | (with_reducible refine (call_later (HR.out _)).mono ?_)); rintro e w' ⟨rfl, x, rfl⟩) | (go_at_call 5; (first | (with_reducible refine (later_call _ (awake_any _)).mono ?_) | (with_reducible refine (call_later (awake_any _)).mono ?_)); rintro e w' ⟨rfl, x, rfl⟩))
  go_ret
  refine ⟨rfl, ?_⟩
  exact HW2.out.trans (x.below.mono HW2.out.size)

set_option maxRecDepth 100000 in
set_option maxHeartbeats 8000000 in
theorem par_lim (p q : Nat) (n : Int) (l : Lim) (s : ByteArray) (w : World) (hp : p < 256) (hq : q < 256) (h : s.size ≤ 300) (hok : okB p q n = true) (hf : fitsB l.fs l.fl l.rs = false) : Calls Try.prog 3 #[.agg #[.int .u8 p, .int .u8 q, .int .i64 n], .agg #[.int .i64 l.fs, .int .i64 l.fl, .int .i64 l.rs, .bool l.un], .string s] w (Gives (.bool true) w) := by
  apply Gives.of
  have hcell := fun (W : World) (x : Later W) => x.cell
  have d1 : decide ((300 : Int) < (s.size : Int)) = false := decide_eq_false (by omega)
  have HP := Lib.hid (fun W => parse_any p q n l s W (by omega))
  have HF := Lib.hid (fun W => ref_any p q n W hp hq)
  have HR := Lib.hid (fun W => hok ▸ right_any p q n W)
  have HL : Hid (∀ W : World, Calls Try.prog 10 #[.agg #[.int .i64 l.fs, .int .i64 l.fl, .int .i64 l.rs, .bool l.un]] W (Gives (.agg #[.int .i64 l.fs, .int .i64 l.fl, .int .i64 l.rs, .int .i64 (n01 l.un)]) W)) := Lib.hid (fun W => refLimits_any l.fs l.fl l.rs l.un W)
  have HI := Lib.hid (fun W => hf ▸ fits_any l.fs l.fl l.rs (n01 l.un) W)
  obtain ⟨e1, e2, e3⟩ := res_lim (l := l) (s := s) hok hf
  unfold ParP at HP
  rw [e1, e2, e3] at HP
  clear e1 e2 e3 hok hf
  go_enter Try.func3, Try.ntmps3
  go_upto_region 4 with (go_at_call 6; refine (HP.out _).mono ?_; rintro e w1 ⟨v, rfl, ht, hb⟩; have HT := Lib.hid ht; have HB := Lib.hid hb; clear ht hb)
  have hw1 : Below w.heap.size w w1 := (((Below.refl _ _).alloc (Nat.le_refl _) _).alloc (by simp) _).trans (HB.out.mono (by simp; omega))
  have hdb : Box w1 w.heap.size 23 #[.int .u8 p, .int .u8 q, .int .i64 n] := ((Box.new w _ _).alloc _).below HB.out (by simp; omega)
  have hlb : Box w1 (w.heap.size + 1) 25 #[.int .i64 l.fs, .int .i64 l.fl, .int .i64 l.rs, .bool l.un] := (show Box ((w.alloc (.cells #[.int .u8 p, .int .u8 q, .int .i64 n] 23)).alloc (.cells #[.int .i64 l.fs, .int .i64 l.fl, .int .i64 l.rs, .bool l.un] 25)) (w.heap.size + 1) 25 #[.int .i64 l.fs, .int .i64 l.fl, .int .i64 l.rs, .bool l.un] from by simpa using Box.new (w.alloc (.cells #[.int .u8 p, .int .u8 q, .int .i64 n] 23)) 25 #[.int .i64 l.fs, .int .i64 l.fl, .int .i64 l.rs, .bool l.un]).below HB.out (by simp)
  have hfx := Box.new w1 30 #[.int .i64 ((2 : Nat) : Int), .int .i64 ((0 : Nat) : Int)]
  have hal : Below w1.heap.size w1 (w1.alloc (.cells #[.int .i64 ((2 : Nat) : Int), .int .i64 ((0 : Nat) : Int)] 30)) := (Below.refl _ _).alloc (Nat.le_refl _) _
  have ht1 := HT.out.below hal
  have hd1 := hdb.below hal hdb.lt
  have hl1 := hlb.below hal hlb.lt
  have hw2 := hw1.trans (hal.mono hw1.size)
  obtain ⟨fb, hfe⟩ : ∃ fb, w1.heap.size = fb := ⟨_, rfl⟩
  generalize w1.alloc (.cells #[.int .i64 ((2 : Nat) : Int), .int .i64 ((0 : Nat) : Int)] 30) = W1 at hfx ht1 hd1 hl1 hw2 ⊢
  rw [hfe] at hfx ⊢
  obtain ⟨db, hde⟩ : ∃ db, w.heap.size = db := ⟨_, rfl⟩
  obtain ⟨lb, hle⟩ : ∃ lb, w.heap.size + 1 = lb := ⟨_, rfl⟩
  obtain ⟨A, c, rfl, hTc, hcm, hA⟩ := ht1.at_
  clear hTc hcm hA
  have HT1 := Lib.hid ht1
  have HW2 := Lib.hid hw2
  have f0 : W1.cell? ⟨fb, 0, none⟩ = some (.int .i64 ((2 : Nat) : Int)) := hfx.cell 0
  have f1 : W1.cell? ⟨fb, 1, none⟩ = some (.int .i64 ((0 : Nat) : Int)) := hfx.cell 1
  have k0 : W1.cell? ⟨w.heap.size, 0, none⟩ = some (.int .u8 p) := hd1.cell 0
  have k1 : W1.cell? ⟨w.heap.size, 1, none⟩ = some (.int .u8 q) := hd1.cell 1
  have k2 : W1.cell? ⟨w.heap.size, 2, none⟩ = some (.int .i64 n) := hd1.cell 2
  have l0 : W1.cell? ⟨w.heap.size + 1, 0, none⟩ = some (.int .i64 l.fs) := hl1.cell 0
  have l1 : W1.cell? ⟨w.heap.size + 1, 1, none⟩ = some (.int .i64 l.fl) := hl1.cell 1
  have l2 : W1.cell? ⟨w.heap.size + 1, 2, none⟩ = some (.int .i64 l.rs) := hl1.cell 2
  have l3 : W1.cell? ⟨w.heap.size + 1, 3, none⟩ = some (.bool l.un) := hl1.cell 3
  have hlt0 := hd1.lt
  have hlt1 := hl1.lt
  have hlt2 := hfx.lt
  rw [hde] at hlt0 k0 k1 k2
  rw [hle] at hlt1 l0 l1 l2 l3
  rw [hle, hde]
  have HFX := Lib.hid hfx
  have HLE := Lib.hid hle
  clear HT HB HP hw1 hdb hlb hfx hal ht1 hd1 hl1 hw2 hfe hle
  go_wp2_with (first | (go_at_call 8; (first | (with_reducible refine (later_call _ (HF.out _)).mono ?_) | (with_reducible refine (call_later (HF.out _)).mono ?_)); rintro e w' ⟨rfl, x, rfl⟩) | (go_at_call 7; (first | (with_reducible refine (later_call _ (HR.out _)).mono ?_) | (with_reducible refine (call_later (HR.out _)).mono ?_)); rintro e w' ⟨rfl, x, rfl⟩) | (go_at_call 10; (first | (with_reducible refine (later_call _ (HL.out _)).mono ?_) | (with_reducible refine (call_later (HL.out _)).mono ?_)); rintro e w' ⟨rfl, x, rfl⟩) | (go_at_call 9; (first | (with_reducible refine (later_call _ (HI.out _)).mono ?_) | (with_reducible refine (call_later (HI.out _)).mono ?_)); rintro e w' ⟨rfl, x, rfl⟩) | (go_at_call 5; (first | (with_reducible refine (later_call _ (awake_any _)).mono ?_) | (with_reducible refine (call_later (awake_any _)).mono ?_)); rintro e w' ⟨rfl, x, rfl⟩))
  go_ret
  refine ⟨rfl, ?_⟩
  exact HW2.out.trans (x.below.mono HW2.out.size)

set_option maxRecDepth 100000 in
set_option maxHeartbeats 8000000 in
theorem par_main (p q : Nat) (n : Int) (l : Lim) (s : ByteArray) (w : World) (hp : p < 256) (hq : q < 256) (h : s.size ≤ 300) (hok : okB p q n = true) (hf : fitsB l.fs l.fl l.rs = true) : Calls Try.prog 3 #[.agg #[.int .u8 p, .int .u8 q, .int .i64 n], .agg #[.int .i64 l.fs, .int .i64 l.fl, .int .i64 l.rs, .bool l.un], .string s] w (Gives (.bool true) w) := by
  apply Gives.of
  have hcell := fun (W : World) (x : Later W) => x.cell
  have d1 : decide ((300 : Int) < (s.size : Int)) = false := decide_eq_false (by omega)
  have HP := Lib.hid (fun W => parse_any p q n l s W (by omega))
  have HF := Lib.hid (fun W => ref_any p q n W hp hq)
  have HR := Lib.hid (fun W => hok ▸ right_any p q n W)
  have HL : Hid (∀ W : World, Calls Try.prog 10 #[.agg #[.int .i64 l.fs, .int .i64 l.fl, .int .i64 l.rs, .bool l.un]] W (Gives (.agg #[.int .i64 l.fs, .int .i64 l.fl, .int .i64 l.rs, .int .i64 (n01 l.un)]) W)) := Lib.hid (fun W => refLimits_any l.fs l.fl l.rs l.un W)
  have HI := Lib.hid (fun W => hf ▸ fits_any l.fs l.fl l.rs (n01 l.un) W)
  have hfit : 1 ≤ l.fl ∧ 1 ≤ l.fs ∧ 0 ≤ l.rs := by unfold fitsB at hf; have := of_decide_eq_true hf; omega
  have HQ := Lib.hid (fun W => refParse_any p q n l s W h hok hfit.1 hfit.2.1 hfit.2.2)
  obtain ⟨e1, e2, e3⟩ := res_ok (l := l) (s := s) hok hf
  unfold RefP at HQ
  rw [← e1, ← e3, ← e2] at HQ
  unfold ParP at HP
  generalize resK p q n l s = K at HP HQ
  generalize resA p q n l s = A0 at HP HQ
  generalize resT p q n l s = T at HP HQ
  clear e1 e2 e3 hok hf hfit
  go_enter Try.func3, Try.ntmps3
  go_upto_region 4 with (go_at_call 6; refine (HP.out _).mono ?_; rintro e w1 ⟨v, rfl, ht, hb⟩; have HT := Lib.hid ht; have HB := Lib.hid hb; clear ht hb)
  have hw1 : Below w.heap.size w w1 := (((Below.refl _ _).alloc (Nat.le_refl _) _).alloc (by simp) _).trans (HB.out.mono (by simp; omega))
  have hdb : Box w1 w.heap.size 23 #[.int .u8 p, .int .u8 q, .int .i64 n] := ((Box.new w _ _).alloc _).below HB.out (by simp; omega)
  have hlb : Box w1 (w.heap.size + 1) 25 #[.int .i64 l.fs, .int .i64 l.fl, .int .i64 l.rs, .bool l.un] := (show Box ((w.alloc (.cells #[.int .u8 p, .int .u8 q, .int .i64 n] 23)).alloc (.cells #[.int .i64 l.fs, .int .i64 l.fl, .int .i64 l.rs, .bool l.un] 25)) (w.heap.size + 1) 25 #[.int .i64 l.fs, .int .i64 l.fl, .int .i64 l.rs, .bool l.un] from by simpa using Box.new (w.alloc (.cells #[.int .u8 p, .int .u8 q, .int .i64 n] 23)) 25 #[.int .i64 l.fs, .int .i64 l.fl, .int .i64 l.rs, .bool l.un]).below HB.out (by simp)
  have hfx := Box.new w1 30 #[.int .i64 (K : Int), .int .i64 (A0 : Int)]
  have hal : Below w1.heap.size w1 (w1.alloc (.cells #[.int .i64 (K : Int), .int .i64 (A0 : Int)] 30)) := (Below.refl _ _).alloc (Nat.le_refl _) _
  have ht1 := HT.out.below hal
  have hd1 := hdb.below hal hdb.lt
  have hl1 := hlb.below hal hlb.lt
  have hw2 := hw1.trans (hal.mono hw1.size)
  obtain ⟨fb, hfe⟩ : ∃ fb, w1.heap.size = fb := ⟨_, rfl⟩
  generalize w1.alloc (.cells #[.int .i64 (K : Int), .int .i64 (A0 : Int)] 30) = W1 at hfx ht1 hd1 hl1 hw2 ⊢
  rw [hfe] at hfx ⊢
  obtain ⟨db, hde⟩ : ∃ db, w.heap.size = db := ⟨_, rfl⟩
  obtain ⟨lb, hle⟩ : ∃ lb, w.heap.size + 1 = lb := ⟨_, rfl⟩
  obtain ⟨A, c, rfl, hTc, hcm, hA⟩ := ht1.at_
  clear hTc hcm hA
  have HT1 := Lib.hid ht1
  have HW2 := Lib.hid hw2
  have f0 : W1.cell? ⟨fb, 0, none⟩ = some (.int .i64 (K : Int)) := hfx.cell 0
  have f1 : W1.cell? ⟨fb, 1, none⟩ = some (.int .i64 (A0 : Int)) := hfx.cell 1
  have k0 : W1.cell? ⟨w.heap.size, 0, none⟩ = some (.int .u8 p) := hd1.cell 0
  have k1 : W1.cell? ⟨w.heap.size, 1, none⟩ = some (.int .u8 q) := hd1.cell 1
  have k2 : W1.cell? ⟨w.heap.size, 2, none⟩ = some (.int .i64 n) := hd1.cell 2
  have l0 : W1.cell? ⟨w.heap.size + 1, 0, none⟩ = some (.int .i64 l.fs) := hl1.cell 0
  have l1 : W1.cell? ⟨w.heap.size + 1, 1, none⟩ = some (.int .i64 l.fl) := hl1.cell 1
  have l2 : W1.cell? ⟨w.heap.size + 1, 2, none⟩ = some (.int .i64 l.rs) := hl1.cell 2
  have l3 : W1.cell? ⟨w.heap.size + 1, 3, none⟩ = some (.bool l.un) := hl1.cell 3
  have hlt0 := hd1.lt
  have hlt1 := hl1.lt
  have hlt2 := hfx.lt
  rw [hde] at hlt0 k0 k1 k2
  rw [hle] at hlt1 l0 l1 l2 l3
  rw [hle, hde]
  have HFX := Lib.hid hfx
  have HLE := Lib.hid hle
  clear HT HB HP hw1 hdb hlb hfx hal ht1 hd1 hl1 hw2 hfe hle
  go_upto_region 8 with (first | (go_at_call 8; (first | (with_reducible refine (later_call _ (HF.out _)).mono ?_) | (with_reducible refine (call_later (HF.out _)).mono ?_)); rintro e w' ⟨rfl, x, rfl⟩) | (go_at_call 7; (first | (with_reducible refine (later_call _ (HR.out _)).mono ?_) | (with_reducible refine (call_later (HR.out _)).mono ?_)); rintro e w' ⟨rfl, x, rfl⟩) | (go_at_call 10; (first | (with_reducible refine (later_call _ (HL.out _)).mono ?_) | (with_reducible refine (call_later (HL.out _)).mono ?_)); rintro e w' ⟨rfl, x, rfl⟩) | (go_at_call 9; (first | (with_reducible refine (later_call _ (HI.out _)).mono ?_) | (with_reducible refine (call_later (HI.out _)).mono ?_)); rintro e w' ⟨rfl, x, rfl⟩))
  have hS : ParS W1 db lb p q n l W1 := ⟨k0, k1, k2, l0, l1, l2, l3, Below.refl _ _⟩
  have hS2 : ParS W1 db lb p q n l x.w := parS_next hS x.below
  clear hS k0 k1 k2 l0 l1 l2 l3 f0 f1 hlt0 hlt1 hcell
  generalize x.w = W2 at hS2 ⊢
  go_cut [9, 10, 11] (fun z9 z10 z11 wx => ∃ v2, z9 = v2 ∧ z10 = .int .i64 (K : Int) ∧ z11 = .int .i64 (A0 : Int) ∧ Tbl wx v2 T ∧ Below W1.heap.size W1 wx)
  case first =>
    go_region_held (fun w' => w'.cell? ⟨db, 0, none⟩ = some (.int .u8 p) ∧ w'.cell? ⟨db, 1, none⟩ = some (.int .u8 q) ∧ w'.cell? ⟨db, 2, none⟩ = some (.int .i64 n) ∧
        w'.cell? ⟨lb, 0, none⟩ = some (.int .i64 l.fs) ∧ w'.cell? ⟨lb, 1, none⟩ = some (.int .i64 l.fl) ∧ w'.cell? ⟨lb, 2, none⟩ = some (.int .i64 l.rs) ∧ w'.cell? ⟨lb, 3, none⟩ = some (.bool l.un) ∧
        Below W1.heap.size W1 w')
      (first | exact parS_next (W1 := W1) (db := db) (lb := lb) (p := p) (q := q) (n := n) (l := l) (by assumption) x.below | exact parS_next (W1 := W1) (db := db) (lb := lb) (p := p) (q := q) (n := n) (l := l) hS2 (Below.refl _ _).drew | go_keep)
      (first
        | (go_at_call 8; refine (call_later (HF.out _)).mono ?_; rintro e w' ⟨rfl, x, rfl⟩)
        | (go_at_call 10; refine (call_later (HL.out _)).mono ?_; rintro e w' ⟨rfl, x, rfl⟩)
        | (go_at_call 11; refine (HQ.out _).mono ?_; rintro e w' ⟨v2, rfl, ht2, hb2⟩; obtain ⟨x, rfl⟩ : ∃ x : Later _, w' = x.w := ⟨⟨w', hb2⟩, rfl⟩; have HT2 := Lib.hid ht2; clear ht2 hb2))
    all_goals
      go_wp2_with fail
      go_meet
      exact ⟨_, rfl, rfl, rfl, HT2.out, (show ParS W1 db lb p q n l _ from by assumption).2.2.2.2.2.2.2⟩
  case rest =>
    obtain ⟨v2, rfl, rfl, rfl, ht2, hbw⟩ := hcut
    have hcell := fun (W : World) (x : Later W) => x.cell
    have hfx := HFX.out.below hbw hlt2
    have s0 : wc.cell? ⟨fb, 0, none⟩ = some (.int .i64 (K : Int)) := hfx.cell 0
    have s1 : wc.cell? ⟨fb, 1, none⟩ = some (.int .i64 (A0 : Int)) := hfx.cell 1
    have hlt3 := hfx.lt
    have HQ4 := Lib.hid ((show decide (T = T) = true from decide_eq_true rfl) ▸ sameTable_any (.slice A T.length c) u9 T T wc (HT1.out.below hbw) ht2)
    have HB4 := Lib.hid (HW2.out.trans (hbw.mono HW2.out.size))
    clear hfx hbw ht2
    go_wp2_with (first | (go_at_call 12; (first | (with_reducible refine (later_call _ (HQ4.out)).mono ?_) | (with_reducible refine (call_later (HQ4.out)).mono ?_)); rintro e w' ⟨rfl, x, rfl⟩) | (go_at_call 5; (first | (with_reducible refine (later_call _ (awake_any _)).mono ?_) | (with_reducible refine (call_later (awake_any _)).mono ?_)); rintro e w' ⟨rfl, x, rfl⟩))
    go_ret
    refine ⟨rfl, ?_⟩
    exact HB4.out.trans (x.below.mono HB4.out.size)

theorem par_any (p q : Nat) (n : Int) (l : Lim) (s : ByteArray) (w : World) (hp : p < 256) (hq : q < 256) (hs : s.size ≤ maxLen) : Calls Try.prog 3 #[.agg #[.int .u8 p, .int .u8 q, .int .i64 n], .agg #[.int .i64 l.fs, .int .i64 l.fl, .int .i64 l.rs, .bool l.un], .string s] w (Gives (.bool true) w) := by
  by_cases h : 300 < s.size
  · exact par_long p q n l s w h hs
  · cases hok : okB p q n
    · exact par_bad p q n l s w hp hq (by omega) hok
    · cases hf : fitsB l.fs l.fl l.rs
      · exact par_lim p q n l s w hp hq (by omega) hok hf
      · exact par_main p q n l s w hp hq (by omega) hok hf

set_option maxRecDepth 100000 in
theorem wholeParses_lifted (os : Os) (started : os.Started) (H : Type) (enc : TypeId × Value → H) :
    ReturnsInHanded {} Try.checked os 3 .any (Rows.wholeParsesSpec.pre6 enc Try.prog Try.f3 Rows.wholeParsesRow.domain false) (Rows.wholeParsesSpec.post enc Try.prog Try.f3 false true false false) := by
  refine law_lift (C := Try.checked) (tb := 4) Try.own Try.laidOut started (by kernel_rfl) Try.func3
    (ChangeSpec.witness6 (enc := enc) (C := Try.checked) false ⟨#[], #[.agg #[.int .u8 0, .int .u8 0, .int .i64 0], .agg #[.int .i64 0, .int .i64 0, .int .i64 0, .bool false], .string ⟨#[]⟩], []⟩ 8 (by kernel_rfl) (by kernel_rfl) (by kernel_rfl) (by kernel_rfl))
    rfl Try.underlying4 (by intro t ht; have ht' : t ∈ [23, 25, 9] := ht; simp at ht'; rcases ht' with rfl | rfl | rfl <;> exact ⟨by kernel_rfl, of_decide_eq_true (by kernel_rfl)⟩) rfl
    (fun ds h => match ds, h with | [_, _, _], _ => rfl) ?_
  intro W base args ds ps hh
  obtain ⟨v, v', v'', d, d', d'', p, p', p'', rfl, ⟨hv, hv', hv''⟩, h0, h0', h0''⟩ := handed_three Try.params3 hh
  obtain ⟨a, b, n, ha, hb, rfl⟩ := open_dialect hv h0
  obtain ⟨x, y, z, u, _, _, _, rfl⟩ := open_limits hv' h0'
  obtain ⟨s, rfl, hs⟩ := open_text hv'' h0''
  exact par_any a b n ⟨x, y, z, u⟩ s W ha hb hs

theorem wholeParses_holds : Rows.WholeParsesSaid :=
  OpenClaim.holds_of_wide 3 Try.f3 rfl rfl rfl rfl rfl rfl rfl ⟨rfl, rfl, rfl, rfl, rfl⟩ rfl rfl rfl rfl rfl (by kernel_rfl) Try.func3 (by kernel_rfl)
    (of_decide_eq_true (by kernel_rfl)) (by unfold Func.isWrapper; first | (rw [if_pos (by decide +kernel)]; kernel_rfl) | (rw [if_neg (by decide +kernel)]; exact ⟨rfl, rfl⟩))
    (fun os started H enc _ => wholeParses_lifted os started H enc)
#print axioms wholeParses_holds

end Go.Proofs.Ytdkdbmiafnadmaa
