/-
  Walks: First, Parses, and the iterator of Records.
-/
import Derived.Test.YtdkdbmiafnadmaaRows
import Derived.Test.YtdkdbmiafnadmaaWakY
namespace Go.Proofs.Ytdkdbmiafnadmaa
open Go.RowKit Go.Shelf
attribute [local go_sem] Oper.semAt_some

theorem walkF_both (p q : Nat) (n : Int) (l : Lim) (s : ByteArray) (w : World) (hs : s.size ≤ 100000) :
    Calls Try.prog 17 #[.agg #[.int .u8 p, .int .u8 q, .int .i64 n], .agg #[.int .i64 l.fs, .int .i64 l.fl, .int .i64 l.rs, .bool l.un], .string s, .func (.func 24) #[] #[]] w (Gives (.agg #[.int .i64 (resK p q n l s), .int .i64 (resA p q n l s)]) w) := by
  unfold resK resA
  by_cases hy : whyE p q n l ≠ 0
  · rw [if_pos hy, if_pos hy]
    exact walk_no _ p q n l s w hy
  · rw [if_neg hy, if_neg hy]
    obtain ⟨hok, hf⟩ := why_zero hy
    refine (walkF_any p q n l s w hs hok hf).mono ?_
    rintro e w' ⟨rfl, hq⟩
    exact ⟨rfl, hq⟩

set_option maxHeartbeats 2000000 in
theorem first_any (p q : Nat) (n : Int) (l : Lim) (s : ByteArray) (w : World) (hs : s.size ≤ 100000) :
    Calls Try.prog 14 #[.agg #[.int .u8 p, .int .u8 q, .int .i64 n], .agg #[.int .i64 l.fs, .int .i64 l.fl, .int .i64 l.rs, .bool l.un], .string s] w (Gives (.agg #[.int .i64 (resK p q n l s), .int .i64 (resA p q n l s)]) w) := by
  apply Gives.of
  have hcell := fun (W : World) (x : Later W) => x.cell
  have hfrozen := fun (W : World) (x : Later W) => x.frozen
  have HW := Lib.hid (fun W => walkF_both p q n l s W hs)
  generalize resK p q n l s = K at HW ⊢
  generalize resA p q n l s = A at HW ⊢
  go_enter Try.func14, Try.ntmps14
  go_wp2_with ((go_at_call 17; (first | (with_reducible refine (later_call _ (HW.out _)).mono ?_) | (with_reducible refine (call_later (HW.out _)).mono ?_)); rintro e w' ⟨rfl, x, rfl⟩))
  refine bodyPost_ret (v := .agg #[.int .i64 K, .int .i64 A]) (by simp (maxDischargeDepth := 8) [results, Try.results14, go_sem, hcell, set_same]) rfl ⟨rfl, ?_⟩
  (repeat (first | (with_reducible exact Below.refl _ _) | (with_reducible refine later_below _ ?_) | (with_reducible refine alloc_below ?_ _) | (with_reducible refine Below.drew ?_) | (refine Below.setCell ?_ (by first | exact Nat.le_refl _ | (simp; done) | (simp; omega) | omega) _)))

theorem at_worldT {C : Code} {P : Program} {Q : Exit → Act → World → Prop} {a : Act} {W : World} (h : ∀ W0, W = W0 → C.wp P Q a W0) : C.wp P Q a W := h W rfl
set_option maxHeartbeats 2000000 in
theorem parses_any (p q : Nat) (n : Int) (s : ByteArray) (w : World) (hs : s.size ≤ 100000) :
    Calls Try.prog 15 #[.agg #[.int .u8 p, .int .u8 q, .int .i64 n], .string s] w (Gives (.bool (decide (resK p q n wLim s = 0 ∧ resA p q n wLim s = 0))) w) := by
  apply Gives.of
  have HW := Lib.hid (fun W => first_any p q n wLim s W hs)
  have HD := Lib.hid wide_any
  generalize resK p q n wLim s = K at HW ⊢
  generalize resA p q n wLim s = A at HW ⊢
  have HF : Hid (∀ W : World, Calls Try.prog 14 #[.agg #[.int .u8 p, .int .u8 q, .int .i64 n], .agg #[.int .i64 2147483648, .int .i64 2147483648, .int .i64 2147483648, .bool false], .string s] W (Gives (.agg #[.int .i64 K, .int .i64 A]) W)) := Lib.hid (fun W => HW.out W)
  clear HW
  have hcell := fun (W : World) (x : Later W) => x.cell
  go_enter Try.func15, Try.ntmps15
  go_wp2_with fail
  refine at_worldT ?_
  intro W0 hW0
  have hbx : Box W0 w.heap.size 23 #[.int .u8 p, .int .u8 q, .int .i64 n] := by rw [← hW0]; exact Box.new _ _ _
  have hb0 : Below w.heap.size w W0 := by rw [← hW0]; exact (Below.refl _ _).alloc (Nat.le_refl _) _
  have hlt := hbx.lt
  have k0 : W0.cell? ⟨w.heap.size, 0, none⟩ = some (.int .u8 p) := hbx.cell 0
  have k1 : W0.cell? ⟨w.heap.size, 1, none⟩ = some (.int .u8 q) := hbx.cell 1
  have k2 : W0.cell? ⟨w.heap.size, 2, none⟩ = some (.int .i64 n) := hbx.cell 2
  have y0 := fun (y : Later W0) => (y.cell w.heap.size 0 hlt).trans k0
  have y1 := fun (y : Later W0) => (y.cell w.heap.size 1 hlt).trans k1
  have y2 := fun (y : Later W0) => (y.cell w.heap.size 2 hlt).trans k2
  have HB0 := Lib.hid hb0
  clear hW0 hbx hb0
  by_cases hK : K = 0
  · by_cases hA : A = 0
    · subst hK hA
      refine wp_region_later_lit (by kernel_rfl) (by kernel_rfl) ?_
      repeat (go_big_quiet_step (first | (go_at_call 14; exact later_call _ (HF.out _)) | (go_at_call 25; exact later_call _ (HD.out _))))
      refine wpQuiet_nil ?_
      rintro w' ⟨y, rfl⟩
      go_wp2_with fail
      go_ret
      refine ⟨ret_bool (by simp), later_below' y HB0.out⟩
    · subst hK
      have z2 : decide ((A : Int) = 0) = false := decide_eq_false (by omega)
      have z3 : ((A : Int) == 0) = false := by simp [hA]
      refine wp_region_later_lit (by kernel_rfl) (by kernel_rfl) ?_
      repeat (go_big_quiet_step (first | (go_at_call 14; exact later_call _ (HF.out _)) | (go_at_call 25; exact later_call _ (HD.out _))))
      refine wpQuiet_nil ?_
      rintro w' ⟨y, rfl⟩
      go_wp2_with fail
      go_ret
      refine ⟨ret_bool (by simp), later_below' y HB0.out⟩
  · have z2 : decide ((K : Int) = 0) = false := decide_eq_false (by omega)
    have z3 : ((K : Int) == 0) = false := by simp [hK]
    refine wp_region_later_lit (by kernel_rfl) (by kernel_rfl) ?_
    repeat (go_big_quiet_step (first | (go_at_call 14; exact later_call _ (HF.out _)) | (go_at_call 25; exact later_call _ (HD.out _))))
    refine wpQuiet_nil ?_
    rintro w' ⟨y, rfl⟩
    go_wp2_with fail
    go_ret
    refine ⟨ret_bool (by simp [hK]), later_below' y HB0.out⟩

def GivR (b : Nat) (T : List (List ByteArray)) (i : Nat) (v : Value) (W : World) : Prop := ∃ R, T[i]? = some R ∧ OwnS W b v R

set_option maxHeartbeats 2000000 in
theorem records_iter (p q : Nat) (n : Int) (l : Lim) (s : ByteArray) (d1 d2 d3 m : Nat) (S : Nat → Prop) (w : World) (hs : s.size ≤ 100000) (h1 : Box w d1 23 #[.int .u8 p, .int .u8 q, .int .i64 n])
    (h2 : Box w d2 25 #[.int .i64 l.fs, .int .i64 l.fl, .int .i64 l.rs, .bool l.un]) (h3 : Box w d3 9 #[.string s]) (hS : ∀ k, S k → k < w.heap.size ∧ k ≠ d1 ∧ k ≠ d2 ∧ k ≠ d3) :
    Iter Fence.wide m Try.prog 23 #[.pointer (some ⟨d1, 0, none⟩), .pointer (some ⟨d2, 0, none⟩), .pointer (some ⟨d3, 0, none⟩)] (resT p q n l s).length (GivR w.heap.size (resT p q n l s)) S w := by
  intro lp J Jx W hW hl1 hl2 hJ hJx hY h0
  have b1 := h1.keeps hW (fun h => (hS _ h).2.1 rfl)
  have b2 := h2.keeps hW (fun h => (hS _ h).2.2.1 rfl)
  have b3 := h3.keeps hW (fun h => (hS _ h).2.2.2 rfl)
  have hsz := hW.size
  have hw : Calls Try.prog 17 #[.agg #[.int .u8 p, .int .u8 q, .int .i64 n], .agg #[.int .i64 l.fs, .int .i64 l.fl, .int .i64 l.rs, .bool l.un], .string s, .func (.yield lp) #[] #[]] W (WalkY J Jx (resT p q n l s).length) := by
    by_cases hy : whyE p q n l ≠ 0
    · refine (walk_no _ p q n l s W hy).mono ?_
      rintro e w' ⟨rfl, hb⟩
      exact ⟨⟨_, rfl⟩, .inl (by unfold resT; rw [if_pos hy]; exact hJ.belowY h0 hb)⟩
    · obtain ⟨hok, hf⟩ := why_zero hy
      have e : resT p q n l s = recs (finU p q n l (Bom.stripS s)) := by unfold resT; rw [if_neg hy]
      rw [e] at hY ⊢
      exact walkY_any lp W.heap.size p q n l s S J Jx W hl2 (Nat.le_refl _) (fun k hk => Nat.lt_of_lt_of_le (hS k hk).1 hsz) hJ hJx
        (fun i v R W1 hR hj hz ho => yield_any (hY i v W1 (List.getElem?_eq_some_iff.1 hR).1 hj hz ⟨R, hR, owns_less ho hsz⟩)) h0 hs hok hf
  have HW := Lib.hid hw
  have q0 : W.cell? ⟨d1, 0, none⟩ = some (.int .u8 p) := b1.cell 0
  have q1 : W.cell? ⟨d1, 1, none⟩ = some (.int .u8 q) := b1.cell 1
  have q2 : W.cell? ⟨d1, 2, none⟩ = some (.int .i64 n) := b1.cell 2
  have l0 : W.cell? ⟨d2, 0, none⟩ = some (.int .i64 l.fs) := b2.cell 0
  have l1 : W.cell? ⟨d2, 1, none⟩ = some (.int .i64 l.fl) := b2.cell 1
  have l2 : W.cell? ⟨d2, 2, none⟩ = some (.int .i64 l.rs) := b2.cell 2
  have l3 : W.cell? ⟨d2, 3, none⟩ = some (.bool l.un) := b2.cell 3
  have s0 : W.cell? ⟨d3, 0, none⟩ = some (.string s) := b3.cell 0
  clear hY h0 hw b1 b2 b3 h1 h2 h3
  refine callsIn_wide.2 ?_
  go_enter Try.func23, Try.ntmps23
  go_wp2_with (go_at_call 17; refine HW.out.mono ?_; rintro e w1 ⟨⟨v, rfl⟩, hend⟩)
  go_end0
  exact ⟨⟨_, rfl⟩, hend⟩

end Go.Proofs.Ytdkdbmiafnadmaa
