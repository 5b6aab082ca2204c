/-
  The law WholeFront returns true for every dialect, every text and every place. Conditions: none.
-/
import Derived.Test.YtdjlbbemgahohaaRows
import Derived.Test.YtdjlbbemgahohaaFro
import Derived.Test.YtdjlbbemgahohaaAwk
import Derived.Test.YtdjlbbemgahohaaOpenD
namespace Go.Proofs.Ytdjlbbemgahohaa
open Go.ChangeShapes Go.WideShapes Go.ChangeAt Go.RowKit Go.Joins

theorem resT_len (p q : Nat) (n : Int) (l : Lim) (s : ByteArray) : (resT p q n l s).length ≤ s.size + 1 := by
  unfold resT
  split
  · exact Nat.zero_le _
  · have h0 := (strip_at s).1
    have h1 := runU_len (p := p) (q := q) (n := n) (l := l) (t := Bom.stripS s) (Bom.stripS s).size
    have h2 : (recs (runU p q n l (Bom.stripS s) (Bom.stripS s).size)).length ≤ (Bom.stripS s).size := by unfold recs; rw [List.length_map]; exact h1
    rcases end_out (p := p) (q := q) (n := n) (l := l) (t := Bom.stripS s) with e | ⟨_, R, e⟩
    · rw [e]; omega
    · rw [e, List.length_append, List.length_singleton]; omega
theorem box_two {w : World} {q : Nat} {t : TypeId} {a0 a1 : Value} (h : Box w q t #[a0, a1]) (v0 v1 : Value) : Box ((w.setCell ⟨q, 0, none⟩ v0).setCell ⟨q, 1, none⟩ v1) q t #[v0, v1] := (h.set 0 v0).set 1 v1

theorem cell_ne_box {w : World} {q : Nat} {t : TypeId} {cs : Array Value} {a : Addr} {r : Value} (hc : w.cell? a = some r) (hb : Box w q t cs) (hcs : ∀ i : Nat, cs[i]? ≠ some r) : a.block ≠ q := by
  intro hq
  have hb' : w.heap[a.block]? = some (.cells cs t (0, 0)) := by rw [hq]; exact hb
  unfold World.cell? at hc
  rw [hb'] at hc
  simp only at hc
  split at hc
  · cases hc
  · exact hcs _ hc
theorem two_ne {x y : Int} {r : Value} (h : ∀ k z, r ≠ .int k z) : ∀ i : Nat, (#[Value.int .i64 x, .int .i64 y] : Array Value)[i]? ≠ some r := by
  intro i hc
  match i with
  | 0 => simp at hc; exact h _ _ hc.symm
  | 1 => simp at hc; exact h _ _ hc.symm
  | i + 2 => simp at hc
/-- A table lies in no object of numbers. -/
theorem Tbl.set_box {w w' : World} {v : Value} {T : List (List ByteArray)} {q : Nat} {t : TypeId} {x y : Int} (h : Tbl w v T) (hb : Box w q t #[.int .i64 x, .int .i64 y]) (hk : ∀ k, k ≠ q → w'.heap[k]? = w.heap[k]?) : Tbl w' v T := by
  obtain ⟨A, c, h1, h2, h3, h4⟩ := h
  have keep : ∀ {a : Addr} {r : Value}, w.cell? a = some r → (∀ k z, r ≠ .int k z) → w'.cell? a = some r := fun {a r} hc hn => (World.cell?_of_block (w := w) (a := a) (hk _ (cell_ne_box hc hb (two_ne hn)))).trans hc
  refine ⟨A, c, h1, h2, h3, fun j L hL => ?_⟩
  obtain ⟨a, r, ha, hc, hs⟩ := h4 j L hL
  obtain ⟨B, d, rfl, g2, g3, g4⟩ := hs
  refine ⟨a, _, ha, keep hc (fun k z e => by cases e), B, d, rfl, g2, g3, fun i u hu => ?_⟩
  obtain ⟨b, hb1, hb2⟩ := g4 i u hu
  exact ⟨b, hb1, keep hb2 (fun k z e => by cases e)⟩
theorem set_heap (w : World) (q i : Nat) (v : Value) : ∀ k, k ≠ q → (w.setCell ⟨q, i, none⟩ v).heap[k]? = w.heap[k]? := fun k hk => Below.heap_setCell w ⟨q, i, none⟩ v k hk

theorem awake_G (w : World) : Calls Try.prog 7 #[] w (Gives (.bool true) w) := awake_any w

theorem front_long (p q : Nat) (n : Int) (s : ByteArray) (a : Nat) (w : World) (h : 300 < s.size) (hs : s.size ≤ maxLen) : Calls Try.prog 5 #[.agg #[.int .u8 p, .int .u8 q, .int .i64 n], .string s, .int .u16 a] w (Gives (.bool true) w) := by
  apply Gives.of
  unfold maxLen at hs
  have d1 : decide ((300 : Int) < (s.size : Int)) = true := decide_eq_true (by omega)
  go_enter Try.func5, Try.ntmps5
  go_wp2_with (go_at_call 7; (first | (with_reducible refine (later_call _ (awake_G _)).mono ?_) | (with_reducible refine (call_later (awake_G _)).mono ?_)); rintro e w' ⟨rfl, x, rfl⟩)
  go_ret
  refine ⟨rfl, ?_⟩
  (repeat (first | (with_reducible exact Below.refl _ _) | (with_reducible refine later_below _ ?_) | (with_reducible refine alloc_below ?_ _) | (with_reducible refine Below.drew ?_) | (refine Below.setCell ?_ (by first | exact Nat.le_refl _ | (simp; done) | (simp; omega) | omega) _)))

theorem front_bad (p q : Nat) (n : Int) (s : ByteArray) (a : Nat) (w : World) (hp : p < 256) (hq : q < 256) (h : s.size ≤ 300) (hok : okB p q n = false) : Calls Try.prog 5 #[.agg #[.int .u8 p, .int .u8 q, .int .i64 n], .string s, .int .u16 a] w (Gives (.bool true) w) := by
  apply Gives.of
  have hcell := fun (W : World) (x : Later W) => x.cell
  have d1 : decide ((300 : Int) < (s.size : Int)) = false := decide_eq_false (by omega)
  have HF := Lib.hid (fun W => ref_any p q n W hp hq)
  have HR := Lib.hid (fun W => hok ▸ right_any p q n W)
  go_enter Try.func5, Try.ntmps5
  go_wp2_with (first | (go_at_call 10; (first | (with_reducible refine (later_call _ (HF.out _)).mono ?_) | (with_reducible refine (call_later (HF.out _)).mono ?_)); rintro e w' ⟨rfl, x, rfl⟩) | (go_at_call 9; (first | (with_reducible refine (later_call _ (HR.out _)).mono ?_) | (with_reducible refine (call_later (HR.out _)).mono ?_)); rintro e w' ⟨rfl, x, rfl⟩) | (go_at_call 7; (first | (with_reducible refine (later_call _ (awake_G _)).mono ?_) | (with_reducible refine (call_later (awake_G _)).mono ?_)); rintro e w' ⟨rfl, x, rfl⟩))
  go_ret
  refine ⟨rfl, ?_⟩
  (repeat (first | (with_reducible exact Below.refl _ _) | (with_reducible refine later_below _ ?_) | (with_reducible refine alloc_below ?_ _) | (with_reducible refine Below.drew ?_) | (refine Below.setCell ?_ (by first | exact Nat.le_refl _ | (simp; done) | (simp; omega) | omega) _)))

set_option maxRecDepth 100000 in
set_option maxHeartbeats 8000000 in
theorem front_main (p q : Nat) (n : Int) (s : ByteArray) (a : Nat) (w : World) (hp : p < 256) (hq : q < 256) (ha : a < 65536) (h : s.size ≤ 300) (hok : okB p q n = true) : Calls Try.prog 5 #[.agg #[.int .u8 p, .int .u8 q, .int .i64 n], .string s, .int .u16 a] w (Gives (.bool true) w) := by
  apply Gives.of
  have hcell := fun (W : World) (x : Later W) => x.cell
  have d1 : decide ((300 : Int) < (s.size : Int)) = false := decide_eq_false (by omega)
  have HF := Lib.hid (fun W => ref_any p q n W hp hq)
  have HR := Lib.hid (fun W => hok ▸ right_any p q n W)
  obtain ⟨k, hk⟩ : ∃ k, a % (s.size + 1) = k := ⟨_, rfl⟩
  have hks : k ≤ s.size := by have := Nat.mod_lt a (show 0 < s.size + 1 by omega); omega
  have hm : Int.tmod (a : Int) ((s.size : Int) + 1) = k := by rw [← hk]; rfl
  have hw1 : wrap64 ((s.size : Int) + 1) = s.size + 1 := by unfold wrap64; omega
  have hw2 : wrap64 (a : Int) = a := by unfold wrap64; omega
  have hw3 : wrap64 (k : Int) = k := by unfold wrap64; omega
  have hne : ¬ ((s.size : Int) + 1 = 0) := by omega
  have HOK := Lib.hid hok
  clear hok
  go_enter Try.func5, Try.ntmps5
  go_upto_region 5 with (first | (go_at_call 10; (first | (with_reducible refine (later_call _ (HF.out _)).mono ?_) | (with_reducible refine (call_later (HF.out _)).mono ?_)); rintro e w' ⟨rfl, x, rfl⟩) | ((go_at_call 9; (first | (with_reducible refine (later_call _ (HR.out _)).mono ?_) | (with_reducible refine (call_later (HR.out _)).mono ?_)); rintro e w' ⟨rfl, x, rfl⟩); have hz := x.size))
  have hd : Box x.w w.heap.size 23 #[.int .u8 p, .int .u8 q, .int .i64 n] := (Box.new w _ _).below x.below (by simp)
  have hb1 : Below w.heap.size w x.w := x.end1
  have hlm := Box.new x.w 25 #[.int .i64 2147483648, .int .i64 2147483648, .int .i64 2147483648, .bool false]
  have hb0 := hb1.alloc hb1.size (.cells #[.int .i64 2147483648, .int .i64 2147483648, .int .i64 2147483648, .bool false] 25)
  have hd0 := hd.alloc (.cells #[.int .i64 2147483648, .int .i64 2147483648, .int .i64 2147483648, .bool false] 25)
  generalize x.w.alloc (.cells #[.int .i64 2147483648, .int .i64 2147483648, .int .i64 2147483648, .bool false] 25) = W0 at hlm hb0 hd0 ⊢
  obtain ⟨lb, hlb⟩ : ∃ lb, x.w.heap.size = lb := ⟨_, rfl⟩
  rw [hlb] at hlm ⊢
  have k0 : W0.cell? ⟨w.heap.size, 0, none⟩ = some (.int .u8 p) := hd0.cell 0
  have k1 : W0.cell? ⟨w.heap.size, 1, none⟩ = some (.int .u8 q) := hd0.cell 1
  have k2 : W0.cell? ⟨w.heap.size, 2, none⟩ = some (.int .i64 n) := hd0.cell 2
  have l0 : W0.cell? ⟨lb, 0, none⟩ = some (.int .i64 2147483648) := hlm.cell 0
  have l1 : W0.cell? ⟨lb, 1, none⟩ = some (.int .i64 2147483648) := hlm.cell 1
  have l2 : W0.cell? ⟨lb, 2, none⟩ = some (.int .i64 2147483648) := hlm.cell 2
  have l3 : W0.cell? ⟨lb, 3, none⟩ = some (.bool false) := hlm.cell 3
  have dk0 : W0.drew.cell? ⟨w.heap.size, 0, none⟩ = some (.int .u8 p) := k0
  have dk1 : W0.drew.cell? ⟨w.heap.size, 1, none⟩ = some (.int .u8 q) := k1
  have dk2 : W0.drew.cell? ⟨w.heap.size, 2, none⟩ = some (.int .i64 n) := k2
  have dl0 : W0.drew.cell? ⟨lb, 0, none⟩ = some (.int .i64 2147483648) := l0
  have dl1 : W0.drew.cell? ⟨lb, 1, none⟩ = some (.int .i64 2147483648) := l1
  have dl2 : W0.drew.cell? ⟨lb, 2, none⟩ = some (.int .i64 2147483648) := l2
  have dl3 : W0.drew.cell? ⟨lb, 3, none⟩ = some (.bool false) := l3
  have hlt0 : w.heap.size < W0.heap.size := hd0.lt
  have hlt1 : lb < W0.heap.size := hlm.lt
  have hk1 : (k : Int) ≤ (s.size : Int) := by omega
  have HD0 := Lib.hid hd0
  have HL0 := Lib.hid hlm
  have HB0 := Lib.hid hb0
  have HP : Hid (∀ (u : ByteArray) (W : World), u.size ≤ 100000 → Calls Try.prog 8 #[.agg #[.int .u8 p, .int .u8 q, .int .i64 n], .agg #[.int .i64 2147483648, .int .i64 2147483648, .int .i64 2147483648, .bool false], .string u] W (ParP W p q n wLim u)) := Lib.hid (fun u W hu => parse_any p q n wLim u W hu)
  have hxs : (s.extract 0 k).size ≤ 100000 := by rw [ByteArray.size_extract]; omega
  have HFM := Lib.hid (front_res (p := p) (q := q) (n := n) HOK.out hks)
  have HXS := Lib.hid hxs
  clear hd hb1 hlm hb0 hd0 hlb hz x hm hw1 hw2 hw3 hne HF HR hxs
  generalize hT1 : resT p q n wLim (s.extract 0 k) = T1 at HFM
  generalize hK1 : resK p q n wLim (s.extract 0 k) = K1 at HFM
  generalize hA1 : resA p q n wLim (s.extract 0 k) = A1 at HFM
  generalize hT2 : resT p q n wLim s = T2 at HFM
  generalize hK2 : resK p q n wLim s = K2 at HFM
  generalize hA2 : resA p q n wLim s = A2 at HFM
  have HP1 : Hid (∀ W : World, Calls Try.prog 8 #[.agg #[.int .u8 p, .int .u8 q, .int .i64 n], .agg #[.int .i64 2147483648, .int .i64 2147483648, .int .i64 2147483648, .bool false], .string (s.extract 0 k)] W (fun e w' => ∃ v, e = .returned (.tuple #[v, .agg #[.int .i64 K1, .int .i64 A1]]) ∧ ∃ x : Later W, w' = x.w ∧ Tbl x.w v T1)) := Lib.hid (fun W => (HP.out (s.extract 0 k) W HXS.out).mono (fun e w' ⟨v, h1, h2, h3⟩ => ⟨v, by rw [← hK1, ← hA1]; exact h1, ⟨w', h3⟩, rfl, by rw [← hT1]; exact h2⟩))
  have HP2 : Hid (∀ W : World, Calls Try.prog 8 #[.agg #[.int .u8 p, .int .u8 q, .int .i64 n], .agg #[.int .i64 2147483648, .int .i64 2147483648, .int .i64 2147483648, .bool false], .string s] W (fun e w' => ∃ v, e = .returned (.tuple #[v, .agg #[.int .i64 K2, .int .i64 A2]]) ∧ ∃ x : Later W, w' = x.w ∧ Tbl x.w v T2)) := Lib.hid (fun W => (HP.out s W (by omega)).mono (fun e w' ⟨v, h1, h2, h3⟩ => ⟨v, by rw [← hK2, ← hA2]; exact h1, ⟨w', h3⟩, rfl, by rw [← hT2]; exact h2⟩))
  have HT1 := Lib.hid (show T1.length ≤ 100000 from by rw [← hT1]; have h1 := resT_len p q n wLim (s.extract 0 k); rw [ByteArray.size_extract] at h1; omega)
  clear HP hT1 hK1 hA1 hT2 hK2 hA2
  have hfrozen := fun (W : World) (x : Later W) => x.frozen
  go_cut [9, 10] (fun z9 z10 wx => ∃ f1, z10 = .pointer (some ⟨f1, 0, none⟩) ∧ Box wx f1 30 #[.int .i64 K1, .int .i64 A1] ∧ Tbl wx z9 T1 ∧ Below W0.heap.size W0 wx ∧ W0.heap.size ≤ f1)
  case first =>
    go_region_with (go_at_call 8; refine (HP1.out _).mono ?_; rintro e w' ⟨v, rfl, x, rfl, ht⟩; (try have y0 : x.w.cell? ⟨W0.heap.size, 0, none⟩ = some (.int .i64 0) := (by simp [hcell]; done)); (try have z0 : x.w.frozen? ⟨W0.heap.size, 0, none⟩ = false := (by simp [hfrozen]; done)); (try have y1 : x.w.cell? ⟨W0.heap.size, 1, none⟩ = some (.int .i64 0) := (by simp [hcell]; done)); (try have z1 : x.w.frozen? ⟨W0.heap.size, 1, none⟩ = false := (by simp [hfrozen]; done)); have HT := Lib.hid ht; clear ht)
    all_goals
      go_wp2_with fail
      go_meet
      refine ⟨_, rfl, ?_, ?_, ?_, ?_⟩
      · first
          | with_reducible exact Box.new _ _ _
          | with_reducible exact box_two (show Box x.w W0.heap.size 30 #[.int .i64 0, .int .i64 0] from (Box.new W0.drew _ _).below x.below (by simp)) _ _
      · first
          | with_reducible exact HT.out.below ((Below.refl _ _).alloc (Nat.le_refl _) _)
          | exact HT.out.set_box (show Box x.w W0.heap.size 30 #[.int .i64 0, .int .i64 0] from (Box.new W0.drew _ _).below x.below (by simp)) (fun k hk => (set_heap _ _ _ _ k hk).trans (set_heap _ _ _ _ k hk))
      · (repeat (first | (with_reducible exact Below.refl _ _) | (with_reducible refine later_below _ ?_) | (with_reducible refine alloc_below ?_ _) | (with_reducible refine Below.drew ?_) | (refine Below.setCell ?_ (by first | exact Nat.le_refl _ | (simp; done) | (simp; omega) | omega) _)))
      · first
          | exact Nat.le_refl _
          | exact x.size
  case rest =>
    obtain ⟨f1, rfl, hf1, ht1, hbw, hg⟩ := hcut
    obtain ⟨A, c, rfl, hc1, hc2, hA⟩ := ht1.at_
    have HT1' := Lib.hid ht1
    have HF1 := Lib.hid hf1
    have HBW := Lib.hid (HB0.out.trans (hbw.mono (by omega)))
    have hx2 := HD0.out.below hbw hlt0
    have hl2 := HL0.out.below hbw hlt1
    have r0 : wc.cell? ⟨w.heap.size, 0, none⟩ = some (.int .u8 p) := hx2.cell 0
    have r1 : wc.cell? ⟨w.heap.size, 1, none⟩ = some (.int .u8 q) := hx2.cell 1
    have r2 : wc.cell? ⟨w.heap.size, 2, none⟩ = some (.int .i64 n) := hx2.cell 2
    have m0 : wc.cell? ⟨lb, 0, none⟩ = some (.int .i64 2147483648) := hl2.cell 0
    have m1 : wc.cell? ⟨lb, 1, none⟩ = some (.int .i64 2147483648) := hl2.cell 1
    have m2 : wc.cell? ⟨lb, 2, none⟩ = some (.int .i64 2147483648) := hl2.cell 2
    have m3 : wc.cell? ⟨lb, 3, none⟩ = some (.bool false) := hl2.cell 3
    clear k0 k1 k2 l0 l1 l2 l3 dk0 dk1 dk2 dl0 dl1 dl2 dl3 hx2 hl2 hbw hf1 ht1 hA
    go_upto_region 7 with (go_at_call 8; refine (HP2.out _).mono ?_; rintro e w' ⟨v2, rfl, x2, rfl, ht2⟩; have HT2 := Lib.hid ht2; clear ht2)
    obtain ⟨A2', c2', rfl, hd1, hd2, hA2⟩ := HT2.out.at_
    have hal : Below x2.w.heap.size x2.w (x2.w.alloc (.cells #[.int .i64 K2, .int .i64 A2] 30)) := (Below.refl _ _).alloc (Nat.le_refl _) _
    have hf2 := Box.new x2.w 30 #[.int .i64 K2, .int .i64 A2]
    have hb6 : Below w.heap.size w (x2.w.alloc (.cells #[.int .i64 K2, .int .i64 A2] 30)) := (HBW.out.trans (x2.below.mono HBW.out.size)).trans (hal.mono (Nat.le_trans HBW.out.size x2.below.size))
    have hf16 := (HF1.out.below x2.below HF1.out.lt).below hal (Nat.lt_of_lt_of_le HF1.out.lt x2.below.size)
    have ht16 := (HT1'.out.below x2.below).below hal
    have ht26 := HT2.out.below hal
    generalize hW : x2.w.alloc (.cells #[.int .i64 K2, .int .i64 A2] 30) = W6 at hf2 hb6 hf16 ht16 ht26 ⊢
    obtain ⟨f2, hfe⟩ : ∃ f2, x2.w.heap.size = f2 := ⟨_, rfl⟩
    rw [hfe] at hf2 ⊢
    obtain ⟨_, _, he1, _, _, hA1⟩ := ht16.at_
    injection he1 with he1 _ he1'
    subst he1 he1'
    obtain ⟨_, _, he2, _, _, hA22⟩ := ht26.at_
    injection he2 with he2 _ he2'
    subst he2 he2'
    have q0 : W6.cell? ⟨f1, 0, none⟩ = some (.int .i64 K1) := hf16.cell 0
    have q1 : W6.cell? ⟨f1, 1, none⟩ = some (.int .i64 A1) := hf16.cell 1
    have q2 : W6.cell? ⟨f2, 0, none⟩ = some (.int .i64 K2) := hf2.cell 0
    have q3 : W6.cell? ⟨f2, 1, none⟩ = some (.int .i64 A2) := hf2.cell 1
    have HA1 := Lib.hid hA1
    have HA2 := Lib.hid hA22
    have HB6 := Lib.hid hb6
    obtain ⟨hM1, hM2, hM3⟩ := HFM.out
    clear hc1 hc2 hd1 hd2 hlt0 hlt1 hk1 hg hk ha h hks hp hq HOK hA1 hA22 hA2 hb6 hf2 hf16 ht16 ht26 hal hW hfe HT2 HT1' HF1 HBW HP1 HP2 r0 r1 r2 m0 m1 m2 m3 x2 hcell hfrozen HD0 HL0 HB0 HXS HFM
    by_cases hk0 : K1 = 0
    · subst hk0
      have z1 : ((0 : Int) != 0) = false := rfl
      by_cases hl0 : 0 < T1.length
      · obtain ⟨m, hm⟩ : ∃ m, T1.length = m + 1 := ⟨T1.length - 1, by omega⟩
        have em : T1.length - (if (0 : Nat) = 0 ∧ 0 < T1.length then 1 else 0) = m := by rw [if_pos ⟨rfl, hl0⟩]; omega
        rw [em] at hM2 hM3
        have HFQ : m ≤ T1.length ∧ m ≤ T2.length ∧ ∀ i, i < m → T1[i]? = T2[i]? := ⟨by omega, hM2, hM3⟩
        have hlI : (0 : Int) < (T1.length : Int) := by omega
        have hwm : (T1.length : Int) - 1 = m := by omega
        have hwm2 : wrap64 (m : Int) = m := by unfold wrap64; have := HT1.out; omega
        have hwm3 : wrap64 ((T1.length : Int) - 1) = m := by rw [hwm]; exact hwm2
        clear hM1 hM2 hM3 em hm
        have HLE : m ≤ T1.length ∧ m ≤ T2.length ∧ ∀ i, i < m → T1[i]? = T2[i]? := HFQ
        have hle2 : m ≤ T2.length := HLE.2.1
        have hle1 : m ≤ T1.length := HLE.1
        have HQ := Lib.hid HLE.2.2
        have e9 : decide ((T2.length : Int) < (m : Int)) = false := decide_eq_false (fun hc => Nat.not_lt.2 hle2 (Int.ofNat_lt.1 hc))
        have e9n : decide (T2.length < m) = false := decide_eq_false (Nat.not_lt.2 hle2)
        have e9i : ¬ ((T2.length : Int) < (m : Int)) := fun hc => Nat.not_lt.2 hle2 (Int.ofNat_lt.1 hc)
        have HL1 := Lib.hid hle1
        have HL2 := Lib.hid hle2
        have hm6 : m ≤ 100000 := Nat.le_trans hle1 HT1.out
        clear HLE HFQ hle1 hle2 hm6
        go_wp2_with fail
        go_loopw [14, 78] (fun _ z78 (wr : World) => ∃ i : Nat, i ≤ m ∧ z78 = .int .i64 i ∧ Below W6.heap.size W6 wr) (fun _ z78 _ => m - (intOf z78).toNat)
        case atStart => exact ⟨0, Nat.zero_le _, rfl, Below.refl _ _⟩
        case round =>
          obtain ⟨i, hi, rfl, hb⟩ := hrel
          have HBR := Lib.hid hb
          clear hb
          by_cases c1 : i < m
          · have b1 : decide (i < m) = true := decide_eq_true c1
            have b2 : (i : Int) < (m : Int) := by omega
            have c3 := Nat.lt_of_lt_of_le c1 HL1.out
            have c4 := Nat.lt_of_lt_of_le c1 HL2.out
            have b3 : (i : Int) < (T1.length : Int) := Int.ofNat_lt.2 c3
            have b4 : (i : Int) < (T2.length : Int) := Int.ofNat_lt.2 c4
            obtain ⟨R, hR⟩ : ∃ R, T1[i]? = some R := ⟨_, List.getElem?_eq_getElem c3⟩
            have hR2 : T2[i]? = some R := by rw [← HQ.out i c1]; exact hR
            obtain ⟨a1, u1, rfl, hc1', hs1⟩ := HA1.out i R hR
            obtain ⟨a2, u2, rfl, hc2', hs2⟩ := HA2.out i R hR2
            have g1 := (HBR.out.cell (World.block_lt_of_cell? W6 _ hc1')).trans hc1'
            have g2 := (HBR.out.cell (World.block_lt_of_cell? W6 _ hc2')).trans hc2'
            have xa := fun (x : Later wr) => x.below.cell (p := a1.add i) (World.block_lt_of_cell? wr _ g1)
            have xb := fun (x : Later wr) => x.below.cell (p := a2.add i) (World.block_lt_of_cell? wr _ g2)
            have HC : Hid (∀ x : Later wr, Calls Try.prog 18 #[u1, u2] x.w (Gives (.bool true) x.w)) := Lib.hid (fun x => by have h := same_any u1 u2 R R x.w ((hs1.below HBR.out).below x.below) ((hs2.below HBR.out).below x.below); rw [show decide (R = R) = true from decide_eq_true rfl] at h; exact h)
            clear hR hR2 hc1' hc2' hs1 hs2
            go_wp2_with fail
            refine wp_region_later_lit (by kernel_rfl) (by kernel_rfl) ?_
            repeat (go_big_quiet_step (first | (go_at_call 18; exact later_call _ (HC.out _))))
            refine wpQuiet_nil ?_
            rintro w' ⟨y, rfl⟩
            go_wp2_with fail
            go_roundw
            case rel => exact ⟨i + 1, by omega, by go_num, later_below' y HBR.out⟩
            case measure => simp [intOf]; omega
          · have b1 : decide (i < m) = false := decide_eq_false c1
            have b2 : ¬ (i : Int) < (m : Int) := by omega
            go_wp2_with (go_at_call 7; (first | (with_reducible refine (later_call _ (awake_G _)).mono ?_) | (with_reducible refine (call_later (awake_G _)).mono ?_)); rintro e w' ⟨rfl, x, rfl⟩)
            go_ret
            refine ⟨rfl, ?_⟩
            have h1 := HB6.out.trans (HBR.out.mono HB6.out.size)
            exact h1.trans (x.below.mono h1.size)
      · have hl1 : T1.length = 0 := by omega
        have em : T1.length - (if (0 : Nat) = 0 ∧ 0 < T1.length then 1 else 0) = T1.length := by rw [if_neg (by omega)]; omega
        rw [em] at hM2 hM3
        have HFQ : T1.length ≤ T1.length ∧ T1.length ≤ T2.length ∧ ∀ i, i < T1.length → T1[i]? = T2[i]? := ⟨Nat.le_refl _, hM2, hM3⟩
        have hlI : ¬ (0 : Int) < (T1.length : Int) := by omega
        clear hM1 hM2 hM3 em hl1
        have HLE : T1.length ≤ T1.length ∧ T1.length ≤ T2.length ∧ ∀ i, i < T1.length → T1[i]? = T2[i]? := HFQ
        have hle2 : T1.length ≤ T2.length := HLE.2.1
        have hle1 : T1.length ≤ T1.length := HLE.1
        have HQ := Lib.hid HLE.2.2
        have e9 : decide ((T2.length : Int) < (T1.length : Int)) = false := decide_eq_false (fun hc => Nat.not_lt.2 hle2 (Int.ofNat_lt.1 hc))
        have e9n : decide (T2.length < T1.length) = false := decide_eq_false (Nat.not_lt.2 hle2)
        have e9i : ¬ ((T2.length : Int) < (T1.length : Int)) := fun hc => Nat.not_lt.2 hle2 (Int.ofNat_lt.1 hc)
        have HL1 := Lib.hid hle1
        have HL2 := Lib.hid hle2
        have hm6 : T1.length ≤ 100000 := Nat.le_trans hle1 HT1.out
        clear HLE HFQ hle1 hle2 hm6
        go_wp2_with fail
        go_loopw [14, 78] (fun _ z78 (wr : World) => ∃ i : Nat, i ≤ T1.length ∧ z78 = .int .i64 i ∧ Below W6.heap.size W6 wr) (fun _ z78 _ => T1.length - (intOf z78).toNat)
        case atStart => exact ⟨0, Nat.zero_le _, rfl, Below.refl _ _⟩
        case round =>
          obtain ⟨i, hi, rfl, hb⟩ := hrel
          have HBR := Lib.hid hb
          clear hb
          by_cases c1 : i < T1.length
          · have b1 : decide (i < T1.length) = true := decide_eq_true c1
            have b2 : (i : Int) < (T1.length : Int) := by omega
            have c3 := Nat.lt_of_lt_of_le c1 HL1.out
            have c4 := Nat.lt_of_lt_of_le c1 HL2.out
            have b3 : (i : Int) < (T1.length : Int) := Int.ofNat_lt.2 c3
            have b4 : (i : Int) < (T2.length : Int) := Int.ofNat_lt.2 c4
            obtain ⟨R, hR⟩ : ∃ R, T1[i]? = some R := ⟨_, List.getElem?_eq_getElem c3⟩
            have hR2 : T2[i]? = some R := by rw [← HQ.out i c1]; exact hR
            obtain ⟨a1, u1, rfl, hc1', hs1⟩ := HA1.out i R hR
            obtain ⟨a2, u2, rfl, hc2', hs2⟩ := HA2.out i R hR2
            have g1 := (HBR.out.cell (World.block_lt_of_cell? W6 _ hc1')).trans hc1'
            have g2 := (HBR.out.cell (World.block_lt_of_cell? W6 _ hc2')).trans hc2'
            have xa := fun (x : Later wr) => x.below.cell (p := a1.add i) (World.block_lt_of_cell? wr _ g1)
            have xb := fun (x : Later wr) => x.below.cell (p := a2.add i) (World.block_lt_of_cell? wr _ g2)
            have HC : Hid (∀ x : Later wr, Calls Try.prog 18 #[u1, u2] x.w (Gives (.bool true) x.w)) := Lib.hid (fun x => by have h := same_any u1 u2 R R x.w ((hs1.below HBR.out).below x.below) ((hs2.below HBR.out).below x.below); rw [show decide (R = R) = true from decide_eq_true rfl] at h; exact h)
            clear hR hR2 hc1' hc2' hs1 hs2
            go_wp2_with fail
            refine wp_region_later_lit (by kernel_rfl) (by kernel_rfl) ?_
            repeat (go_big_quiet_step (first | (go_at_call 18; exact later_call _ (HC.out _))))
            refine wpQuiet_nil ?_
            rintro w' ⟨y, rfl⟩
            go_wp2_with fail
            go_roundw
            case rel => exact ⟨i + 1, by omega, by go_num, later_below' y HBR.out⟩
            case measure => simp [intOf]; omega
          · have b1 : decide (i < T1.length) = false := decide_eq_false c1
            have b2 : ¬ (i : Int) < (T1.length : Int) := by omega
            go_wp2_with (go_at_call 7; (first | (with_reducible refine (later_call _ (awake_G _)).mono ?_) | (with_reducible refine (call_later (awake_G _)).mono ?_)); rintro e w' ⟨rfl, x, rfl⟩)
            go_ret
            refine ⟨rfl, ?_⟩
            have h1 := HB6.out.trans (HBR.out.mono HB6.out.size)
            exact h1.trans (x.below.mono h1.size)
    · have z1 : ((K1 : Int) != 0) = true := by simp [hk0]
      have z2 : decide ((K1 : Int) = 0) = false := decide_eq_false (by omega)
      have z3 : ((K1 : Int) == 0) = false := by simp [hk0]
      have em : T1.length - (if K1 = 0 ∧ 0 < T1.length then 1 else 0) = T1.length := by rw [if_neg (fun hc => hk0 hc.1)]; omega
      rw [em] at hM2 hM3
      have HFQ : T1.length ≤ T1.length ∧ T1.length ≤ T2.length ∧ ∀ i, i < T1.length → T1[i]? = T2[i]? := ⟨Nat.le_refl _, hM2, hM3⟩
      by_cases ha1 : A1 < k
      · obtain ⟨rfl, rfl⟩ := hM1 hk0 ha1
        have y1 : (A1 : Int) < (k : Int) := by omega
        have y2 : decide (A1 < k) = true := decide_eq_true ha1
        clear hM1 hM2 hM3 em hk0
        have HLE : T1.length ≤ T1.length ∧ T1.length ≤ T2.length ∧ ∀ i, i < T1.length → T1[i]? = T2[i]? := HFQ
        have hle2 : T1.length ≤ T2.length := HLE.2.1
        have hle1 : T1.length ≤ T1.length := HLE.1
        have HQ := Lib.hid HLE.2.2
        have e9 : decide ((T2.length : Int) < (T1.length : Int)) = false := decide_eq_false (fun hc => Nat.not_lt.2 hle2 (Int.ofNat_lt.1 hc))
        have e9n : decide (T2.length < T1.length) = false := decide_eq_false (Nat.not_lt.2 hle2)
        have e9i : ¬ ((T2.length : Int) < (T1.length : Int)) := fun hc => Nat.not_lt.2 hle2 (Int.ofNat_lt.1 hc)
        have HL1 := Lib.hid hle1
        have HL2 := Lib.hid hle2
        have hm6 : T1.length ≤ 100000 := Nat.le_trans hle1 HT1.out
        clear HLE HFQ hle1 hle2 hm6
        go_wp2_with fail
        go_loopw [14, 78] (fun _ z78 (wr : World) => ∃ i : Nat, i ≤ T1.length ∧ z78 = .int .i64 i ∧ Below W6.heap.size W6 wr) (fun _ z78 _ => T1.length - (intOf z78).toNat)
        case atStart => exact ⟨0, Nat.zero_le _, rfl, Below.refl _ _⟩
        case round =>
          obtain ⟨i, hi, rfl, hb⟩ := hrel
          have HBR := Lib.hid hb
          clear hb
          by_cases c1 : i < T1.length
          · have b1 : decide (i < T1.length) = true := decide_eq_true c1
            have b2 : (i : Int) < (T1.length : Int) := by omega
            have c3 := Nat.lt_of_lt_of_le c1 HL1.out
            have c4 := Nat.lt_of_lt_of_le c1 HL2.out
            have b3 : (i : Int) < (T1.length : Int) := Int.ofNat_lt.2 c3
            have b4 : (i : Int) < (T2.length : Int) := Int.ofNat_lt.2 c4
            obtain ⟨R, hR⟩ : ∃ R, T1[i]? = some R := ⟨_, List.getElem?_eq_getElem c3⟩
            have hR2 : T2[i]? = some R := by rw [← HQ.out i c1]; exact hR
            obtain ⟨a1, u1, rfl, hc1', hs1⟩ := HA1.out i R hR
            obtain ⟨a2, u2, rfl, hc2', hs2⟩ := HA2.out i R hR2
            have g1 := (HBR.out.cell (World.block_lt_of_cell? W6 _ hc1')).trans hc1'
            have g2 := (HBR.out.cell (World.block_lt_of_cell? W6 _ hc2')).trans hc2'
            have xa := fun (x : Later wr) => x.below.cell (p := a1.add i) (World.block_lt_of_cell? wr _ g1)
            have xb := fun (x : Later wr) => x.below.cell (p := a2.add i) (World.block_lt_of_cell? wr _ g2)
            have HC : Hid (∀ x : Later wr, Calls Try.prog 18 #[u1, u2] x.w (Gives (.bool true) x.w)) := Lib.hid (fun x => by have h := same_any u1 u2 R R x.w ((hs1.below HBR.out).below x.below) ((hs2.below HBR.out).below x.below); rw [show decide (R = R) = true from decide_eq_true rfl] at h; exact h)
            clear hR hR2 hc1' hc2' hs1 hs2
            go_wp2_with fail
            refine wp_region_later_lit (by kernel_rfl) (by kernel_rfl) ?_
            repeat (go_big_quiet_step (first | (go_at_call 18; exact later_call _ (HC.out _))))
            refine wpQuiet_nil ?_
            rintro w' ⟨y, rfl⟩
            go_wp2_with fail
            go_roundw
            case rel => exact ⟨i + 1, by omega, by go_num, later_below' y HBR.out⟩
            case measure => simp [intOf]; omega
          · have b1 : decide (i < T1.length) = false := decide_eq_false c1
            have b2 : ¬ (i : Int) < (T1.length : Int) := by omega
            go_wp2_with (go_at_call 7; (first | (with_reducible refine (later_call _ (awake_G _)).mono ?_) | (with_reducible refine (call_later (awake_G _)).mono ?_)); rintro e w' ⟨rfl, x, rfl⟩)
            go_ret
            refine ⟨rfl, ?_⟩
            have h1 := HB6.out.trans (HBR.out.mono HB6.out.size)
            exact h1.trans (x.below.mono h1.size)
      · have y1 : ¬ (A1 : Int) < (k : Int) := by omega
        have y2 : decide (A1 < k) = false := decide_eq_false ha1
        clear hM1 hM2 hM3 em hk0
        have HLE : T1.length ≤ T1.length ∧ T1.length ≤ T2.length ∧ ∀ i, i < T1.length → T1[i]? = T2[i]? := HFQ
        have hle2 : T1.length ≤ T2.length := HLE.2.1
        have hle1 : T1.length ≤ T1.length := HLE.1
        have HQ := Lib.hid HLE.2.2
        have e9 : decide ((T2.length : Int) < (T1.length : Int)) = false := decide_eq_false (fun hc => Nat.not_lt.2 hle2 (Int.ofNat_lt.1 hc))
        have e9n : decide (T2.length < T1.length) = false := decide_eq_false (Nat.not_lt.2 hle2)
        have e9i : ¬ ((T2.length : Int) < (T1.length : Int)) := fun hc => Nat.not_lt.2 hle2 (Int.ofNat_lt.1 hc)
        have HL1 := Lib.hid hle1
        have HL2 := Lib.hid hle2
        have hm6 : T1.length ≤ 100000 := Nat.le_trans hle1 HT1.out
        clear HLE HFQ hle1 hle2 hm6
        go_wp2_with fail
        go_loopw [14, 78] (fun _ z78 (wr : World) => ∃ i : Nat, i ≤ T1.length ∧ z78 = .int .i64 i ∧ Below W6.heap.size W6 wr) (fun _ z78 _ => T1.length - (intOf z78).toNat)
        case atStart => exact ⟨0, Nat.zero_le _, rfl, Below.refl _ _⟩
        case round =>
          obtain ⟨i, hi, rfl, hb⟩ := hrel
          have HBR := Lib.hid hb
          clear hb
          by_cases c1 : i < T1.length
          · have b1 : decide (i < T1.length) = true := decide_eq_true c1
            have b2 : (i : Int) < (T1.length : Int) := by omega
            have c3 := Nat.lt_of_lt_of_le c1 HL1.out
            have c4 := Nat.lt_of_lt_of_le c1 HL2.out
            have b3 : (i : Int) < (T1.length : Int) := Int.ofNat_lt.2 c3
            have b4 : (i : Int) < (T2.length : Int) := Int.ofNat_lt.2 c4
            obtain ⟨R, hR⟩ : ∃ R, T1[i]? = some R := ⟨_, List.getElem?_eq_getElem c3⟩
            have hR2 : T2[i]? = some R := by rw [← HQ.out i c1]; exact hR
            obtain ⟨a1, u1, rfl, hc1', hs1⟩ := HA1.out i R hR
            obtain ⟨a2, u2, rfl, hc2', hs2⟩ := HA2.out i R hR2
            have g1 := (HBR.out.cell (World.block_lt_of_cell? W6 _ hc1')).trans hc1'
            have g2 := (HBR.out.cell (World.block_lt_of_cell? W6 _ hc2')).trans hc2'
            have xa := fun (x : Later wr) => x.below.cell (p := a1.add i) (World.block_lt_of_cell? wr _ g1)
            have xb := fun (x : Later wr) => x.below.cell (p := a2.add i) (World.block_lt_of_cell? wr _ g2)
            have HC : Hid (∀ x : Later wr, Calls Try.prog 18 #[u1, u2] x.w (Gives (.bool true) x.w)) := Lib.hid (fun x => by have h := same_any u1 u2 R R x.w ((hs1.below HBR.out).below x.below) ((hs2.below HBR.out).below x.below); rw [show decide (R = R) = true from decide_eq_true rfl] at h; exact h)
            clear hR hR2 hc1' hc2' hs1 hs2
            go_wp2_with fail
            refine wp_region_later_lit (by kernel_rfl) (by kernel_rfl) ?_
            repeat (go_big_quiet_step (first | (go_at_call 18; exact later_call _ (HC.out _))))
            refine wpQuiet_nil ?_
            rintro w' ⟨y, rfl⟩
            go_wp2_with fail
            go_roundw
            case rel => exact ⟨i + 1, by omega, by go_num, later_below' y HBR.out⟩
            case measure => simp [intOf]; omega
          · have b1 : decide (i < T1.length) = false := decide_eq_false c1
            have b2 : ¬ (i : Int) < (T1.length : Int) := by omega
            go_wp2_with (go_at_call 7; (first | (with_reducible refine (later_call _ (awake_G _)).mono ?_) | (with_reducible refine (call_later (awake_G _)).mono ?_)); rintro e w' ⟨rfl, x, rfl⟩)
            go_ret
            refine ⟨rfl, ?_⟩
            have h1 := HB6.out.trans (HBR.out.mono HB6.out.size)
            exact h1.trans (x.below.mono h1.size)

theorem front_any (p q : Nat) (n : Int) (s : ByteArray) (a : Nat) (w : World) (hp : p < 256) (hq : q < 256) (ha : a < 65536) (hs : s.size ≤ maxLen) : Calls Try.prog 5 #[.agg #[.int .u8 p, .int .u8 q, .int .i64 n], .string s, .int .u16 a] w (Gives (.bool true) w) := by
  by_cases h : 300 < s.size
  · exact front_long p q n s a w h hs
  · cases hok : okB p q n
    · exact front_bad p q n s a w hp hq (by omega) hok
    · exact front_main p q n s a w hp hq ha (by omega) hok

set_option maxRecDepth 100000 in
theorem open_u16 {H : Type} {enc : TypeId × Value → H} {W : World} {base : Nat} {v : Value} {d : DataW H} {p : List MemPlace}
    (hv : Value.okWide Try.prog W .any base 53 v) (h : DataW.Trod enc Try.prog W 0 (fun _ => true) true 53 v d p) : ∃ n : Nat, n < 65536 ∧ v = .int .u16 n := by
  obtain ⟨a, rfl, _, _, wa⟩ := open_int Try.underlying53 hv h
  have hb := bounds_u16 wa
  exact ⟨a.toNat, by omega, by congr 1; omega⟩

set_option maxRecDepth 100000 in
theorem wholeFront_lifted (os : Os) (started : os.Started) (H : Type) (enc : TypeId × Value → H) :
    ReturnsInHanded {} Try.checked os 5 .any (Rows.wholeFrontSpec.pre6 enc Try.prog Try.f5 Rows.wholeFrontRow.domain false) (Rows.wholeFrontSpec.post enc Try.prog Try.f5 false true false false) := by
  refine law_lift (C := Try.checked) (tb := 4) Try.own Try.laidOut started (by kernel_rfl) Try.func5
    (ChangeSpec.witness6 (enc := enc) (C := Try.checked) false ⟨#[], #[.agg #[.int .u8 0, .int .u8 0, .int .i64 0], .string ⟨#[]⟩, .int .u16 0], []⟩ 8 (by kernel_rfl) (by kernel_rfl) (by kernel_rfl) (by kernel_rfl))
    rfl Try.underlying4 (by intro t ht; have ht' : t ∈ [23, 9, 53] := ht; simp at ht'; rcases ht' with rfl | rfl | rfl <;> exact ⟨by kernel_rfl, of_decide_eq_true (by kernel_rfl)⟩) rfl
    (fun ds h => match ds, h with | [_, _, _], _ => rfl) ?_
  intro W base args ds ps hh
  obtain ⟨v, v', v'', d, d', d'', p, p', p'', rfl, ⟨hv, hv', hv''⟩, h0, h0', h0''⟩ := handed_three Try.params5 hh
  obtain ⟨a, b, n, ha, hb, rfl⟩ := open_dialect hv h0
  obtain ⟨s, rfl, hs⟩ := open_text hv' h0'
  obtain ⟨k, hk, rfl⟩ := open_u16 hv'' h0''
  exact front_any a b n s k W ha hb hk hs

theorem wholeFront_holds : Rows.WholeFrontSaid :=
  OpenClaim.holds_of_wide 5 Try.f5 rfl rfl rfl rfl rfl rfl rfl ⟨rfl, rfl, rfl, rfl, rfl⟩ rfl rfl rfl rfl rfl (by kernel_rfl) Try.func5 (by kernel_rfl)
    (of_decide_eq_true (by kernel_rfl)) (by unfold Func.isWrapper; first | (rw [if_pos (by decide +kernel)]; kernel_rfl) | (rw [if_neg (by decide +kernel)]; exact ⟨rfl, rfl⟩))
    (fun os started H enc _ => wholeFront_lifted os started H enc)
#print axioms wholeFront_holds

end Go.Proofs.Ytdjlbbemgahohaa
