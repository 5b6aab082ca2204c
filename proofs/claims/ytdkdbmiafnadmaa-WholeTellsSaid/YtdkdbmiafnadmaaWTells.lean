/-
  The law WholeTells returns true for every dialect, every text and every number. Conditions: none.
-/
import Derived.Test.YtdkdbmiafnadmaaRows
import Derived.Test.YtdkdbmiafnadmaaLaw
import Derived.Test.YtdkdbmiafnadmaaTel
import Derived.Test.YtdkdbmiafnadmaaRnd
import Derived.Test.YtdkdbmiafnadmaaAwk
import Derived.Test.YtdkdbmiafnadmaaOpenD
import Derived.Lib.Hide
namespace Go.Proofs.Ytdkdbmiafnadmaa
open Go.RowKit Go.Shelf
attribute [local go_sem] Oper.semAt_some

theorem at_worldIn {C : Code} {F : Fence} {n : Nat} {P : Program} {Q : Exit → Act → World → Prop} {a : Act} {W : World} (h : ∀ W0, W = W0 → C.wpIn F n P Q a W0) : C.wpIn F n P Q a W := h W rfl

theorem giv_ne {b : Nat} {T : List (List ByteArray)} {i : Nat} {v : Value} {W : World} (h : GivR b T i v W) {l : Nat} {r : Loop} (hl : W.heap[l]? = some (.loop r)) {g : Nat} (hv : v.ownBlock = some g) : g ≠ l := by
  intro e
  subst e
  obtain ⟨R, _, h⟩ := h
  rcases h.2 with ⟨rfl, _⟩ | ⟨g', cap, cur, rfl, _, h5, _⟩
  · cases hv
  · have e : (Value.slice (some ⟨g', 0, none⟩) R.length cap).ownBlock = some g' := rfl
    rw [e] at hv
    injection hv with hv
    subst hv
    rw [hl] at h5
    cases h5
theorem giv_neD {b : Nat} {T : List (List ByteArray)} {i : Nat} {v : Value} {W : World} (h : GivR b T i v W) {l : Nat} {r : Option (List Deferred)} (hl : W.heap[l]? = some (.deferred r)) {g : Nat} (hv : v.ownBlock = some g) : g ≠ l := by
  intro e
  subst e
  obtain ⟨R, _, h⟩ := h
  rcases h.2 with ⟨rfl, _⟩ | ⟨g', cap, cur, rfl, _, h5, _⟩
  · cases hv
  · have e : (Value.slice (some ⟨g', 0, none⟩) R.length cap).ownBlock = some g' := rfl
    rw [e] at hv
    injection hv with hv
    subst hv
    rw [hl] at h5
    cases h5
theorem func_nilIn {P : Program} (W : World) (d : Nat) (t : TypeId) {ps rs : Array TypeId} {vr : Bool} (g : Fn) (a b : Array Value) (h : P.underlying t = some (.func ps rs vr)) :
    (Op.equalIn (d + 1) t (.func g a b) .nilFunc).run P W = .ok false W := by
  simp [Op.equalIn, run_underlying h]
theorem func_nil (a b c : Nat) (W : World) : (binOp .eql 46 (.func (.func 23) #[] #[.pointer (some ⟨a, 0, none⟩), .pointer (some ⟨b, 0, none⟩), .pointer (some ⟨c, 0, none⟩)]) .nilFunc).run Try.prog W = .ok (.bool false) W := by
  simp only [binOp]
  simp [Op.equal, Op.maxDepth, func_nilIn W 9999 _ _ _ _ Try.underlying46]

theorem records_ret (p q : Nat) (n : Int) (l : Lim) (s : ByteArray) (w : World) : Calls Try.prog 13 #[.agg #[.int .u8 p, .int .u8 q, .int .i64 n], .agg #[.int .i64 l.fs, .int .i64 l.fl, .int .i64 l.rs, .bool l.un], .string s] w
    (fun e w' => ∃ a, e = .returned (.func (.func 23) #[] #[.pointer (some ⟨a, 0, none⟩), .pointer (some ⟨a + 1, 0, none⟩), .pointer (some ⟨a + 1 + 1, 0, none⟩)]) ∧ Box w' a 23 #[.int .u8 p, .int .u8 q, .int .i64 n] ∧
      Box w' (a + 1) 25 #[.int .i64 l.fs, .int .i64 l.fl, .int .i64 l.rs, .bool l.un] ∧ Box w' (a + 1 + 1) 9 #[.string s] ∧ w.heap.size ≤ a ∧ Below w.heap.size w w') := by
  have hmf : ∀ fn first cap w, (Instr.makeFunc fn first cap).run Try.prog w = .ok (.func fn first cap) w := fun _ _ _ _ => rfl
  go_enter Try.func13, Try.ntmps13
  go_wp2
  refine bodyPost_ret (v := .func (.func 23) #[] #[.pointer (some ⟨w.heap.size, 0, none⟩), .pointer (some ⟨w.heap.size + 1, 0, none⟩), .pointer (some ⟨w.heap.size + 1 + 1, 0, none⟩)]) (by simp [results, Try.results13]) rfl ?_
  refine ⟨w.heap.size, rfl, ((Box.new w _ _).alloc _).alloc _, ?_, ?_, Nat.le_refl _, (((Below.refl _ _).alloc (Nat.le_refl _) _).alloc (by simp) _).alloc (by simp; omega) _⟩
  · have := (Box.new (w.alloc (.cells #[.int .u8 p, .int .u8 q, .int .i64 n] 23)) 25 #[.int .i64 l.fs, .int .i64 l.fl, .int .i64 l.rs, .bool l.un]).alloc (.cells #[.string s] 9)
    rwa [World.size_alloc] at this
  · have := Box.new ((w.alloc (.cells #[.int .u8 p, .int .u8 q, .int .i64 n] 23)).alloc (.cells #[.int .i64 l.fs, .int .i64 l.fl, .int .i64 l.rs, .bool l.un] 25)) 9 #[.string s]
    rwa [World.size_alloc, World.size_alloc] at this

theorem tells_end {n : Nat} {w W0 W w5 : World} {b2 b10 D : Nat} {tmps : Array Value} (hb2 : w.heap.size = b2) (hE : Below b2 w W0) (hk : Keeps W0 W (fun k => k = b10)) (h4 : Box w5 (b2 + 1 + 1) 4 #[.bool false]) (hb5 : Below W.heap.size W w5)
    (hd : W.heap[D]? = some (.deferred (some []))) (h1 : b2 ≤ b10) (h2 : b2 + 1 + 1 < W0.heap.size) (hD : W0.heap.size ≤ D) (ht : tmps[6]? = some (.pointer (some ⟨b2 + 1 + 1, 0, none⟩))) :
    bodyPostM Fence.wide n Try.prog Try.f4 (Gives (.bool true) w) .ret { tmps := tmps, defers := [{ target := .collected D, args := #[] }] } (w5.setCell ⟨b2 + 1 + 1, 0, none⟩ (.bool true)) := by
  have hd5 : w5.heap[D]? = some (.deferred (some [])) := (hb5.block D (Array.getElem?_eq_some_iff.1 hd).1).trans hd
  have hd6 : (w5.setCell ⟨b2 + 1 + 1, 0, none⟩ (.bool true)).heap[D]? = some (.deferred (some [])) := (Below.heap_setCell w5 ⟨b2 + 1 + 1, 0, none⟩ _ D (by show D ≠ b2 + 1 + 1; omega)).trans hd5
  have hc : ((w5.setCell ⟨b2 + 1 + 1, 0, none⟩ (.bool true)).putObj D (.deferred none)).cell? ⟨b2 + 1 + 1, 0, none⟩ = some (.bool true) := by
    have := (h4.set 0 (.bool true)).kept (w' := (w5.setCell ⟨b2 + 1 + 1, 0, none⟩ (.bool true)).putObj D (.deferred none)) (World.putObj_heap_other (by omega))
    exact this.cell 0
  refine ⟨by simp, .inl ⟨_, _, rfl, run_takeDeferred hd6, ?_⟩⟩
  refine ⟨.bool true, ?_, rfl, ?_⟩
  · simp [results, Try.results4, go_sem, hc, ht]
  · rw [hb2]
    have k1 : Keeps W0 (w5.setCell ⟨b2 + 1 + 1, 0, none⟩ (.bool true)) (fun k => k = b10 ∨ k = b2 + 1 + 1) := ((hk.below hb5).mono (fun k _ h => .inl h)).set (b2 + 1 + 1) 0 _ (.inl (.inr rfl))
    have k2 := k1.trans (keeps_put (l := D) (.deferred none)) (fun k hk h => by omega)
    exact hE.trans (k2.toBelow (by omega) (fun k hk h => by omega))

theorem tells_long (p q : Nat) (n : Int) (s : ByteArray) (k : Nat) (w : World) (h : 300 < s.size) (hs : s.size ≤ maxLen) : Calls Try.prog 4 #[.agg #[.int .u8 p, .int .u8 q, .int .i64 n], .string s, .int .u8 k] w (Gives (.bool true) w) := by
  apply Gives.of
  unfold maxLen at hs
  have hcell := fun (W : World) (x : Later W) => x.cell
  have hfrozen := fun (W : World) (x : Later W) => x.frozen
  have d1 : decide ((300 : Int) < (s.size : Int)) = true := decide_eq_true (by omega)
  go_enter Try.func4, Try.ntmps4
  go_wp2_with (go_at_call 5; (first | (with_reducible refine (later_call _ (awake_any _)).mono ?_) | (with_reducible refine (call_later (awake_any _)).mono ?_)); rintro e w' ⟨rfl, x, rfl⟩)
  refine bodyPost_ret (v := .bool true) (by simp (maxDischargeDepth := 8) [results, Try.results4, go_sem, hcell, set_same]) rfl ⟨rfl, ?_⟩
  (repeat (first | (with_reducible exact Below.refl _ _) | (with_reducible refine later_below _ ?_) | (with_reducible refine alloc_below ?_ _) | (with_reducible refine Below.drew ?_) | (refine Below.setCell ?_ (by first | exact Nat.le_refl _ | (simp; done) | (simp; omega) | omega) _)))


theorem resA_zero {p q : Nat} {n : Int} {l : Lim} {s : ByteArray} (h : resK p q n l s = 0) : resA p q n l s = 0 := by
  unfold resK at h
  unfold resA
  by_cases hy : whyE p q n l ≠ 0
  · rw [if_pos hy]
  · rw [if_neg hy] at h ⊢
    rw [if_pos h]

set_option maxRecDepth 100000 in
set_option maxHeartbeats 8000000 in
theorem tells_main (p q : Nat) (n : Int) (s : ByteArray) (k : Nat) (w : World) (hk : k < 256) (h : s.size ≤ 300) : Calls Try.prog 4 #[.agg #[.int .u8 p, .int .u8 q, .int .i64 n], .string s, .int .u8 k] w (Gives (.bool true) w) := by
  have hfn := func_nil
  have hcell := fun (W : World) (x : Later W) => x.cell
  have d1 : decide ((300 : Int) < (s.size : Int)) = false := decide_eq_false (by omega)
  have HP := Lib.hid (fun W => parse_any p q n wLim s W (by omega))
  have HI := Lib.hid (fun d1 d2 d3 m S W h1 h2 h3 h4 => records_iter p q n wLim s d1 d2 d3 m S W (by omega) h1 h2 h3 h4)
  have HF : Hid (∀ W : World, Calls Try.prog 14 #[.agg #[.int .u8 p, .int .u8 q, .int .i64 n], .agg #[.int .i64 2147483648, .int .i64 2147483648, .int .i64 2147483648, .bool false], .string s] W (Gives (.agg #[.int .i64 (resK p q n wLim s), .int .i64 (resA p q n wLim s)]) W)) := Lib.hid (fun W => first_any p q n wLim s W (by omega))
  have HQ := Lib.hid (fun W => parses_any p q n s W (by omega))
  have HR : Hid (∀ W : World, Calls Try.prog 13 #[.agg #[.int .u8 p, .int .u8 q, .int .i64 n], .agg #[.int .i64 2147483648, .int .i64 2147483648, .int .i64 2147483648, .bool false], .string s] W
    (fun e w' => ∃ a, e = .returned (.func (.func 23) #[] #[.pointer (some ⟨a, 0, none⟩), .pointer (some ⟨a + 1, 0, none⟩), .pointer (some ⟨a + 1 + 1, 0, none⟩)]) ∧ Box w' a 23 #[.int .u8 p, .int .u8 q, .int .i64 n] ∧
      Box w' (a + 1) 25 #[.int .i64 2147483648, .int .i64 2147483648, .int .i64 2147483648, .bool false] ∧ Box w' (a + 1 + 1) 9 #[.string s] ∧ W.heap.size ≤ a ∧ Below W.heap.size W w')) := Lib.hid (fun W => records_ret p q n wLim s W)
  have hKA := resA_zero (p := p) (q := q) (n := n) (l := wLim) (s := s)
  unfold ParP at HP
  generalize resK p q n wLim s = K at HP HF HQ hKA
  generalize resA p q n wLim s = A0 at HP HF HQ hKA
  generalize resT p q n wLim s = T at HP HI
  have HP2 : Hid (∀ W : World, Calls Try.prog 6 #[.agg #[.int .u8 p, .int .u8 q, .int .i64 n], .agg #[.int .i64 2147483648, .int .i64 2147483648, .int .i64 2147483648, .bool false], .string s] W (fun e w' => ∃ v, e = .returned (.tuple #[v, .agg #[.int .i64 K, .int .i64 A0]]) ∧ Tbl w' v T ∧ Below W.heap.size W w')) := Lib.hid (fun W => HP.out W)
  have HKA := Lib.hid hKA
  clear HP hKA
  obtain ⟨W3, hW3⟩ : ∃ W3, (((w.alloc (.cells #[.int .u8 p, .int .u8 q, .int .i64 n] 23)).alloc (.cells #[.int .u8 k] 5)).alloc (.cells #[.bool false] 4)).alloc (.cells #[.int .i64 2147483648, .int .i64 2147483648, .int .i64 2147483648, .bool false] 25) = W3 := ⟨_, rfl⟩
  have P1 : Hid (Box W3 w.heap.size 23 #[.int .u8 p, .int .u8 q, .int .i64 n]) := Lib.hid (by rw [← hW3]; exact (((Box.new w _ _).alloc _).alloc _).alloc _)
  have P2 : Hid (Box W3 (w.heap.size + 1) 5 #[.int .u8 k]) := Lib.hid (by rw [← hW3]; have := ((Box.new (w.alloc (.cells #[.int .u8 p, .int .u8 q, .int .i64 n] 23)) 5 #[.int .u8 k]).alloc (.cells #[.bool false] 4)).alloc (.cells #[.int .i64 2147483648, .int .i64 2147483648, .int .i64 2147483648, .bool false] 25); rwa [World.size_alloc] at this)
  have P3 : Hid (Box W3 (w.heap.size + 1 + 1) 4 #[.bool false]) := Lib.hid (by rw [← hW3]; have := (Box.new ((w.alloc (.cells #[.int .u8 p, .int .u8 q, .int .i64 n] 23)).alloc (.cells #[.int .u8 k] 5)) 4 #[.bool false]).alloc (.cells #[.int .i64 2147483648, .int .i64 2147483648, .int .i64 2147483648, .bool false] 25); rwa [World.size_alloc, World.size_alloc] at this)
  have P4 : Hid (Box W3 (w.heap.size + 1 + 1 + 1) 25 #[.int .i64 2147483648, .int .i64 2147483648, .int .i64 2147483648, .bool false]) := Lib.hid (by rw [← hW3]; have := Box.new (((w.alloc (.cells #[.int .u8 p, .int .u8 q, .int .i64 n] 23)).alloc (.cells #[.int .u8 k] 5)).alloc (.cells #[.bool false] 4)) 25 #[.int .i64 2147483648, .int .i64 2147483648, .int .i64 2147483648, .bool false]; rwa [World.size_alloc, World.size_alloc, World.size_alloc] at this)
  have P0 : Hid (Below w.heap.size w W3) := Lib.hid (by rw [← hW3]; exact ((((Below.refl _ _).alloc (Nat.le_refl _) _).alloc (by simp) _).alloc (by simp; omega) _).alloc (by simp; omega) _)
  have HW3 := Lib.hid hW3
  clear hW3
  refine (callsIn_wide (n := 8)).1 ?_
  refine callsIn_of_wp_marks Try.func4 rfl trivial ?_ rfl
  simp only [Try.ntmps4, List.size_toArray, List.length_cons, List.length_nil, Nat.reduceAdd, Nat.reduceSub, Array.replicate_succ, Array.replicate_zero, List.push_toArray, List.append_toArray, List.nil_append, List.cons_append]
  refine wpIn_wide.2 ?_
  go_upto_region 5 with (go_at_call 6; rw [HW3.out]; refine (HP2.out _).mono ?_; rintro e w1 ⟨v, rfl, ht, hb⟩; have HT := Lib.hid ht; have HB := Lib.hid hb; obtain ⟨At, ct, rfl, hcl, hcm, _⟩ := ht; clear hb)
  refine at_worldT ?_
  intro V hV
  have hP4 := P4.out.lt
  have hB1 := HB.out.size
  have T1 : Box V w.heap.size 23 #[.int .u8 p, .int .u8 q, .int .i64 n] := by rw [← hV]; exact ((P1.out.below HB.out P1.out.lt).alloc _).alloc _
  have T2 : Box V (w.heap.size + 1) 5 #[.int .u8 k] := by rw [← hV]; exact ((P2.out.below HB.out P2.out.lt).alloc _).alloc _
  have T3 : Box V (w.heap.size + 1 + 1) 4 #[.bool false] := by rw [← hV]; exact ((P3.out.below HB.out P3.out.lt).alloc _).alloc _
  have T4 : Box V (w.heap.size + 1 + 1 + 1) 25 #[.int .i64 2147483648, .int .i64 2147483648, .int .i64 2147483648, .bool false] := by rw [← hV]; exact ((P4.out.below HB.out P4.out.lt).alloc _).alloc _
  have T8 : Box V w1.heap.size 27 #[.slice At T.length ct] := by rw [← hV]; exact (Box.new w1 _ _).alloc _
  have T9 : Box V (w1.heap.size + 1) 30 #[.int .i64 (K : Int), .int .i64 (A0 : Int)] := by
    rw [← hV]
    have := Box.new (w1.alloc (.cells #[.slice At T.length ct] 27)) 30 #[.int .i64 (K : Int), .int .i64 (A0 : Int)]
    rwa [World.size_alloc] at this
  have hb5 : Below w1.heap.size w1 V := by rw [← hV]; exact ((Below.refl _ _).alloc (Nat.le_refl _) _).alloc (by simp) _
  have TT : Tbl V (.slice At T.length ct) T := HT.out.below hb5
  have T0 : Below w.heap.size w V := (P0.out.trans (HB.out.mono P0.out.size)).trans (hb5.mono (Nat.le_trans P0.out.size hB1))
  have k0 : V.cell? ⟨w.heap.size, 0, none⟩ = some (.int .u8 p) := T1.cell 0
  have k1 : V.cell? ⟨w.heap.size, 1, none⟩ = some (.int .u8 q) := T1.cell 1
  have k2 : V.cell? ⟨w.heap.size, 2, none⟩ = some (.int .i64 n) := T1.cell 2
  have l0 : V.cell? ⟨w.heap.size + 1 + 1 + 1, 0, none⟩ = some (.int .i64 2147483648) := T4.cell 0
  have l1 : V.cell? ⟨w.heap.size + 1 + 1 + 1, 1, none⟩ = some (.int .i64 2147483648) := T4.cell 1
  have l2 : V.cell? ⟨w.heap.size + 1 + 1 + 1, 2, none⟩ = some (.int .i64 2147483648) := T4.cell 2
  have l3 : V.cell? ⟨w.heap.size + 1 + 1 + 1, 3, none⟩ = some (.bool false) := T4.cell 3
  have HT1 := Lib.hid T1
  have HT2 := Lib.hid T2
  have HT3 := Lib.hid T3
  have HT4 := Lib.hid T4
  have HT8 := Lib.hid T8
  have HT9 := Lib.hid T9
  have HTT := Lib.hid TT
  have HT0 := Lib.hid T0
  have HNM : Hid (w.heap.size + 1 + 1 + 1 < w1.heap.size ∧ w1.heap.size + 1 < V.heap.size) := Lib.hid ⟨by omega, T9.lt⟩
  clear hV T1 T2 T3 T4 T8 T9 hb5 TT T0 hP4 hB1 P0 P1 P2 P3 P4 HW3 HB HT HP2
  go_upto_region 6 with (go_at_call 13; refine (HR.out _).mono ?_; rintro e w6 ⟨a, rfl, ha1, ha2, ha3, hale, hb6⟩; have HA1 := Lib.hid ha1; have HA2 := Lib.hid ha2; have HA3 := Lib.hid ha3; have HAL := Lib.hid hale; have HB6 := Lib.hid hb6; clear ha1 ha2 ha3 hale hb6)
  clear k0 k1 k2 l0 l1 l2 l3
  go_cut [47] from 29 to 80 (fun z47 wx => z47 = .bool false ∧ Below w6.heap.size w6 wx)
  case first =>
    have U1 := HT1.out.below HB6.out HT1.out.lt
    have U4 := HT4.out.below HB6.out HT4.out.lt
    have U9 := HT9.out.below HB6.out HT9.out.lt
    have k0 : w6.cell? ⟨w.heap.size, 0, none⟩ = some (.int .u8 p) := U1.cell 0
    have k1 : w6.cell? ⟨w.heap.size, 1, none⟩ = some (.int .u8 q) := U1.cell 1
    have k2 : w6.cell? ⟨w.heap.size, 2, none⟩ = some (.int .i64 n) := U1.cell 2
    have l0 : w6.cell? ⟨w.heap.size + 1 + 1 + 1, 0, none⟩ = some (.int .i64 2147483648) := U4.cell 0
    have l1 : w6.cell? ⟨w.heap.size + 1 + 1 + 1, 1, none⟩ = some (.int .i64 2147483648) := U4.cell 1
    have l2 : w6.cell? ⟨w.heap.size + 1 + 1 + 1, 2, none⟩ = some (.int .i64 2147483648) := U4.cell 2
    have l3 : w6.cell? ⟨w.heap.size + 1 + 1 + 1, 3, none⟩ = some (.bool false) := U4.cell 3
    have f0 : w6.cell? ⟨w1.heap.size + 1, 0, none⟩ = some (.int .i64 (K : Int)) := U9.cell 0
    have f1 : w6.cell? ⟨w1.heap.size + 1, 1, none⟩ = some (.int .i64 (A0 : Int)) := U9.cell 1
    have y0 := fun (y : Later w6) => (y.cell w.heap.size 0 U1.lt).trans k0
    have y1 := fun (y : Later w6) => (y.cell w.heap.size 1 U1.lt).trans k1
    have y2 := fun (y : Later w6) => (y.cell w.heap.size 2 U1.lt).trans k2
    have y3 := fun (y : Later w6) => (y.cell (w.heap.size + 1 + 1 + 1) 0 U4.lt).trans l0
    have y4 := fun (y : Later w6) => (y.cell (w.heap.size + 1 + 1 + 1) 1 U4.lt).trans l1
    have y5 := fun (y : Later w6) => (y.cell (w.heap.size + 1 + 1 + 1) 2 U4.lt).trans l2
    have y6 := fun (y : Later w6) => (y.cell (w.heap.size + 1 + 1 + 1) 3 U4.lt).trans l3
    have y7 := fun (y : Later w6) => (y.cell (w1.heap.size + 1) 0 U9.lt).trans f0
    have y8 := fun (y : Later w6) => (y.cell (w1.heap.size + 1) 1 U9.lt).trans f1
    clear U1 U4 U9
    by_cases hK0 : K = 0
    · have hA0 := HKA.out hK0
      have HQ1 : Hid (∀ W : World, Calls Try.prog 15 #[.agg #[.int .u8 p, .int .u8 q, .int .i64 n], .string s] W (Gives (.bool true) W)) := Lib.hid (fun W => by have h := HQ.out W; rwa [show decide (K = 0 ∧ A0 = 0) = true from decide_eq_true ⟨hK0, hA0⟩] at h)
      clear HQ HKA
      subst hK0 hA0
      refine wp_region_later_lit (by kernel_rfl) (by kernel_rfl) ?_
      repeat (go_big_quiet_step (first | (go_at_call 14; exact later_call _ (HF.out _)) | (go_at_call 15; exact later_call _ (HQ1.out _))))
      refine wpQuiet_nil ?_
      rintro w' ⟨y, rfl⟩
      go_wp2_with fail
      go_meet
      exact ⟨rfl, y.below⟩
    · have HQ1 : Hid (∀ W : World, Calls Try.prog 15 #[.agg #[.int .u8 p, .int .u8 q, .int .i64 n], .string s] W (Gives (.bool false) W)) := Lib.hid (fun W => by have h := HQ.out W; rwa [show decide (K = 0 ∧ A0 = 0) = false from decide_eq_false (fun hc => hK0 hc.1)] at h)
      have z2 : decide ((K : Int) = 0) = false := decide_eq_false (by omega)
      have z3 : ((K : Int) == 0) = false := by simp [hK0]
      clear HQ HKA
      refine wp_region_later_lit (by kernel_rfl) (by kernel_rfl) ?_
      repeat (go_big_quiet_step (first | (go_at_call 14; exact later_call _ (HF.out _)) | (go_at_call 15; exact later_call _ (HQ1.out _))))
      refine wpQuiet_nil ?_
      rintro w' ⟨y, rfl⟩
      go_wp2_with fail
      go_meet
      exact ⟨rfl, y.below⟩
  case rest =>
    obtain ⟨rfl, hbc⟩ := hcut
    have HBC := Lib.hid hbc
    clear hbc
    go_wp2_with fail
    refine (wpIn_wide (n := 8)).1 ?_
    refine at_worldIn ?_
    intro W0 hW0
    have hsz : W0.heap.size = wc.heap.size + 1 := by rw [← hW0]; exact World.size_alloc _ _
    have hcw : Below wc.heap.size wc W0 := by rw [← hW0]; exact (Below.refl _ _).alloc (Nat.le_refl _) _
    have h6w : Below w6.heap.size w6 W0 := HBC.out.trans (hcw.mono HBC.out.size)
    have hVW : Below V.heap.size V W0 := HB6.out.trans (h6w.mono HB6.out.size)
    have E11 : Box W0 wc.heap.size 3 #[.int .i64 ((0 : Nat) : Int)] := by rw [← hW0]; exact Box.new wc _ _
    have E2 := HT2.out.below hVW HT2.out.lt
    have E3 := HT3.out.below hVW HT3.out.lt
    have E8 := HT8.out.below hVW HT8.out.lt
    have EA1 := HA1.out.below h6w HA1.out.lt
    have EA2 := HA2.out.below h6w HA2.out.lt
    have EA3 := HA3.out.below h6w HA3.out.lt
    have E0 : Hid (Below w.heap.size w W0) := Lib.hid (HT0.out.trans (hVW.mono HT0.out.size))
    have hnm := HNM.out
    have hal := HAL.out
    have ha3 := HA3.out.lt
    have h6c := HBC.out.size
    have h2l := HT2.out.lt
    clear hW0 hcw h6w
    obtain ⟨b11, hb11⟩ : ∃ x, wc.heap.size = x := ⟨_, rfl⟩
    obtain ⟨b8, hb8⟩ : ∃ x, w1.heap.size = x := ⟨_, rfl⟩
    obtain ⟨b, hb⟩ : ∃ x, w.heap.size = x := ⟨_, rfl⟩
    rw [hb11] at hsz E11 h6c ⊢
    rw [hb8] at E8 hnm ⊢
    rw [hb] at E2 E3 E0 hnm h2l ⊢
    refine range_iter (n := 8) (S := fun j => j = b11) rfl (by omega) (gf := 23) (lb := #[.pointer (some ⟨a, 0, none⟩), .pointer (some ⟨a + 1, 0, none⟩), .pointer (some ⟨a + 1 + 1, 0, none⟩)]) rfl trivial (enters_of Try.func23 (by kernel_rfl) rfl) ?hS
      (HI.out a (a + 1) (a + 1 + 1) 7 _ W0 EA1 EA2 EA3 (fun j hj => by rw [hj]; omega)) ?hGiv ?hOwn ?hOwnD
      (fun i W => i ≤ k ∧ Box W b11 3 #[.int .i64 (i : Int)] ∧ Keeps W0 W (fun j => j = b11))
      (fun c i W => c = .exit 0 ∧ i = k + 1 ∧ Box W b11 3 #[.int .i64 (i : Int)] ∧ Keeps W0 W (fun j => j = b11)) ?hI ?hIx ?h0 ?hround ?done ?stop
    case hS => intro j hj; subst hj; omega
    case hGiv => rintro i v W l r o ⟨R, hR, hg⟩ hl; exact ⟨R, hR, owns_kept hg (fun g hv => World.putObj_heap_other (giv_ne ⟨R, hR, hg⟩ hl hv))⟩
    case hOwn => intro i v W l r hg hl hv; exact giv_ne hg hl hv rfl
    case hOwnD => intro i v W l r hg hl hv; exact giv_neD hg hl hv rfl
    case hI => rintro i W W' ⟨h00, h1, h2⟩ hk; exact ⟨h00, h1.keeps hk (by omega), h2.trans hk (fun k hk1 hk2 => by omega)⟩
    case hIx => rintro c i W W' ⟨h0, h00, h1, h2⟩ hk; exact ⟨h0, h00, h1.keeps hk (by omega), h2.trans hk (fun k hk1 hk2 => by omega)⟩
    case h0 => exact ⟨Nat.zero_le _, E11, Keeps.refl _ _⟩
    case hround =>
      rintro l i v W hi ⟨hik, hbx, hkp⟩ hg
      gi_wp2
      refine ⟨trivial, ?_⟩
      clear hik hbx hkp hg
      intro W2 hs2 ⟨hik, hbx, hkp⟩ hg
      obtain ⟨R, hR, ho⟩ := hg
      have hVW2 : Below V.heap.size V W2 := hVW.trans (hkp.toBelow (by omega) (fun j hj e => by omega))
      obtain ⟨_, _, q1, _, _, hA⟩ := HTT.out.below hVW2
      injection q1 with q2 q3 q4
      subst q2 q4
      obtain ⟨a1, u, rfl, hc, hst⟩ := hA i R hR
      have HS : Hid (Calls Try.prog 16 #[v, u] W2 (Gives (.bool true) W2)) := Lib.hid (by have h := same_any v u R R W2 ho.strs hst; rwa [show decide (R = R) = true from decide_eq_true rfl] at h)
      have X2 := E2.keeps hkp (by omega)
      have X8 := E8.keeps hkp (by omega)
      have c2 : W2.cell? ⟨b + 1, 0, none⟩ = some (.int .u8 k) := X2.cell 0
      have c8 : W2.cell? ⟨b8, 0, none⟩ = some (.slice (some a1) T.length ct) := X8.cell 0
      have c11 : W2.cell? ⟨b11, 0, none⟩ = some (.int .i64 i) := hbx.cell 0
      have i1 : (i : Int) < (T.length : Int) := by omega
      have i0 : i < T.length := hi
      have i2 : decide ((T.length : Int) ≤ (i : Int)) = false := decide_eq_false (by omega)
      have HBX := Lib.hid hbx
      have HKP := Lib.hid hkp
      have HX2 := Lib.hid X2
      have hkk : (k : Int) < 256 := by omega
      have hiw : (i : Int) < 300 := by omega
      have n1 : b + 1 ≠ b11 := by omega
      have n2 : b11 ≠ b + 1 := by omega
      clear hA ho hst hbx hkp X2 X8 hR hVW2
      have HC11 := Lib.hid c11
      by_cases e1 : k < i + 1
      · have r1 : decide ((k : Int) < (i : Int) + 1) = true := decide_eq_true (by omega)
        have r2 : (k : Int) < (i : Int) + 1 := by omega
        have HE1 := Lib.hid e1
        have HIK := Lib.hid hik
        clear e1 hik
        gi_wp2_with (refine ⟨trivial, ?_⟩; gi_at_call 16; refine (CallsIn.inRound l (callsIn_wide.2 HS.out)).mono ?_; rintro e w4 ⟨rfl, hb4⟩; have Y11 := HBX.out.below hb4 HBX.out.lt; have Y2 := HX2.out.below hb4 HX2.out.lt; have p11 : w4.cell? ⟨b11, 0, none⟩ = some (.int .i64 i) := Y11.cell 0; have f11 : w4.frozen? ⟨b11, 0, none⟩ = false := Y11.frozen 0; have p2 : w4.cell? ⟨b + 1, 0, none⟩ = some (.int .u8 k) := Y2.cell 0; have HY := Lib.hid Y11; have HB4 := Lib.hid hb4; clear Y11 Y2 hb4)
        have KW : Keeps W2 (w4.setCell ⟨b11, 0, none⟩ (.int .i64 ((i : Int) + 1))) (fun j => j = b11) := (keeps_below HB4.out _).set b11 0 _ (.inl rfl)
        exact ⟨KW.mono (fun j _ h => .inl h), rfl, by have h1 := HE1.out; have h2 := HIK.out; omega, HY.out.set 0 (.int .i64 ((i : Int) + 1)), HKP.out.trans KW (fun j _ h => h)⟩
      · have r1 : decide ((k : Int) < (i : Int) + 1) = false := decide_eq_false (by omega)
        have r2 : ¬ (k : Int) < (i : Int) + 1 := by omega
        have HE1 := Lib.hid e1
        clear e1 hik
        gi_wp2_with (refine ⟨trivial, ?_⟩; gi_at_call 16; refine (CallsIn.inRound l (callsIn_wide.2 HS.out)).mono ?_; rintro e w4 ⟨rfl, hb4⟩; have Y11 := HBX.out.below hb4 HBX.out.lt; have Y2 := HX2.out.below hb4 HX2.out.lt; have p11 : w4.cell? ⟨b11, 0, none⟩ = some (.int .i64 i) := Y11.cell 0; have f11 : w4.frozen? ⟨b11, 0, none⟩ = false := Y11.frozen 0; have p2 : w4.cell? ⟨b + 1, 0, none⟩ = some (.int .u8 k) := Y2.cell 0; have HY := Lib.hid Y11; have HB4 := Lib.hid hb4; clear Y11 Y2 hb4)
        have KW : Keeps W2 (w4.setCell ⟨b11, 0, none⟩ (.int .i64 ((i : Int) + 1))) (fun j => j = b11) := (keeps_below HB4.out _).set b11 0 _ (.inl rfl)
        exact ⟨KW.mono (fun j _ h => .inl h), by have h1 := HE1.out; omega, HY.out.set 0 (.int .i64 ((i : Int) + 1)), HKP.out.trans KW (fun j _ h => h)⟩
    case done =>
      rintro D W hD ⟨hik, hbx, hkp⟩ hdef
      have p11 : W.cell? ⟨b11, 0, none⟩ = some (.int .i64 T.length) := hbx.cell 0
      have p2 : W.cell? ⟨b + 1, 0, none⟩ = some (.int .u8 k) := (E2.keeps hkp (by omega)).cell 0
      have p8 : W.cell? ⟨b8, 0, none⟩ = some (.slice At T.length ct) := (E8.keeps hkp (by omega)).cell 0
      have HK := Lib.hid hkp
      have HX4 := Lib.hid (E3.keeps hkp (by omega))
      have HDEF := Lib.hid hdef
      have r1 : (T.length : Int) ≤ (k : Int) + 1 := by omega
      have r2 : min (T.length : Int) ((k : Int) + 1) = T.length := by omega
      have r3 : decide ((k : Int) + 1 < (T.length : Int)) = false := decide_eq_false (by omega)
      have hkk : (k : Int) < 256 := by omega
      clear hkp hbx hdef hik
      go_wp2_with (go_at_call 5; refine (awake_any W).mono ?_; rintro e w5 ⟨rfl, hb5⟩; have Y4 := HX4.out.below hb5 HX4.out.lt; have y4 : w5.cell? ⟨b + 1 + 1, 0, none⟩ = some (.bool false) := Y4.cell 0; have z4 : w5.frozen? ⟨b + 1 + 1, 0, none⟩ = false := Y4.frozen 0; have HY4 := Lib.hid Y4; have HB5 := Lib.hid hb5; clear Y4 hb5)
      exact tells_end (n := 8) hb E0.out HK.out HY4.out HB5.out HDEF.out (by omega) (by omega) hD rfl
    case stop =>
      rintro D c i W hD hi0 him ⟨rfl, hik, hbx, hkp⟩ hdef
      refine wpIn_wide.2 ?_
      have p11 : W.cell? ⟨b11, 0, none⟩ = some (.int .i64 i) := hbx.cell 0
      have p2 : W.cell? ⟨b + 1, 0, none⟩ = some (.int .u8 k) := (E2.keeps hkp (by omega)).cell 0
      have p8 : W.cell? ⟨b8, 0, none⟩ = some (.slice At T.length ct) := (E8.keeps hkp (by omega)).cell 0
      have HK := Lib.hid hkp
      have HX4 := Lib.hid (E3.keeps hkp (by omega))
      have HDEF := Lib.hid hdef
      have hkk : (k : Int) < 256 := by omega
      have hil : i ≤ T.length := him
      clear hkp hbx hdef him
      by_cases hle : T.length ≤ k + 1
      · have r1 : (T.length : Int) ≤ (k : Int) + 1 := by omega
        have r2 : min (T.length : Int) ((k : Int) + 1) = T.length := by omega
        have r3 : decide ((k : Int) + 1 < (T.length : Int)) = false := decide_eq_false (by omega)
        obtain rfl : i = T.length := by omega
        clear hil hle hik
        go_wp2_with (go_at_call 5; refine (awake_any W).mono ?_; rintro e w5 ⟨rfl, hb5⟩; have Y4 := HX4.out.below hb5 HX4.out.lt; have y4 : w5.cell? ⟨b + 1 + 1, 0, none⟩ = some (.bool false) := Y4.cell 0; have z4 : w5.frozen? ⟨b + 1 + 1, 0, none⟩ = false := Y4.frozen 0; have HY4 := Lib.hid Y4; have HB5 := Lib.hid hb5; clear Y4 hb5)
        exact tells_end (n := 8) hb E0.out HK.out HY4.out HB5.out HDEF.out (by omega) (by omega) hD rfl
      · have r1 : ¬ (T.length : Int) ≤ (k : Int) + 1 := by omega
        have r2 : min (T.length : Int) ((k : Int) + 1) = (k : Int) + 1 := by omega
        have r3 : decide ((k : Int) + 1 < (T.length : Int)) = true := decide_eq_true (by omega)
        subst hik
        clear hil hle
        go_wp2_with (go_at_call 5; refine (awake_any W).mono ?_; rintro e w5 ⟨rfl, hb5⟩; have Y4 := HX4.out.below hb5 HX4.out.lt; have y4 : w5.cell? ⟨b + 1 + 1, 0, none⟩ = some (.bool false) := Y4.cell 0; have z4 : w5.frozen? ⟨b + 1 + 1, 0, none⟩ = false := Y4.frozen 0; have HY4 := Lib.hid Y4; have HB5 := Lib.hid hb5; clear Y4 hb5)
        exact tells_end (n := 8) hb E0.out HK.out HY4.out HB5.out HDEF.out (by omega) (by omega) hD rfl

theorem tells_any (p q : Nat) (n : Int) (s : ByteArray) (k : Nat) (w : World) (hk : k < 256) (hs : s.size ≤ maxLen) : Calls Try.prog 4 #[.agg #[.int .u8 p, .int .u8 q, .int .i64 n], .string s, .int .u8 k] w (Gives (.bool true) w) := by
  by_cases h : 300 < s.size
  · exact tells_long p q n s k w h hs
  · exact tells_main p q n s k w hk (by omega)

open Go.ChangeShapes Go.WideShapes Go.ChangeAt Go.Joins

set_option maxRecDepth 100000 in
theorem open_u8 {H : Type} {enc : TypeId × Value → H} {W : World} {base : Nat} {v : Value} {d : DataW H} {p : List MemPlace}
    (hv : Value.okWide Try.prog W .any base 5 v) (h : DataW.Trod enc Try.prog W 0 (fun _ => true) true 5 v d p) : ∃ n : Nat, n < 256 ∧ v = .int .u8 n := by
  obtain ⟨a, rfl, _, _, wa⟩ := open_int Try.underlying5 hv h
  have hb := bounds_u8 wa
  exact ⟨a.toNat, by omega, by congr 1; omega⟩

set_option maxRecDepth 100000 in
theorem wholeTells_lifted (os : Os) (started : os.Started) (H : Type) (enc : TypeId × Value → H) :
    ReturnsInHanded {} Try.checked os 4 .any (Rows.wholeTellsSpec.pre6 enc Try.prog Try.f4 Rows.wholeTellsRow.domain false) (Rows.wholeTellsSpec.post enc Try.prog Try.f4 false true false false) := by
  refine law_lift (C := Try.checked) (tb := 4) Try.own Try.laidOut started (by kernel_rfl) Try.func4
    (ChangeSpec.witness6 (enc := enc) (C := Try.checked) false ⟨#[], #[.agg #[.int .u8 0, .int .u8 0, .int .i64 0], .string ⟨#[]⟩, .int .u8 0], []⟩ 8 (by kernel_rfl) (by kernel_rfl) (by kernel_rfl) (by kernel_rfl))
    rfl Try.underlying4 (by intro t ht; have ht' : t ∈ [23, 9, 5] := ht; simp at ht'; rcases ht' with rfl | rfl | rfl <;> exact ⟨by kernel_rfl, of_decide_eq_true (by kernel_rfl)⟩) rfl
    (fun ds h => match ds, h with | [_, _, _], _ => rfl) ?_
  intro W base args ds ps hh
  obtain ⟨v, v', v'', d, d', d'', p, p', p'', rfl, ⟨hv, hv', hv''⟩, h0, h0', h0''⟩ := handed_three Try.params4 hh
  obtain ⟨a, b, n, ha, hb, rfl⟩ := open_dialect hv h0
  obtain ⟨s, rfl, hs⟩ := open_text hv' h0'
  obtain ⟨k, hk, rfl⟩ := open_u8 hv'' h0''
  exact tells_any a b n s k W hk hs

theorem wholeTells_holds : Rows.WholeTellsSaid :=
  OpenClaim.holds_of_wide 4 Try.f4 rfl rfl rfl rfl rfl rfl rfl ⟨rfl, rfl, rfl, rfl, rfl⟩ rfl rfl rfl rfl rfl (by kernel_rfl) Try.func4 (by kernel_rfl)
    (of_decide_eq_true (by kernel_rfl)) (by unfold Func.isWrapper; first | (rw [if_pos (by decide +kernel)]; kernel_rfl) | (rw [if_neg (by decide +kernel)]; exact ⟨rfl, rfl⟩))
    (fun os started H enc _ => wholeTells_lifted os started H enc)
#print axioms wholeTells_holds

end Go.Proofs.Ytdkdbmiafnadmaa
