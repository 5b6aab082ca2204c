/-
  All the ways in which a text is cut are what the document says.
  Conditions: none.
-/
import Derived.Test.YtmfhnmdgcjlnpaaRows
import Derived.Test.YtmfhnmdgcjlnpaaLaw
import Derived.Test.YtmfhnmdgcjlnpaaOpenI
import Derived.Test.YtmfhnmdgcjlnpaaCtL
import Derived.Test.YtmfhnmdgcjlnpaaCtE
import Derived.Test.YtmfhnmdgcjlnpaaRnd
import Derived.Lib.Hide
namespace Go.Proofs.Ytmfhnmdgcjlnpaa
open Go.RowKit Go.Shelf
attribute [local go_sem] Oper.semAt_some

theorem each_ret (s : ByteArray) (w : World) : Calls Try.prog 20 #[.string s] w (fun e w' => ∃ q, e = .returned (.func (.func 28) #[] #[.pointer (some ⟨q, 0, none⟩)]) ∧ Box w' q 9 #[.string s] ∧ w.heap.size ≤ q ∧ Below w.heap.size w w') := by
  have hmf : ∀ fn first cap w, (Instr.makeFunc fn first cap).run Try.prog w = .ok (.func fn first cap) w := fun _ _ _ _ => rfl
  go_enter Try.func20, Try.ntmps20
  go_wp2
  refine bodyPost_ret (v := .func (.func 28) #[] #[.pointer (some ⟨w.heap.size, 0, none⟩)]) (by simp [results, Try.results20]) rfl ?_
  exact ⟨w.heap.size, rfl, Box.new _ _ _, Nat.le_refl _, (Below.refl _ _).alloc (Nat.le_refl _) _⟩
theorem func_nilIn {P : Program} (W : World) (d : Nat) (t : TypeId) {ps rs : Array TypeId} {vr : Bool} (g : Fn) (a b : Array Value) (h : P.underlying t = some (.func ps rs vr)) :
    (Op.equalIn (d + 1) t (.func g a b) .nilFunc).run P W = .ok false W := by
  simp [Op.equalIn, run_underlying h]
theorem func_nil (q : Nat) (W : World) : (binOp .eql 42 (.func (.func 28) #[] #[.pointer (some ⟨q, 0, none⟩)]) .nilFunc).run Try.prog W = .ok (.bool false) W := by
  simp only [binOp]
  simp [Op.equal, Op.maxDepth, func_nilIn W 9999 _ _ _ _ Try.underlying42]

theorem gie_block {b : Nat} {s : ByteArray} {i : Nat} {v : Value} {W : World} (h : GivE b s i v W) {g : Nat} (hv : v.ownBlock = some g) : ∃ cs e, W.heap[g]? = some (.cells cs e (0, 0)) := by
  rcases h.2 with ⟨rfl, _⟩ | ⟨g', cap, cur, rfl, _, h5, _⟩
  · cases hv
  · have e : ∀ m, (Value.slice (some ⟨g', 0, none⟩) m cap).ownBlock = some g' := fun _ => rfl
    rw [e] at hv
    injection hv with hv
    subst hv
    exact ⟨_, _, h5⟩

theorem each_end {n : Nat} {w W0 W w5 : World} {b1 b4 D : Nat} {tmps : Array Value} (hb1 : w.heap.size ≤ b1) (hE : Below w.heap.size w W0) (hk : Keeps W0 W (fun k => k = b4)) (h4 : Box w5 b1 4 #[.bool false]) (hb5 : Below W.heap.size W w5)
    (hd : W.heap[D]? = some (.deferred (some []))) (h1 : w.heap.size ≤ b4) (h2 : b1 < W0.heap.size) (hD : W0.heap.size ≤ D) (ht : tmps[2]? = some (.pointer (some ⟨b1, 0, none⟩))) :
    bodyPostM Fence.wide n Try.prog Try.f7 (Gives (.bool true) w) .ret { tmps := tmps, defers := [{ target := .collected D, args := #[] }] } (w5.setCell ⟨b1, 0, none⟩ (.bool true)) := by
  have hd5 : w5.heap[D]? = some (.deferred (some [])) := (hb5.block D (Array.getElem?_eq_some_iff.1 hd).1).trans hd
  have hd6 : (w5.setCell ⟨b1, 0, none⟩ (.bool true)).heap[D]? = some (.deferred (some [])) := (Below.heap_setCell w5 ⟨b1, 0, none⟩ _ D (by show D ≠ b1; omega)).trans hd5
  have hc : ((w5.setCell ⟨b1, 0, none⟩ (.bool true)).putObj D (.deferred none)).cell? ⟨b1, 0, none⟩ = some (.bool true) := by
    have := (h4.set 0 (.bool true)).kept (w' := (w5.setCell ⟨b1, 0, none⟩ (.bool true)).putObj D (.deferred none)) (World.putObj_heap_other (by omega))
    exact this.cell 0
  refine ⟨by simp, .inl ⟨_, _, rfl, run_takeDeferred hd6, ?_⟩⟩
  refine ⟨.bool true, ?_, rfl, ?_⟩
  · simp [results, Try.results7, go_sem, hc, ht]
  · have k1 : Keeps W0 (w5.setCell ⟨b1, 0, none⟩ (.bool true)) (fun k => k = b4 ∨ k = b1) := ((hk.below hb5).mono (fun k _ h => .inl h)).set b1 0 _ (.inl (.inr rfl))
    have k2 := k1.trans (keeps_put (l := D) (.deferred none)) (fun k hk h => by omega)
    exact hE.trans (k2.toBelow hE.size (fun k hk h => by omega))

set_option maxRecDepth 100000 in
set_option maxHeartbeats 4000000 in
theorem each_any (s : ByteArray) (w : World) : Calls Try.prog 7 #[.string s] w (Gives (.bool true) w) := by
  have hfn := func_nil
  have HR := Lib.hid (fun W => each_ret s W)
  obtain ⟨W3, hW3⟩ : ∃ W3, (w.alloc (.cells #[.string s] 9)).alloc (.cells #[.bool false] 4) = W3 := ⟨_, rfl⟩
  have P1 : Hid (Box W3 w.heap.size 9 #[.string s]) := Lib.hid (by rw [← hW3]; exact (Box.new w _ _).alloc _)
  have P2 : Hid (Box W3 (w.heap.size + 1) 4 #[.bool false]) := Lib.hid (by rw [← hW3]; have := Box.new (w.alloc (.cells #[.string s] 9)) 4 #[.bool false]; rwa [World.size_alloc] at this)
  have P0 : Hid (Below w.heap.size w W3) := Lib.hid (by rw [← hW3]; exact ((Below.refl _ _).alloc (Nat.le_refl _) _).alloc (by simp) _)
  have HW3 := Lib.hid hW3
  clear hW3
  by_cases h8 : s.size ≤ 8
  · have i1 : ¬ ((s.size : Int) > 8) := by omega
    refine (callsIn_wide (n := 12)).1 ?_
    refine callsIn_of_wp_marks Try.func7 rfl trivial ?_ rfl
    simp only [Try.ntmps7, List.size_toArray, List.length_cons, List.length_nil, Nat.reduceAdd, Nat.reduceSub, Array.replicate_succ, Array.replicate_zero, List.push_toArray, List.append_toArray, List.nil_append, List.cons_append]
    gi_wp2_with (refine ⟨trivial, ?_⟩; gi_at_call 20; rw [HW3.out]; refine (callsIn_wide.2 (HR.out W3)).mono ?_; rintro e w3 ⟨q, rfl, hq, hql, hb3⟩; have D1 := Lib.hid (P1.out.below hb3 P1.out.lt); have D2 := Lib.hid (P2.out.below hb3 P2.out.lt); have D6 := Lib.hid hq; have D0 := Lib.hid (below_next P0.out (Nat.le_refl _) hb3); have D7 := Lib.hid (And.intro hql P2.out.lt); clear hb3 hq hql)
    have hqq := D7.out
    have hD1 := D1.out.lt
    have hD2 := D2.out.lt
    have hD6 := D6.out.lt
    obtain ⟨b4, hb4⟩ : ∃ b, w3.heap.size = b := ⟨_, rfl⟩
    obtain ⟨b0, hb0⟩ : ∃ b, w.heap.size = b := ⟨_, rfl⟩
    have hB4 := Box.new w3 3 #[.int .i64 0]
    have hE := D0.out.alloc D0.out.size (.cells #[.int .i64 0] 3)
    have E1 := D1.out.alloc (.cells #[.int .i64 0] 3)
    have E2 := D2.out.alloc (.cells #[.int .i64 0] 3)
    have E6 := D6.out.alloc (.cells #[.int .i64 0] 3)
    have hsz := World.size_alloc (w := w3) (o := .cells #[.int .i64 0] 3)
    have hb04 : b0 ≤ b4 := by have := D0.out.size; omega
    rw [hb4] at hsz hB4 hD1 hD2 hD6 ⊢
    rw [hb0] at E1 E2 hD1 hD2 ⊢
    have HE := Lib.hid hE
    clear hE D1 D2 D6 D0 D7 P0 P1 P2 HW3 HR hfn
    refine at_worldIn ?_
    intro W0 hW0
    rw [hW0] at hB4 E1 E2 E6 hsz HE
    clear hW0
    have hHE := HE.out
    refine range_iter (n := 12) (S := fun k => k = b4) rfl (by omega) (gf := 28) (lb := #[.pointer (some ⟨q, 0, none⟩)]) rfl trivial (enters_of Try.func28 (by kernel_rfl) rfl) ?hS
      (each1_iter s q 11 _ W0 h8 E6 (by show ¬ q = b4; omega) (fun k hk => by subst hk; omega) (by omega)) ?hGiv ?hOwn ?hOwnD
      (fun i W => Box W b4 3 #[.int .i64 i] ∧ Keeps W0 W (fun k => k = b4))
      (fun _ _ _ => False) ?hI ?hIx ?h0 ?hround ?done ?stop
    case hS => intro k hk; subst hk; omega
    case hGiv =>
      intro i v W l r o hg hl
      exact owns_kept hg (fun g hv => World.putObj_heap_other (by
        rintro rfl
        obtain ⟨cs, e, hh⟩ := gie_block hg hv
        rw [hl] at hh
        cases hh))
    case hOwn =>
      intro i v W l r hg hl hv
      obtain ⟨cs, e, hh⟩ := gie_block hg hv
      rw [hl] at hh
      cases hh
    case hOwnD =>
      intro i v W l r hg hl hv
      obtain ⟨cs, e, hh⟩ := gie_block hg hv
      rw [hl] at hh
      cases hh
    case hI => rintro i W W' ⟨h1, h2⟩ hk; exact ⟨h1.keeps hk (by omega), h2.trans hk (fun k hk1 hk2 => by omega)⟩
    case hIx => exact fun _ _ _ _ h _ => h
    case h0 => exact ⟨hB4, Keeps.refl _ _⟩
    case stop => exact fun _ _ _ _ _ _ _ h _ => h.elim
    case hround =>
      rintro l i v W hi ⟨hb, hk⟩ hg
      gi_wp2
      refine ⟨trivial, ?_⟩
      clear hb hk hg
      intro U2 hs2 ⟨hb, hk⟩ hg
      have hml := manyW_le s.size
      have X1 : Box U2 b0 9 #[.string s] := E1.keeps hk (by omega)
      have p1 : U2.cell? ⟨b0, 0, none⟩ = some (.string s) := X1.cell 0
      have p4 : U2.cell? ⟨b4, 0, none⟩ = some (.int .i64 i) := hb.cell 0
      obtain ⟨L, hL⟩ : ∃ L, cutAt s (heldS s (wayL i (s.size - 1))) = L := ⟨_, rfl⟩
      have hg' : OwnS U2 W0.heap.size v L := by have := hg; unfold GivE at this; rwa [hL] at this
      have hcat : catB L = s := by rw [← hL]; exact catB_at s _
      have hll : L.length ≤ 9 := by rw [← hL, cutAt_len, heldS_len]; have := wayL_len i (s.size - 1); omega
      obtain ⟨Av, cv, rfl, _, _⟩ := owns_len hg'
      have HWAY := Lib.hid (refWay_any s.size i U2.drew (by omega) (by omega))
      have HG := Lib.hid hg'
      have HX1 := Lib.hid X1
      have HX4 := Lib.hid hb
      have HK := Lib.hid hk
      have HL := Lib.hid hL
      have HC := Lib.hid hcat
      have h1n : 1 ≤ 12 - 1 - 1 := by omega
      have hmx : Try.prog.follows .mixedOrders = true := by kernel_rfl
      clear hg hg' hcat hL X1 hb hk
      gi_wp2_with fail
      refine region_round_held (S := fun w' => w'.cell? ⟨b0, 0, none⟩ = some (.string s) ∧ w'.cell? ⟨b4, 0, none⟩ = some (.int .i64 i)) (by kernel_rfl) (by rintro ⟨a, w, h⟩; exact h) (by kernel_rfl) ⟨p1, p4⟩ (fun hHeld => ?_)
      refine' wpAnyH_take (i := 0) (v := ?v0) rfl (by kernel_rfl) (by kernel_rfl) (by kernel_rfl) (fun _ _ _ h => h) (Or.inl ⟨by rfl, ?hy0⟩) (by assumption) ?rest0
      case hy0 => intro w hSw; (try dsimp only at hSw); go_simp; (try with_reducible rfl)
      (try simp only [Act.put]); (try simp only [List.setIfInBounds_toArray]); (try simp only [List.set_cons_succ]); (try simp only [List.set_cons_zero])
      refine' wpAnyH_take (i := 1) (v := ?v1) rfl (by kernel_rfl) (by kernel_rfl) (by kernel_rfl) (fun _ _ _ h => h) (Or.inl ⟨by rfl, ?hy1⟩) (by assumption) ?rest1
      case hy1 => intro w hSw; (try dsimp only at hSw); go_simp; (try with_reducible rfl)
      (try simp only [Act.put]); (try simp only [List.setIfInBounds_toArray]); (try simp only [List.set_cons_succ]); (try simp only [List.set_cons_zero])
      refine' wpAnyH_take (i := 2) (v := ?v2) rfl (by kernel_rfl) (by kernel_rfl) (by kernel_rfl) (fun _ _ _ h => h) (Or.inl ⟨by rfl, ?hy2⟩) (by assumption) ?rest2
      case hy2 => intro w hSw; (try dsimp only at hSw); go_simp; (try with_reducible rfl)
      (try simp only [Act.put]); (try simp only [List.setIfInBounds_toArray]); (try simp only [List.set_cons_succ]); (try simp only [List.set_cons_zero])
      refine' wpAnyH_take (i := 3) (v := ?v3) rfl (by kernel_rfl) (by kernel_rfl) (by kernel_rfl) (fun _ _ _ h => h) (Or.inl ⟨by rfl, ?hy3⟩) (by assumption) ?rest3
      case hy3 => intro w hSw; (try dsimp only at hSw); go_simp; (try with_reducible rfl)
      (try simp only [Act.put]); (try simp only [List.setIfInBounds_toArray]); (try simp only [List.set_cons_succ]); (try simp only [List.set_cons_zero])
      refine' wpAnyH_take (i := 4) (v := ?v4) rfl (by kernel_rfl) (by kernel_rfl) (by kernel_rfl) (fun _ _ _ h => h) (Or.inl ⟨by rfl, ?hy4⟩) (by assumption) ?rest4
      case hy4 => intro w hSw; (try dsimp only at hSw); go_simp; (try with_reducible rfl)
      (try simp only [Act.put]); (try simp only [List.setIfInBounds_toArray]); (try simp only [List.set_cons_succ]); (try simp only [List.set_cons_zero])
      refine wpAnyH_ready (rs := [5]) (by kernel_rfl) (by simp) ?_
      refine AllReadyH.cons rfl (fun K hK => ?_) AllReadyH.nil
      go_simp
      go_wp2_with (go_at_call 19; refine HWAY.out.mono ?_; rintro e w4 ⟨v4, rfl, ho4, hb4'⟩; have hb5 : Below U2.heap.size U2 w4 := (Below.refl _ _).drew.trans hb4'; have HB4 := Lib.hid hb5; have HAT := Lib.hid (refAt_any s v4 (wayL i (s.size - 1)) w4 ho4.ints (by omega) (by have := wayL_len i (s.size - 1); omega)); clear ho4 hb4' hb5)
      refine hK.out _ _ ⟨(HX1.out.below HB4.out HX1.out.lt).cell 0, (HX4.out.below HB4.out HX4.out.lt).cell 0⟩ (fun hHeld => ?_)
      clear hK K
      refine wpAnyH_ready (rs := [6]) (by kernel_rfl) (by simp) ?_
      refine AllReadyH.cons rfl (fun K hK => ?_) AllReadyH.nil
      go_simp
      go_wp2_with (go_at_call 11; refine HAT.out.mono ?_; rintro e w5 ⟨v5, rfl, ho5, hb5⟩; rw [HL.out] at ho5; have hb6 := below_next HB4.out (Nat.le_refl _) hb5; have HB5 := Lib.hid hb6; have HS := Lib.hid (same_any _ v5 L L w5 (OwnS.strs (owns_later HG.out hb6)) ho5.strs); clear ho5 hb5 hb6)
      refine hK.out _ _ ⟨(HX1.out.below HB5.out HX1.out.lt).cell 0, (HX4.out.below HB5.out HX4.out.lt).cell 0⟩ (fun hHeld => ?_)
      clear hK K
      refine wpAnyH_ready (rs := [7]) (by kernel_rfl) (by simp) ?_
      refine AllReadyH.cons rfl (fun K hK => ?_) AllReadyH.nil
      go_simp
      go_wp2_with (go_at_call 10; refine HS.out.mono ?_; rintro e w6 ⟨rfl, hb6⟩; have hb7 := below_next HB5.out (Nat.le_refl _) hb6; have HB6 := Lib.hid hb7; have HJ := Lib.hid (joined_any _ L w6 (OwnS.strs (owns_later HG.out hb7)) (by rw [HC.out]; omega)); clear hb6 hb7)
      refine hK.out _ _ ⟨(HX1.out.below HB6.out HX1.out.lt).cell 0, (HX4.out.below HB6.out HX4.out.lt).cell 0⟩ (fun hHeld => ?_)
      clear hK K
      refine' wpAnyH_take (i := 8) (v := ?v8) rfl (by kernel_rfl) (by kernel_rfl) (by kernel_rfl) (fun _ _ _ h => h) (Or.inl ⟨by rfl, ?hy8⟩) (by assumption) ?rest8
      case hy8 => intro w hSw; (try dsimp only at hSw); go_simp; (try with_reducible rfl)
      (try simp only [Act.put]); (try simp only [List.setIfInBounds_toArray]); (try simp only [List.set_cons_succ]); (try simp only [List.set_cons_zero])
      refine' wpAnyH_take (i := 9) (v := ?v9) rfl (by kernel_rfl) (by kernel_rfl) (by kernel_rfl) (fun _ _ _ h => h) (Or.inl ⟨by rfl, ?hy9⟩) (by assumption) ?rest9
      case hy9 => intro w hSw; (try dsimp only at hSw); go_simp; (try with_reducible rfl)
      (try simp only [Act.put]); (try simp only [List.setIfInBounds_toArray]); (try simp only [List.set_cons_succ]); (try simp only [List.set_cons_zero])
      refine' wpAnyH_take (i := 10) (v := ?v10) rfl (by kernel_rfl) (by kernel_rfl) (by kernel_rfl) (fun _ _ _ h => h) (Or.inl ⟨by rfl, ?hy10⟩) (by assumption) ?rest10
      case hy10 => intro w hSw; (try dsimp only at hSw); go_simp; (try with_reducible rfl)
      (try simp only [Act.put]); (try simp only [List.setIfInBounds_toArray]); (try simp only [List.set_cons_succ]); (try simp only [List.set_cons_zero])
      refine' wpAnyH_take (i := 12) (v := ?v12) rfl (by kernel_rfl) (by kernel_rfl) (by kernel_rfl) (fun _ _ _ h => h) (Or.inl ⟨by rfl, ?hy12⟩) (by assumption) ?rest12
      case hy12 => intro w hSw; (try dsimp only at hSw); go_simp; (try with_reducible rfl)
      (try simp only [Act.put]); (try simp only [List.setIfInBounds_toArray]); (try simp only [List.set_cons_succ]); (try simp only [List.set_cons_zero])
      refine wpAnyH_ready (rs := [11]) (by kernel_rfl) (by simp) ?_
      refine AllReadyH.cons rfl (fun K hK => ?_) AllReadyH.nil
      go_simp
      go_wp2_with (go_at_call 12; refine HJ.out.mono ?_; rintro e w7 ⟨rfl, hb7⟩; rw [HC.out]; have hb8 := below_next HB6.out (Nat.le_refl _) hb7; have HB7 := Lib.hid hb8; clear hb7 hb8)
      refine hK.out _ _ ⟨(HX1.out.below HB7.out HX1.out.lt).cell 0, (HX4.out.below HB7.out HX4.out.lt).cell 0⟩ (fun hHeld => ?_)
      clear hK K
      refine' wpAnyH_take (i := 13) (v := ?v13) rfl (by kernel_rfl) (by kernel_rfl) (by kernel_rfl) (fun _ _ _ h => h) (Or.inl ⟨by rfl, ?hy13⟩) (by assumption) ?rest13
      case hy13 => intro w hSw; (try dsimp only at hSw); go_simp; (try with_reducible rfl)
      (try simp only [Act.put]); (try simp only [List.setIfInBounds_toArray]); (try simp only [List.set_cons_succ]); (try simp only [List.set_cons_zero])
      refine' wpAnyH_take (i := 14) (v := ?v14) rfl (by kernel_rfl) (by kernel_rfl) (by kernel_rfl) (fun _ _ _ h => h) (Or.inl ⟨by rfl, ?hy14⟩) (by assumption) ?rest14
      case hy14 => intro w hSw; (try dsimp only at hSw); go_simp; (try with_reducible rfl)
      (try simp only [Act.put]); (try simp only [List.setIfInBounds_toArray]); (try simp only [List.set_cons_succ]); (try simp only [List.set_cons_zero])
      refine wpAnyH_done (by kernel_rfl) ?_ _
      have X7 := HX4.out.below HB7.out HX4.out.lt
      have r4 : w7.cell? ⟨b4, 0, none⟩ = some (.int .i64 i) := X7.cell 0
      have f4 : w7.frozen? ⟨b4, 0, none⟩ = false := X7.frozen 0
      have KW : Hid (Keeps U2 (w7.setCell ⟨b4, 0, none⟩ (.int .i64 ((i : Int) + 1))) (fun k => k = b4)) := Lib.hid ((keeps_below HB7.out _).set b4 0 _ (.inl rfl))
      have BX : Hid (Box (w7.setCell ⟨b4, 0, none⟩ (.int .i64 ((i : Int) + 1))) b4 3 #[.int .i64 ((i + 1 : Nat) : Int)]) := Lib.hid (by have := X7.set 0 (.int .i64 ((i : Int) + 1)); exact this)
      clear X7 hHeld
      gi_wp2
      exact ⟨KW.out.mono (fun _ _ h => .inl h), BX.out, HK.out.trans KW.out (fun _ _ h => h)⟩
    case done =>
      rintro D W hD ⟨hb, hk⟩ hdef
      have X1 : Box W b0 9 #[.string s] := E1.keeps hk (by omega)
      have X2 : Box W (b0 + 1) 4 #[.bool false] := E2.keeps hk (by omega)
      have p1 : W.cell? ⟨b0, 0, none⟩ = some (.string s) := X1.cell 0
      have HX2 := Lib.hid X2
      have HX4 := Lib.hid hb
      have HK := Lib.hid hk
      have HDEF := Lib.hid hdef
      have hml := manyW_le s.size
      clear hk hb X1 X2 hdef
      gi_wp2_with (first
        | (refine ⟨trivial, ?_⟩; gi_at_call 16; refine (callsIn_wide.2 (refCount_any s.size W)).mono ?_; rintro e w4 ⟨rfl, hb4'⟩; rw [manyW_eq]; have y4 : w4.cell? ⟨b4, 0, none⟩ = some (.int .i64 (manyW s.size)) := (HX4.out.below hb4' HX4.out.lt).cell 0; have HY2 := Lib.hid (HX2.out.below hb4' HX2.out.lt); have HBB := Lib.hid hb4'; clear hb4')
        | (refine ⟨trivial, ?_⟩; gi_at_call 8; refine (callsIn_wide.2 (awake_any w4)).mono ?_; rintro e w5 ⟨rfl, hb5⟩; have Y4 := HY2.out.below hb5 HY2.out.lt; have y2 : w5.cell? ⟨b0 + 1, 0, none⟩ = some (.bool false) := Y4.cell 0; have z2 : w5.frozen? ⟨b0 + 1, 0, none⟩ = false := Y4.frozen 0; have HZ2 := Lib.hid Y4; have HB5 := Lib.hid (below_next HBB.out (Nat.le_refl _) hb5); clear Y4 hb5))
      exact each_end (n := 12) (by omega) HE.out HK.out HZ2.out HB5.out HDEF.out (by omega) (by omega) hD rfl
  · have i1 : (s.size : Int) > 8 := by omega
    refine (callsIn_wide (n := 12)).1 ?_
    refine callsIn_of_wp_marks Try.func7 rfl trivial ?_ rfl
    simp only [Try.ntmps7, List.size_toArray, List.length_cons, List.length_nil, Nat.reduceAdd, Nat.reduceSub, Array.replicate_succ, Array.replicate_zero, List.push_toArray, List.append_toArray, List.nil_append, List.cons_append]
    gi_wp2_with (refine ⟨trivial, ?_⟩; gi_at_call 8; rw [HW3.out]; refine (callsIn_wide.2 (awake_any W3)).mono ?_; rintro e w5 ⟨rfl, hb5⟩; have Y4 := P2.out.below hb5 P2.out.lt; have y4 : w5.cell? ⟨w.heap.size + 1, 0, none⟩ = some (.bool false) := Y4.cell 0; have z4 : w5.frozen? ⟨w.heap.size + 1, 0, none⟩ = false := Y4.frozen 0; have HY4 := Lib.hid Y4; have HB5 := Lib.hid (below_next P0.out (Nat.le_refl _) hb5); clear Y4 hb5)
    have hc : (w5.setCell ⟨w.heap.size + 1, 0, none⟩ (.bool true)).cell? ⟨w.heap.size + 1, 0, none⟩ = some (.bool true) := (HY4.out.set 0 (.bool true)).cell 0
    refine ⟨.bool true, ?_, rfl, HB5.out.setCell (p := ⟨w.heap.size + 1, 0, none⟩) (Nat.le_succ _) _⟩
    simp [results, Try.results7, go_sem, hc]

set_option maxRecDepth 100000 in
theorem cutsEach_lifted (os : Os) (started : os.Started) (H : Type) (enc : TypeId × Value → H) :
    ReturnsInHanded {} Try.checked os 7 .any (Rows.cutsEachSpec.pre6 enc Try.prog Try.f7 Rows.cutsEachRow.domain false) (Rows.cutsEachSpec.post enc Try.prog Try.f7 false true false false) := by
  refine law_lift (C := Try.checked) (tb := 4) Try.own Try.laidOut started (by kernel_rfl) Try.func7
    (ChangeSpec.witness6 (enc := enc) (C := Try.checked) false ⟨#[], #[.string ⟨#[]⟩], []⟩ 8 (by kernel_rfl) (by kernel_rfl) (by kernel_rfl) (by kernel_rfl))
    rfl Try.underlying4 (by intro t ht; have ht' : t ∈ [9] := ht; simp at ht'; subst ht'; exact ⟨by kernel_rfl, of_decide_eq_true (by kernel_rfl)⟩) rfl
    (fun ds h => match ds, h with | [_], _ => rfl) ?_
  intro W base args ds ps hh
  obtain ⟨v, d, p, rfl, hv, h0⟩ := handed_one Try.params7 hh
  obtain ⟨s, rfl, hs⟩ := open_text hv h0
  exact each_any s W

theorem cutsEach_holds : Rows.CutsEachSaid :=
  OpenClaim.holds_of_wide 7 Try.f7 rfl rfl rfl rfl rfl rfl rfl ⟨rfl, rfl, rfl, rfl, rfl⟩ rfl rfl rfl rfl rfl (by kernel_rfl) Try.func7 (by kernel_rfl)
    (of_decide_eq_true (by kernel_rfl)) (by unfold Func.isWrapper; first | (rw [if_pos (by decide +kernel)]; kernel_rfl) | (rw [if_neg (by decide +kernel)]; exact ⟨rfl, rfl⟩))
    (fun os started H enc _ => cutsEach_lifted os started H enc)
#print axioms cutsEach_holds

end Go.Proofs.Ytmfhnmdgcjlnpaa
