/-
  Walks: the iterator of a text's pieces, cut in all ways.
-/
import Derived.Test.YtmfhnmdgcjlnpaaRows
import Derived.Test.YtmfhnmdgcjlnpaaCtA
import Derived.Test.YtmfhnmdgcjlnpaaCtI
import Derived.Test.YtmfhnmdgcjlnpaaRnd
import Derived.Lib.Hide
namespace Go.Proofs.Ytmfhnmdgcjlnpaa
open Go.RowKit Go.Shelf
attribute [local go_sem] Oper.semAt_some

theorem at_worldIn {C : Code} {F : Fence} {n : Nat} {P : Program} {Q : Exit → Act → World → Prop} {a : Act} {W : World} (h : ∀ W0, W = W0 → C.wpIn F n P Q a W0) : C.wpIn F n P Q a W := h W rfl

theorem ways_ret (n : Int) (w : World) : Calls Try.prog 18 #[.int .i64 n] w (fun e w' => ∃ q, e = .returned (.func (.func 26) #[] #[.pointer (some ⟨q, 0, none⟩)]) ∧ Box w' q 3 #[.int .i64 n] ∧ w.heap.size ≤ q ∧ Below w.heap.size w w') := by
  have hmf : ∀ fn first cap w, (Instr.makeFunc fn first cap).run Try.prog w = .ok (.func fn first cap) w := fun _ _ _ _ => rfl
  go_enter Try.func18, Try.ntmps18
  go_wp2
  refine bodyPost_ret (v := .func (.func 26) #[] #[.pointer (some ⟨w.heap.size, 0, none⟩)]) (by simp [results, Try.results18]) rfl ?_
  exact ⟨w.heap.size, rfl, Box.new _ _ _, Nat.le_refl _, (Below.refl _ _).alloc (Nat.le_refl _) _⟩

theorem giv_ne {b : Nat} {n : Int} {i : Nat} {v : Value} {W : World} (h : GivW b n i v W) {l : Nat} {r : Loop} (hl : W.heap[l]? = some (.loop r)) {g : Nat} (hv : v.ownBlock = some g) : g ≠ l := by
  intro e
  subst e
  rcases h.2 with ⟨rfl, _⟩ | ⟨g', cap, cur, rfl, _, h5, _⟩
  · cases hv
  · have e : (Value.slice (some ⟨g', 0, none⟩) (wayL i (n.toNat - 1)).length cap).ownBlock = some g' := rfl
    rw [e] at hv
    injection hv with hv
    subst hv
    rw [hl] at h5
    cases h5
theorem giv_neD {b : Nat} {n : Int} {i : Nat} {v : Value} {W : World} (h : GivW b n i v W) {l : Nat} {r : Option (List Deferred)} (hl : W.heap[l]? = some (.deferred r)) {g : Nat} (hv : v.ownBlock = some g) : g ≠ l := by
  intro e
  subst e
  rcases h.2 with ⟨rfl, _⟩ | ⟨g', cap, cur, rfl, _, h5, _⟩
  · cases hv
  · have e : (Value.slice (some ⟨g', 0, none⟩) (wayL i (n.toNat - 1)).length cap).ownBlock = some g' := rfl
    rw [e] at hv
    injection hv with hv
    subst hv
    rw [hl] at h5
    cases h5
theorem roundIn_any {n n' l l' : Nat} {P : Program} {f : FuncId} {tmps : Array Value} {assign body : Code} {w : World} {R : Ending → World → Prop} (h : RoundIn Fence.wide n P l f tmps assign body w R) : RoundIn (Fence.wide.inRound l') n' P l f tmps assign body w R :=
  ⟨trivial, fun c cs _ => h.2 c cs (room_wide _)⟩

theorem round_bool {n l : Nat} {P : Program} {f : FuncId} {tmps : Array Value} {assign body : Code} {w : World} {A B : World → Prop} (h : RoundIn Fence.wide n P l f tmps assign body w fun e W' => (e = .returned (.bool true) ∧ A W') ∨ (e = .returned (.bool false) ∧ B W')) :
    RoundIn Fence.wide n P l f tmps assign body w fun e W' => ∃ b, e = .returned (.bool b) ∧ ((b = true ∧ A W') ∨ (b = false ∧ B W')) :=
  h.mono fun _ _ hh => hh.elim (fun h => ⟨true, h.1, .inl ⟨rfl, h.2⟩⟩) (fun h => ⟨false, h.1, .inr ⟨rfl, h.2⟩⟩)

/-- What a round is handed: the pieces of its way. -/
def GivE (b : Nat) (s : ByteArray) (i : Nat) (v : Value) (W : World) : Prop := OwnS W b v (cutAt s (heldS s (wayL i (s.size - 1))))

set_option maxRecDepth 100000 in
set_option maxHeartbeats 4000000 in
theorem each1_iter (s : ByteArray) (q m : Nat) (S : Nat → Prop) (w : World) (hsz : s.size ≤ 8) (hq : Box w q 9 #[.string s]) (hS : ¬ S q) (hSb : ∀ k, S k → k < w.heap.size) (hm : 9 ≤ m) :
    Iter Fence.wide m Try.prog 28 #[.pointer (some ⟨q, 0, none⟩)] (manyW s.size) (GivE w.heap.size s) S w := by
  intro l J Jx W hW hl1 hl2 hJ hJx hY h0
  have hlt := hq.lt
  have hqW : Box W q 9 #[.string s] := hq.keeps hW hS
  have hwW := hW.size
  obtain ⟨W1, hW1⟩ : ∃ W1, W.alloc (.cells #[.func (.yield l) #[] #[]] 30) = W1 := ⟨_, rfl⟩
  have B2 : Box W1 W.heap.size 30 #[.func (.yield l) #[] #[]] := by rw [← hW1]; exact Box.new W _ _
  have B1 : Box W1 q 9 #[.string s] := by rw [← hW1]; exact hqW.alloc _
  have B0 : Below W.heap.size W W1 := by rw [← hW1]; exact (Below.refl _ _).alloc (Nat.le_refl _) _
  have HW1 := Lib.hid hW1
  have HR := Lib.hid (fun W => ways_ret s.size W)
  have q1 : ∀ o, (W.alloc o).cell? ⟨q, 0, none⟩ = some (.string s) := fun o => (hqW.alloc o).cell 0
  have h1m : 1 ≤ m := by omega
  clear hW1
  refine callsIn_of_wp_marks Try.func28 rfl trivial ?_ rfl
  simp only [Try.ntmps28, List.size_toArray, List.length_cons, List.length_nil, Nat.reduceAdd, Nat.reduceSub, Array.replicate_succ, Array.replicate_zero, List.push_toArray, List.append_toArray, List.nil_append, List.cons_append]
  gi_wp2_with (refine ⟨trivial, ?_⟩; gi_at_call 18; rw [HW1.out]; refine (callsIn_wide.2 (HR.out W1)).mono ?_; rintro e w3 ⟨q2, rfl, hq2, hql, hb3⟩; have D1 := B1.below hb3 B1.lt; have D2 := B2.below hb3 B2.lt; have D0 := below_next B0 (Nat.le_refl _) hb3; have hs1 := B2.lt; have hs3 := hb3.size; clear hb3)
  obtain ⟨b2, hb2⟩ : ∃ b, W.heap.size = b := ⟨_, rfl⟩
  rw [hb2] at D2 hl2 hs1 ⊢
  clear HW1 HR q1 B0 B1 B2
  have hJ3 := hJ.below h0 D0
  have HD0 := Lib.hid D0
  clear D0
  refine range_iter (n := m) (S := fun k => S k ∨ k = l) rfl (by omega) (gf := 26) (lb := #[.pointer (some ⟨q2, 0, none⟩)]) rfl trivial (enters_of Try.func26 (by kernel_rfl) rfl) ?hS
    (ways1_iter s.size q2 (m - 1) _ w3 hq2 (by rintro (h | h); exact absurd (hSb _ h) (by omega); omega) (by omega)) ?hGiv ?hOwn ?hOwnD
    (fun i U => J i U ∧ Keeps w3 U (fun k => S k ∨ k = l))
    (fun c i U => c = .ret ∧ Jx i U) ?hI ?hIx ?h0 ?hround ?done ?stop
  case hS =>
    rintro k (h | h)
    · have := hSb _ h; omega
    · omega
  case hGiv => intro i v W l r o hg hl; exact owns_kept hg (fun g hv => World.putObj_heap_other (giv_ne hg hl hv))
  case hOwn => intro i v W l r hg hl hv; exact giv_ne hg hl hv rfl
  case hOwnD => intro i v W l r hg hl hv; exact giv_neD hg hl hv rfl
  case hI =>
    rintro i U U' ⟨h1, h2⟩ hk
    exact ⟨hJ i _ _ h1 (hk.mono (fun k _ h => by omega)), h2.trans hk (fun k hk1 hk2 => by omega)⟩
  case hIx =>
    rintro c i U U' ⟨h0, h1⟩ hk
    exact ⟨h0, hJx i _ _ h1 (hk.mono (fun k _ h => by omega))⟩
  case h0 => exact ⟨hJ3, Keeps.refl _ _⟩
  case hround =>
    rintro l2 i v U hi ⟨hj, hk⟩ hg
    gi_wp2
    refine ⟨trivial, ?_⟩
    clear hj hk hg
    intro U2 hs2 ⟨hj, hk⟩ hg
    have hw3b := HD0.out.size
    have X1 : Box U2 q 9 #[.string s] := D1.keeps hk (by rintro (h | h); exact hS h; omega)
    have X2 : Box U2 b2 30 #[.func (.yield l) #[] #[]] := D2.keeps hk (by rintro (h | h); exact absurd (hSb _ h) (by omega); omega)
    have p1 : U2.cell? ⟨q, 0, none⟩ = some (.string s) := X1.cell 0
    have p2 : U2.cell? ⟨b2, 0, none⟩ = some (.func (.yield l) #[] #[]) := X2.cell 0
    have hsw := hk.size
    have hg' : OwnI U2 w3.heap.size v (wayL i (s.size - 1)) := by have := hg; unfold GivW at this; simpa using this
    have hAT := at_any s v (wayL i (s.size - 1)) U2.drew (OwnI.ints (World.ownsRow.drew hg')) (by omega) (by have := wayL_len i (s.size - 1); omega)
    have HAT := Lib.hid hAT
    have HJ := Lib.hid hj
    have HX2 := Lib.hid X2
    have HKU := Lib.hid hk
    have h1n : 1 ≤ m - 1 - 1 := by omega
    clear hAT hg hg' hj X1 X2 hk
    have hmx : Try.prog.follows .mixedOrders = true := by kernel_rfl
    gi_wp2_with fail
    gi_region_with_o (first
      | (refine ⟨trivial, ?_⟩; gi_at_call 9; refine (CallsIn.inRound l2 (callsIn_wide.2 HAT.out)).mono ?_; rintro e w4 ⟨v4, rfl, ho4, hb4⟩; have hb5 : Below U2.heap.size U2 w4 := (Below.refl _ _).drew.trans hb4; obtain ⟨fn, tmps, assign, body, hy, hR⟩ := hY i v4 w4 hi (hJ.below HJ.out hb5) (by have := hb5.size; omega) (owns_less ho4 (by show w.heap.size ≤ U2.heap.size; omega)); have r2 : w4.cell? ⟨b2, 0, none⟩ = some (.func (.yield l) #[] #[]) := (HX2.out.below hb5 HX2.out.lt).cell 0; have HO4 := Lib.hid ho4; have HB4 := Lib.hid hb5; have HRR := Lib.hid (round_bool hR); clear ho4 hb4 hb5 hR)
      | (refine (roundIn_any HRR.out).mono ?_; rintro e w5 ⟨b, rfl, hd⟩; have HD := Lib.hid hd; clear hd))
    all_goals
      rcases HD.out with ⟨rfl, hj5, hk5⟩ | ⟨rfl, hjx5, hk5⟩
      · have K1 : Keeps U2 w5 (fun k => S k ∨ k = l) := (keeps_below HB4.out _).trans hk5 (fun k hk h => by
          rcases h with h | h | h
          · exact .inl h
          · exact .inr h
          · have := (HO4.out.lt k h).1
            have hd : U2.drew.heap.size = U2.heap.size := rfl
            omega)
        clear hk5
        gi_wp2
        exact ⟨K1.mono (fun _ _ h => .inl h), hj5, HKU.out.trans K1 (fun _ _ h => h)⟩
      · have K1 : Keeps U2 w5 (fun k => S k ∨ k = l) := (keeps_below HB4.out _).trans hk5 (fun k hk h => by
          rcases h with h | h | h
          · exact .inl h
          · exact .inr h
          · have := (HO4.out.lt k h).1
            have hd : U2.drew.heap.size = U2.heap.size := rfl
            omega)
        clear hk5
        gi_wp2
        exact ⟨K1.mono (fun _ _ h => .inl h), rfl, hjx5⟩
  case done =>
    rintro D U hD ⟨hj, hk⟩ hdef
    gi_wp2
    refine ⟨by simp, .inl ⟨_, _, rfl, run_takeDeferred hdef, ?_⟩⟩
    exact ⟨_, results_none rfl _ _ _, ⟨_, rfl⟩, .inl (hJ _ _ _ hj ((keeps_put _).mono (fun k _ h => by omega)))⟩
  case stop =>
    rintro D c i U hD hi0 him ⟨rfl, hjx⟩ hdef
    gi_wp2
    refine ⟨by simp, .inl ⟨_, _, rfl, run_takeDeferred hdef, ?_⟩⟩
    exact ⟨_, results_none rfl _ _ _, ⟨_, rfl⟩, .inr ⟨i, hi0, him, hJx _ _ _ hjx ((keeps_put _).mono (fun k _ h => by omega))⟩⟩

end Go.Proofs.Ytmfhnmdgcjlnpaa
