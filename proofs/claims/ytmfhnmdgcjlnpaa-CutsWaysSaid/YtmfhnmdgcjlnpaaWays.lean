/-
  How many ways there are to cut any number of bytes, and they themselves, as far as is asked, are what the document says.
  Conditions: none.
-/
import Derived.Test.YtmfhnmdgcjlnpaaRows
import Derived.Test.YtmfhnmdgcjlnpaaLaw
import Derived.Test.YtmfhnmdgcjlnpaaOpenI
import Derived.Test.YtmfhnmdgcjlnpaaCtL
import Derived.Test.YtmfhnmdgcjlnpaaCtI
import Derived.Test.YtmfhnmdgcjlnpaaRnd
import Derived.Lib.Hide
namespace Go.Proofs.Ytmfhnmdgcjlnpaa
open Go.RowKit Go.Shelf
attribute [local go_sem] Oper.semAt_some

theorem at_worldIn {C : Code} {F : Fence} {n : Nat} {P : Program} {Q : Exit → Act → World → Prop} {a : Act} {W : World} (h : ∀ W0, W = W0 → C.wpIn F n P Q a W0) : C.wpIn F n P Q a W := h W rfl

theorem ways_ret (n : Int) (w : World) : Calls Try.prog 18 #[.int .i64 n] w (fun e w' => ∃ q, e = .returned (.func (.func 26) #[] #[.pointer (some ⟨q, 0, none⟩)]) ∧ Box w' q 3 #[.int .i64 n] ∧ w.heap.size ≤ q ∧ Below w.heap.size w w') := by
  have hmf : ∀ fn first cap w, (Instr.makeFunc fn first cap).run Try.prog w = .ok (.func fn first cap) w := fun _ _ _ _ => rfl
  go_enter Try.func18, Try.ntmps18
  go_wp2
  refine bodyPost_ret (v := .func (.func 26) #[] #[.pointer (some ⟨w.heap.size, 0, none⟩)]) (by simp [results, Try.results18]) rfl ?_
  exact ⟨w.heap.size, rfl, Box.new _ _ _, Nat.le_refl _, (Below.refl _ _).alloc (Nat.le_refl _) _⟩

theorem giv_ne {b : Nat} {n : Int} {i : Nat} {v : Value} {W : World} (h : GivW b n i v W) {l : Nat} {r : Loop} (hl : W.heap[l]? = some (.loop r)) {g : Nat} (hv : v.ownBlock = some g) : g ≠ l := by
  intro e
  subst e
  rcases h.2 with ⟨rfl, _⟩ | ⟨g', cap, cur, rfl, _, h5, _⟩
  · cases hv
  · have e : (Value.slice (some ⟨g', 0, none⟩) (wayL i (n.toNat - 1)).length cap).ownBlock = some g' := rfl
    rw [e] at hv
    injection hv with hv
    subst hv
    rw [hl] at h5
    cases h5
theorem giv_neD {b : Nat} {n : Int} {i : Nat} {v : Value} {W : World} (h : GivW b n i v W) {l : Nat} {r : Option (List Deferred)} (hl : W.heap[l]? = some (.deferred r)) {g : Nat} (hv : v.ownBlock = some g) : g ≠ l := by
  intro e
  subst e
  rcases h.2 with ⟨rfl, _⟩ | ⟨g', cap, cur, rfl, _, h5, _⟩
  · cases hv
  · have e : (Value.slice (some ⟨g', 0, none⟩) (wayL i (n.toNat - 1)).length cap).ownBlock = some g' := rfl
    rw [e] at hv
    injection hv with hv
    subst hv
    rw [hl] at h5
    cases h5
theorem func_nilIn {P : Program} (W : World) (d : Nat) (t : TypeId) {ps rs : Array TypeId} {vr : Bool} (g : Fn) (a b : Array Value) (h : P.underlying t = some (.func ps rs vr)) :
    (Op.equalIn (d + 1) t (.func g a b) .nilFunc).run P W = .ok false W := by
  simp [Op.equalIn, run_underlying h]
theorem func_nil (q : Nat) (W : World) : (binOp .eql 37 (.func (.func 26) #[] #[.pointer (some ⟨q, 0, none⟩)]) .nilFunc).run Try.prog W = .ok (.bool false) W := by
  simp only [binOp]
  simp [Op.equal, Op.maxDepth, func_nilIn W 9999 _ _ _ _ Try.underlying37]

theorem ways_end {n : Nat} {w W0 W w5 : World} {b2 b10 D : Nat} {tmps : Array Value} (hb2 : w.heap.size = b2) (hE : Below b2 w W0) (hk : Keeps W0 W (fun k => k = b10)) (h4 : Box w5 (b2 + 1 + 1) 4 #[.bool false]) (hb5 : Below W.heap.size W w5)
    (hd : W.heap[D]? = some (.deferred (some []))) (h1 : b2 ≤ b10) (h2 : b2 + 1 + 1 < W0.heap.size) (hD : W0.heap.size ≤ D) (ht : tmps[4]? = some (.pointer (some ⟨b2 + 1 + 1, 0, none⟩))) :
    bodyPostM Fence.wide n Try.prog Try.f6 (Gives (.bool true) w) .ret { tmps := tmps, defers := [{ target := .collected D, args := #[] }] } (w5.setCell ⟨b2 + 1 + 1, 0, none⟩ (.bool true)) := by
  have hd5 : w5.heap[D]? = some (.deferred (some [])) := (hb5.block D (Array.getElem?_eq_some_iff.1 hd).1).trans hd
  have hd6 : (w5.setCell ⟨b2 + 1 + 1, 0, none⟩ (.bool true)).heap[D]? = some (.deferred (some [])) := (Below.heap_setCell w5 ⟨b2 + 1 + 1, 0, none⟩ _ D (by show D ≠ b2 + 1 + 1; omega)).trans hd5
  have hc : ((w5.setCell ⟨b2 + 1 + 1, 0, none⟩ (.bool true)).putObj D (.deferred none)).cell? ⟨b2 + 1 + 1, 0, none⟩ = some (.bool true) := by
    have := (h4.set 0 (.bool true)).kept (w' := (w5.setCell ⟨b2 + 1 + 1, 0, none⟩ (.bool true)).putObj D (.deferred none)) (World.putObj_heap_other (by omega))
    exact this.cell 0
  refine ⟨by simp, .inl ⟨_, _, rfl, run_takeDeferred hd6, ?_⟩⟩
  refine ⟨.bool true, ?_, rfl, ?_⟩
  · simp [results, Try.results6, go_sem, hc, ht]
  · rw [hb2]
    have k1 : Keeps W0 (w5.setCell ⟨b2 + 1 + 1, 0, none⟩ (.bool true)) (fun k => k = b10 ∨ k = b2 + 1 + 1) := ((hk.below hb5).mono (fun k _ h => .inl h)).set (b2 + 1 + 1) 0 _ (.inl (.inr rfl))
    have k2 := k1.trans (keeps_put (l := D) (.deferred none)) (fun k hk h => by omega)
    exact hE.trans (k2.toBelow (by omega) (fun k hk h => by omega))

set_option maxRecDepth 100000 in
set_option maxHeartbeats 4000000 in
theorem ways_any (n stop : Int) (w : World) : Calls Try.prog 6 #[.int .i64 n, .int .i64 stop] w (Gives (.bool true) w) := by
  have hfn := func_nil
  have HR := Lib.hid (fun W => refCount_any n W)
  have HC := Lib.hid (fun W => count_any n W)
  have HW := Lib.hid (fun W => ways_ret n W)
  obtain ⟨W3, hW3⟩ : ∃ W3, ((w.alloc (.cells #[.int .i64 n] 3)).alloc (.cells #[.int .i64 stop] 3)).alloc (.cells #[.bool false] 4) = W3 := ⟨_, rfl⟩
  have P2 : Hid (Box W3 w.heap.size 3 #[.int .i64 n]) := Lib.hid (by rw [← hW3]; exact ((Box.new w _ _).alloc _).alloc _)
  have P3 : Hid (Box W3 (w.heap.size + 1) 3 #[.int .i64 stop]) := Lib.hid (by rw [← hW3]; have := (Box.new (w.alloc (.cells #[.int .i64 n] 3)) 3 #[.int .i64 stop]).alloc (.cells #[.bool false] 4); rwa [World.size_alloc] at this)
  have P4 : Hid (Box W3 (w.heap.size + 1 + 1) 4 #[.bool false]) := Lib.hid (by rw [← hW3]; have := (Box.new ((w.alloc (.cells #[.int .i64 n] 3)).alloc (.cells #[.int .i64 stop] 3)) 4 #[.bool false]); rwa [World.size_alloc, World.size_alloc] at this)
  have P0 : Hid (Below w.heap.size w W3) := Lib.hid (by rw [← hW3]; exact (((Below.refl _ _).alloc (Nat.le_refl _) _).alloc (by simp) _).alloc (by simp; omega) _)
  have HW3 := Lib.hid hW3
  clear hW3
  refine (callsIn_wide (n := 8)).1 ?_
  refine callsIn_of_wp_marks Try.func6 rfl trivial ?_ rfl
  simp only [Try.ntmps6, List.size_toArray, List.length_cons, List.length_nil, Nat.reduceAdd, Nat.reduceSub, Array.replicate_succ, Array.replicate_zero, List.push_toArray, List.append_toArray, List.nil_append, List.cons_append]
  gi_wp2_with (first
    | (refine ⟨trivial, ?_⟩; gi_at_call 16; rw [HW3.out]; refine (callsIn_wide.2 (HR.out W3)).mono ?_; rintro e w1 ⟨rfl, hb1⟩; rw [manyW_eq]; have B2 := Lib.hid (P2.out.below hb1 P2.out.lt); have B3 := Lib.hid (P3.out.below hb1 P3.out.lt); have B4 := Lib.hid (P4.out.below hb1 P4.out.lt); have B0 := Lib.hid (below_next P0.out (Nat.le_refl _) hb1); have a2 : ∀ o, (w1.alloc o).cell? ⟨w.heap.size, 0, none⟩ = some (.int .i64 n) := fun o => (B2.out.alloc o).cell 0; clear hb1)
    | (refine ⟨trivial, ?_⟩; gi_at_call 17; refine (callsIn_wide.2 (HC.out (w1.alloc (.cells #[.int .i64 (manyW n)] 3)))).mono ?_; rintro e w2 ⟨rfl, hb2⟩; rw [manyW_eq]; have C2 := Lib.hid ((B2.out.alloc (.cells #[.int .i64 (manyW n)] 3)).below hb2 (B2.out.alloc _).lt); have C3 := Lib.hid ((B3.out.alloc (.cells #[.int .i64 (manyW n)] 3)).below hb2 (B3.out.alloc _).lt); have C4 := Lib.hid ((B4.out.alloc (.cells #[.int .i64 (manyW n)] 3)).below hb2 (B4.out.alloc _).lt); have C5 := Lib.hid ((Box.new w1 3 #[.int .i64 (manyW n)]).below hb2 (Box.new w1 _ _).lt); have C0 := Lib.hid (below_next (B0.out.alloc B0.out.size (.cells #[.int .i64 (manyW n)] 3)) (Nat.le_refl _) hb2); have S1 := Lib.hid B0.out.size; have c2 : w2.cell? ⟨w.heap.size, 0, none⟩ = some (.int .i64 n) := C2.out.cell 0; clear hb2)
    | (refine ⟨trivial, ?_⟩; gi_at_call 18; refine (callsIn_wide.2 (HW.out w2)).mono ?_; rintro e w3 ⟨q, rfl, hq, hql, hb3⟩; have D2 := Lib.hid (C2.out.below hb3 C2.out.lt); have D3 := Lib.hid (C3.out.below hb3 C3.out.lt); have D4 := Lib.hid (C4.out.below hb3 C4.out.lt); have D5 := Lib.hid (C5.out.below hb3 C5.out.lt); have D6 := Lib.hid hq; have D0 := Lib.hid (below_next C0.out (Nat.le_refl _) hb3); have D7 := Lib.hid (And.intro hql C5.out.lt); have d5 : w3.cell? ⟨w1.heap.size, 0, none⟩ = some (.int .i64 (manyW n)) := D5.out.cell 0; clear hb3 hq hql c2 a2))
  have hS1 := S1.out
  have hqq := D7.out
  have hz3 := D6.out.lt
  have hD2 := D2.out.lt
  have hD3 := D3.out.lt
  have hD4 := D4.out.lt
  have hD5 := D5.out.lt
  obtain ⟨b10, hb10⟩ : ∃ b, w3.heap.size = b := ⟨_, rfl⟩
  obtain ⟨b5, hb5⟩ : ∃ b, w1.heap.size = b := ⟨_, rfl⟩
  obtain ⟨b2, hb2⟩ : ∃ b, w.heap.size = b := ⟨_, rfl⟩
  have hB10 := Box.new w3 3 #[.int .i64 0]
  have hE := Lib.hid (D0.out.alloc D0.out.size (.cells #[.int .i64 0] 3))
  have E2 := D2.out.alloc (.cells #[.int .i64 0] 3)
  have E3 := D3.out.alloc (.cells #[.int .i64 0] 3)
  have E4 := D4.out.alloc (.cells #[.int .i64 0] 3)
  have E5 := D5.out.alloc (.cells #[.int .i64 0] 3)
  have E6 := D6.out.alloc (.cells #[.int .i64 0] 3)
  have hsz := World.size_alloc (w := w3) (o := .cells #[.int .i64 0] 3)
  rw [hb10] at hsz hB10 hz3 hD5 hD2 hD3 hD4 ⊢
  rw [hb5] at E5 hqq hD5 hS1 ⊢
  have hE' := hE.out
  rw [hb2] at E2 E3 E4 hS1 hE' hD2 hD3 hD4 ⊢
  have HE := Lib.hid hE'
  clear hE hE' D2 D3 D4 D5 D6 D0 D7 C0 C2 C3 C4 C5 B0 B2 B3 B4 P0 P2 P3 P4 d5 S1 HW3 HR HC HW hfn
  refine at_worldIn ?_
  intro W0 hW0
  rw [hW0] at hB10 E2 E3 E4 E5 E6 hsz HE
  clear hW0
  have hl2 := E2.lt
  have hl3 := E3.lt
  have hl4 := E4.lt
  refine range_iter (n := 8) (S := fun k => k = b10) rfl (by omega) (gf := 26) (lb := #[.pointer (some ⟨q, 0, none⟩)]) rfl trivial (enters_of Try.func26 (by kernel_rfl) rfl) ?hS
    (ways1_iter n q 7 _ W0 E6 (by show ¬ q = b10; omega) (by omega)) ?hGiv ?hOwn ?hOwnD
    (fun i W => Box W b10 3 #[.int .i64 i] ∧ Keeps W0 W (fun k => k = b10))
    (fun c i W => c = .exit 0 ∧ ((i : Int) = stop ∨ (i : Int) = 1000) ∧ Box W b10 3 #[.int .i64 i] ∧ Keeps W0 W (fun k => k = b10)) ?hI ?hIx ?h0 ?hround ?done ?stop
  case hS => intro k hk; subst hk; omega
  case hGiv => intro i v W l r o hg hl; exact owns_kept hg (fun g hv => World.putObj_heap_other (giv_ne hg hl hv))
  case hOwn => intro i v W l r hg hl hv; exact giv_ne hg hl hv rfl
  case hOwnD => intro i v W l r hg hl hv; exact giv_neD hg hl hv rfl
  case hI => rintro i W W' ⟨h1, h2⟩ hk; exact ⟨h1.keeps hk (by omega), h2.trans hk (fun k hk1 hk2 => by omega)⟩
  case hIx => rintro c i W W' ⟨h0, h00, h1, h2⟩ hk; exact ⟨h0, h00, h1.keeps hk (by omega), h2.trans hk (fun k hk1 hk2 => by omega)⟩
  case h0 => exact ⟨hB10, Keeps.refl _ _⟩
  case hround =>
    rintro l i v W hi ⟨hb, hk⟩ hg
    gi_wp2
    refine ⟨trivial, ?_⟩
    clear hb hk hg
    intro W2 hs2 ⟨hb, hk⟩ hg
    have hml := manyW_le n
    have hn0 : n = ((n.toNat : Nat) : Int) := by
      have : 0 ≤ n := by
        apply Classical.byContradiction; intro hc
        have : manyW n = 0 := by unfold manyW; rw [if_pos (by omega)]
        omega
      omega
    have hn1 : n.toNat ≤ 16 := by
      apply Classical.byContradiction; intro hc
      have : manyW n = 0 := by unfold manyW; rw [if_neg (by omega), if_pos (by omega)]
      omega
    have hw := refWay_any n.toNat i W2 hn1 (by omega)
    rw [← hn0] at hw
    have HWAY := Lib.hid hw
    obtain ⟨L, hL⟩ : ∃ L, wayL i (n.toNat - 1) = L := ⟨_, rfl⟩
    have hLl : L.length ≤ 16 := by rw [← hL]; have := wayL_len i (n.toNat - 1); omega
    have hg' : OwnI W2 W0.heap.size v L := by have := hg; unfold GivW at this; rwa [hL] at this
    obtain ⟨Av, cv, rfl, hcv, _⟩ := owns_len hg'
    have c2 : W2.cell? ⟨b2, 0, none⟩ = some (.int .i64 n) := (E2.keeps hk (by omega)).cell 0
    have c3 : W2.cell? ⟨b2 + 1, 0, none⟩ = some (.int .i64 stop) := (E3.keeps hk (by omega)).cell 0
    have c5 : W2.cell? ⟨b5, 0, none⟩ = some (.int .i64 (manyW n)) := (E5.keeps hk (by omega)).cell 0
    have c10 : W2.cell? ⟨b10, 0, none⟩ = some (.int .i64 i) := hb.cell 0
    have i1 : ¬ ((i : Int) ≥ (manyW n : Int)) := by omega
    have i2 : decide ((manyW n : Int) ≤ (i : Int)) = false := decide_eq_false (by omega)
    have HL := Lib.hid hL
    have HG := Lib.hid hg'
    have HB := Lib.hid hb
    have HK := Lib.hid hk
    have F2 := Lib.hid (E2.keeps hk (by omega))
    have F3 := Lib.hid (E3.keeps hk (by omega))
    have F5 := Lib.hid (E5.keeps hk (by omega))
    have h16 : 1 ≤ 8 - 1 - 1 := by omega
    clear hn0 hw hL hg hg' hb hk
    gi_wp2_with (refine ⟨trivial, ?_⟩; gi_at_call 19; refine (CallsIn.inRound l (callsIn_wide.2 HWAY.out)).mono ?_; rintro e w4 ⟨v4, rfl, ho4, hb4⟩; rw [HL.out] at ho4; have G2 := Lib.hid (F2.out.below hb4 F2.out.lt); have G3 := Lib.hid (F3.out.below hb4 F3.out.lt); have G5 := Lib.hid (F5.out.below hb4 F5.out.lt); have G10 := Lib.hid (HB.out.below hb4 HB.out.lt); have GG := Lib.hid (owns_later HG.out hb4); have GB := Lib.hid hb4; have GO := Lib.hid ho4; obtain ⟨A4, c4, rfl, _, _⟩ := owns_len ho4; clear ho4 hb4)
    have hvb : ∀ g, (Value.slice Av L.length cv).ownBlock = some g → W0.heap.size ≤ g ∧ g < W2.heap.size := fun g hg => ⟨(HG.out.lt g hg).1, (HG.out.lt g hg).2⟩
    have h4b : ∀ g, (Value.slice A4 L.length c4).ownBlock = some g → W2.heap.size ≤ g := fun g hg => (GO.out.lt g hg).1
    have HVB := Lib.hid hvb
    have H4B := Lib.hid h4b
    clear hvb h4b c2 c3 c5 c10
    gi_loopw [13, 53] (fun _ idx (wx : World) => ∃ (j : Nat) (L' : List Int), j ≤ L.length ∧ idx = .int .i64 j ∧ OwnI wx W0.heap.size (.slice Av L.length cv) L' ∧ L'.length = L.length ∧ (∀ k, j ≤ k → L'[k]? = L[k]?) ∧ Keeps w4 wx (fun k => (Value.slice Av L.length cv).ownBlock = some k)) (fun _ idx _ => L.length - (intOf idx).toNat)
    case atStart => exact ⟨0, L, by omega, rfl, GG.out, rfl, fun k _ => rfl, Keeps.refl _ _⟩
    case round =>
      obtain ⟨j, L', hj, rfl, hx, hll, hsame, hkx⟩ := hrel
      have HX := Lib.hid hx
      have HSM := Lib.hid hsame
      have HKX := Lib.hid hkx
      have HLL := Lib.hid hll
      clear hx hsame hkx hll
      by_cases c1 : j < L.length
      · have i3 : (j : Int) < (L.length : Int) := by omega
        obtain ⟨x, hx⟩ : ∃ x, L[j]? = some x := ⟨_, List.getElem?_eq_getElem c1⟩
        have hx' : L'[j]? = some x := (HSM.out j (Nat.le_refl _)).trans hx
        have hO4 : OwnI wr W2.heap.size (.slice A4 L.length c4) L := owns_keeps GO.out HKX.out (fun g hg hg2 => by have := H4B.out g hg; have := HVB.out g hg2; omega)
        obtain ⟨a4, rfl⟩ := own_some hO4 (by omega)
        obtain ⟨gv, rfl⟩ : ∃ g, Av = some ⟨g, 0, none⟩ := by
          rcases owns_cases HX.out with ⟨e, _⟩ | ⟨g, cap, e, _⟩
          · injection e with _ e2 _; omega
          · injection e with e1 _ _; exact ⟨g, e1⟩
        have q1 : wr.cell? ⟨gv, j, none⟩ = some (.int .i64 x) := by have := own_int HX.out j x hx'; rwa [add_zero_off] at this
        have q2 : wr.cell? (a4.add j) = some (.int .i64 x) := own_int hO4 j x hx
        have xa := fun (z : Later wr) => (z.below.cell (p := ⟨gv, j, none⟩) (World.block_lt_of_cell? wr _ q1)).trans q1
        have xb := fun (z : Later wr) => z.below.cell (p := a4.add j) (World.block_lt_of_cell? wr _ q2)
        clear hO4 hx hx'
        gi_wp2
        refine region_round_later (by kernel_rfl) (by kernel_rfl) (by kernel_rfl) ?_
        repeat (go_big_quiet_step (fail))
        refine wpQuiet_nil ?_
        rintro w' ⟨z, rfl⟩
        have hz := owns_later HX.out z.below
        have s1 : z.w.cell? ⟨gv, j, none⟩ = some (.int .i64 x) := xa z
        have s2 : z.w.frozen? ⟨gv, j, none⟩ = false := World.ownsRow.frozenAt (n := L.length) (by have := hz; rw [HLL.out] at this; exact this) j
        have HZ := Lib.hid hz
        have HZB := Lib.hid z.below
        clear hz xa xb q1 q2
        gi_wp2
        go_roundw
        case rel =>
          have hst := (World.ownsRow.stored (n := L.length) (by have := HZ.out; rw [HLL.out] at this; exact this) j (.int .i64 99)).1
          refine ⟨j + 1, L'.set j 99, by omega, by go_num, ?_, by rw [List.length_set]; exact HLL.out, ?_, ?_⟩
          · unfold OwnI
            rw [List.length_set, HLL.out, show intC (L'.set j 99) = (intC L').set j (.int .i64 99) by unfold intC; rw [List.map_set]]
            exact hst
          · intro k hk2
            rw [List.getElem?_set_ne (by omega)]
            exact HSM.out k (by omega)
          · exact (HKX.out.below HZB.out).set gv j _ (.inl rfl)
        case measure => simp [intOf]; omega
      · obtain rfl : j = L.length := by omega
        have i3 : ¬ (L.length : Int) < (L.length : Int) := by omega
        have hvn : ∀ k, k < W0.heap.size → (Value.slice Av L.length cv).ownBlock ≠ some k := fun k hk hc => by have := (HVB.out k hc).1; omega
        have X10 : Box wr b10 3 #[.int .i64 i] := G10.out.keeps HKX.out (hvn _ (by omega))
        have X3 : Box wr (b2 + 1) 3 #[.int .i64 stop] := G3.out.keeps HKX.out (hvn _ (by omega))
        have p10 : wr.cell? ⟨b10, 0, none⟩ = some (.int .i64 i) := X10.cell 0
        have f10 : wr.frozen? ⟨b10, 0, none⟩ = false := X10.frozen 0
        have p3 : wr.cell? ⟨b2 + 1, 0, none⟩ = some (.int .i64 stop) := X3.cell 0
        have n1 : b2 + 1 ≠ b10 := by omega
        have n2 : b10 ≠ b2 + 1 := by omega
        have KW : Hid (Keeps W2 (wr.setCell ⟨b10, 0, none⟩ (.int .i64 ((i : Int) + 1))) (fun k => k = b10 ∨ (Value.slice Av L.length cv).ownBlock = some k)) :=
          Lib.hid ((((keeps_below GB.out _).trans HKX.out (fun _ _ h => .inr h))).set b10 0 _ (.inl (.inl rfl)))
        have KI : Hid (Keeps W0 (wr.setCell ⟨b10, 0, none⟩ (.int .i64 ((i : Int) + 1))) (fun k => k = b10)) :=
          Lib.hid (HK.out.trans KW.out (fun k hk h => h.elim id (fun h => absurd h (hvn k hk))))
        have BX : Hid (Box (wr.setCell ⟨b10, 0, none⟩ (.int .i64 ((i : Int) + 1))) b10 3 #[.int .i64 ((i + 1 : Nat) : Int)]) := Lib.hid (by
          have := X10.set 0 (.int .i64 ((i : Int) + 1))
          exact this)
        clear hvn X10 X3
        by_cases e1 : (i : Int) + 1 = stop
        · have b1 : ((i : Int) + 1 == stop) = true := by simp; exact e1
          have H1 := Lib.hid e1
          clear e1
          gi_wp2
          exact ⟨KW.out, rfl, .inl (by have := H1.out; omega), BX.out, KI.out⟩
        · have b1 : ((i : Int) + 1 == stop) = false := by simp; exact e1
          by_cases e2 : (i : Int) + 1 = 1000
          · have b3 : ((i : Int) + 1 == 1000) = true := by simp; exact e2
            have H2 := Lib.hid e2
            clear e1 e2
            gi_wp2
            exact ⟨KW.out, rfl, .inr (by have := H2.out; omega), BX.out, KI.out⟩
          · have b3 : ((i : Int) + 1 == 1000) = false := by simp; exact e2
            clear e1 e2
            gi_wp2
            exact ⟨KW.out, BX.out, KI.out⟩
  case done =>
    rintro D W hD ⟨hb, hk⟩ hdef
    have p10 : W.cell? ⟨b10, 0, none⟩ = some (.int .i64 (manyW n)) := hb.cell 0
    have X3 : Box W (b2 + 1) 3 #[.int .i64 stop] := E3.keeps hk (by omega)
    have X4 : Box W (b2 + 1 + 1) 4 #[.bool false] := E4.keeps hk (by omega)
    have X5 : Box W b5 3 #[.int .i64 (manyW n)] := E5.keeps hk (by omega)
    have p3 : W.cell? ⟨b2 + 1, 0, none⟩ = some (.int .i64 stop) := X3.cell 0
    have p5 : W.cell? ⟨b5, 0, none⟩ = some (.int .i64 (manyW n)) := X5.cell 0
    have HK := Lib.hid hk
    have HX4 := Lib.hid X4
    have HDEF := Lib.hid hdef
    clear hk hb X3 X4 X5 hdef
    have b1 : ((manyW n : Int) == (manyW n : Int)) = true := by simp
    gi_wp2_with (refine ⟨trivial, ?_⟩; gi_at_call 8; refine (callsIn_wide.2 (awake_any W)).mono ?_; rintro e w5 ⟨rfl, hb5⟩; have Y4 := HX4.out.below hb5 HX4.out.lt; have y4 : w5.cell? ⟨b2 + 1 + 1, 0, none⟩ = some (.bool false) := Y4.cell 0; have z4 : w5.frozen? ⟨b2 + 1 + 1, 0, none⟩ = false := Y4.frozen 0; have HY4 := Lib.hid Y4; have HB5 := Lib.hid hb5; clear Y4 hb5)
    exact ways_end (n := 8) hb2 HE.out HK.out HY4.out HB5.out HDEF.out (by omega) (by omega) hD rfl
  case stop =>
    rintro D c i W hD hi0 him ⟨rfl, hor, hb, hk⟩ hdef
    have p10 : W.cell? ⟨b10, 0, none⟩ = some (.int .i64 i) := hb.cell 0
    have X3 : Box W (b2 + 1) 3 #[.int .i64 stop] := E3.keeps hk (by omega)
    have X4 : Box W (b2 + 1 + 1) 4 #[.bool false] := E4.keeps hk (by omega)
    have X5 : Box W b5 3 #[.int .i64 (manyW n)] := E5.keeps hk (by omega)
    have p3 : W.cell? ⟨b2 + 1, 0, none⟩ = some (.int .i64 stop) := X3.cell 0
    have p5 : W.cell? ⟨b5, 0, none⟩ = some (.int .i64 (manyW n)) := X5.cell 0
    have HK := Lib.hid hk
    have HX4 := Lib.hid X4
    have HDEF := Lib.hid hdef
    clear hk hb X3 X4 X5 hdef
    by_cases g1 : i = manyW n
    · subst g1
      have b1 : ((manyW n : Int) == (manyW n : Int)) = true := by simp
      clear hor
      gi_wp2_with (refine ⟨trivial, ?_⟩; gi_at_call 8; refine (callsIn_wide.2 (awake_any W)).mono ?_; rintro e w5 ⟨rfl, hb5⟩; have Y4 := HX4.out.below hb5 HX4.out.lt; have y4 : w5.cell? ⟨b2 + 1 + 1, 0, none⟩ = some (.bool false) := Y4.cell 0; have z4 : w5.frozen? ⟨b2 + 1 + 1, 0, none⟩ = false := Y4.frozen 0; have HY4 := Lib.hid Y4; have HB5 := Lib.hid hb5; clear Y4 hb5)
      exact ways_end (n := 8) hb2 HE.out HK.out HY4.out HB5.out HDEF.out (by omega) (by omega) hD rfl
    · have b1 : ((i : Int) == (manyW n : Int)) = false := by simp; omega
      by_cases g2 : (i : Int) = stop
      · have b2' : ((i : Int) == stop) = true := by simp; exact g2
        clear hor g1 g2
        gi_wp2_with (refine ⟨trivial, ?_⟩; gi_at_call 8; refine (callsIn_wide.2 (awake_any W)).mono ?_; rintro e w5 ⟨rfl, hb5⟩; have Y4 := HX4.out.below hb5 HX4.out.lt; have y4 : w5.cell? ⟨b2 + 1 + 1, 0, none⟩ = some (.bool false) := Y4.cell 0; have z4 : w5.frozen? ⟨b2 + 1 + 1, 0, none⟩ = false := Y4.frozen 0; have HY4 := Lib.hid Y4; have HB5 := Lib.hid hb5; clear Y4 hb5)
        exact ways_end (n := 8) hb2 HE.out HK.out HY4.out HB5.out HDEF.out (by omega) (by omega) hD rfl
      · have b2' : ((i : Int) == stop) = false := by simp; exact g2
        have g3 : (i : Int) = 1000 := hor.elim (fun h => absurd h g2) id
        have b3 : ((i : Int) == 1000) = true := by simp; exact g3
        clear hor g1 g2 g3
        gi_wp2_with (refine ⟨trivial, ?_⟩; gi_at_call 8; refine (callsIn_wide.2 (awake_any W)).mono ?_; rintro e w5 ⟨rfl, hb5⟩; have Y4 := HX4.out.below hb5 HX4.out.lt; have y4 : w5.cell? ⟨b2 + 1 + 1, 0, none⟩ = some (.bool false) := Y4.cell 0; have z4 : w5.frozen? ⟨b2 + 1 + 1, 0, none⟩ = false := Y4.frozen 0; have HY4 := Lib.hid Y4; have HB5 := Lib.hid hb5; clear Y4 hb5)
        exact ways_end (n := 8) hb2 HE.out HK.out HY4.out HB5.out HDEF.out (by omega) (by omega) hD rfl

open Go.ChangeShapes Go.WideShapes Go.ChangeAt in
theorem open_num {H : Type} {enc : TypeId × Value → H} {W : World} {base : Nat} {v : Value} {d : DataW H} {p : List MemPlace}
    (hv : Value.okWide Try.prog W .any base 3 v) (h : DataW.Trod enc Try.prog W 0 (fun _ => true) true 3 v d p) : ∃ n : Int, v = .int .i64 n := by
  obtain ⟨a, rfl, _, _, wa⟩ := open_int Try.underlying3 hv h
  exact ⟨a, rfl⟩

set_option maxRecDepth 100000 in
theorem cutsWays_lifted (os : Os) (started : os.Started) (H : Type) (enc : TypeId × Value → H) :
    ReturnsInHanded {} Try.checked os 6 .any (Rows.cutsWaysSpec.pre6 enc Try.prog Try.f6 Rows.cutsWaysRow.domain false) (Rows.cutsWaysSpec.post enc Try.prog Try.f6 false true false false) := by
  refine law_lift (C := Try.checked) (tb := 4) Try.own Try.laidOut started (by kernel_rfl) Try.func6
    (ChangeSpec.witness6 (enc := enc) (C := Try.checked) false ⟨#[], #[.int .i64 0, .int .i64 0], []⟩ 8 (by kernel_rfl) (by kernel_rfl) (by kernel_rfl) (by kernel_rfl))
    rfl Try.underlying4 (by intro t ht; have ht' : t ∈ [3, 3] := ht; simp at ht'; rcases ht' with rfl <;> exact ⟨by kernel_rfl, of_decide_eq_true (by kernel_rfl)⟩) rfl
    (fun ds h => match ds, h with | [_, _], _ => rfl) ?_
  intro W base args ds ps hh
  obtain ⟨v, v', d, d', p, p', rfl, hv, hv', h0, h0'⟩ := handed_two Try.params6 hh
  obtain ⟨n, rfl⟩ := open_num hv h0
  obtain ⟨m, rfl⟩ := open_num hv' h0'
  exact ways_any n m W

theorem cutsWays_holds : Rows.CutsWaysSaid :=
  OpenClaim.holds_of_wide 6 Try.f6 rfl rfl rfl rfl rfl rfl rfl ⟨rfl, rfl, rfl, rfl, rfl⟩ rfl rfl rfl rfl rfl (by kernel_rfl) Try.func6 (by kernel_rfl)
    (of_decide_eq_true (by kernel_rfl)) (by unfold Func.isWrapper; first | (rw [if_pos (by decide +kernel)]; kernel_rfl) | (rw [if_neg (by decide +kernel)]; exact ⟨rfl, rfl⟩))
    (fun os started H enc _ => cutsWays_lifted os started H enc)
#print axioms cutsWays_holds

end Go.Proofs.Ytmfhnmdgcjlnpaa
