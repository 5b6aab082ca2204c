/-
  Walks: the program goes over a text, and gathers its records: the call.
-/
import Derived.Test.YtdkdbmiafnadmaaRows
import Derived.Test.YtdkdbmiafnadmaaWal
import Derived.WalkMore
namespace Go.Proofs.Ytdkdbmiafnadmaa
open Go.RowKit

theorem rec_kept {wr w4 : World} {qr o m fb : Nat} {v vm : Value} {vs : List Value} {L : List (List ByteArray)} {A : Option Addr} (hR : RecB wr qr v vs L) (hk : Keeps wr w4 (fun i => i = o ∨ feet m A vm i)) (hF : ∀ i, rfoot qr v vs i → i = qr ∨ (m ≤ i ∧ i ≠ o ∧ i ≠ fb)) (hD : ∀ i, feet m A vm i → i ≠ o ∧ i ≠ fb ∧ ¬ rfoot qr v vs i) (hqo : qr < o) : RecB w4 qr v vs L :=
  hR.keeps hk (fun i hi hc => by
    rcases hc with hc | hc
    · rcases hF i hi with h | h
      · omega
      · exact h.2.1 hc
    · exact (hD i hc).2.2 hi)
theorem rec_apart {wr : World} {qr o m fb : Nat} {v vm vm' r : Value} {vs : List Value} {L : List (List ByteArray)} {A A' : Option Addr} (hR : RecB wr qr v vs L) (hD : ∀ i, feet m A vm i → i ≠ o ∧ i ≠ fb ∧ ¬ rfoot qr v vs i) (hr : ∀ g, r.ownBlock = some g → (feet m A vm g ∨ wr.heap.size ≤ g) ∧ ¬ feet m A' vm' g) : apart r v := fun g hg hc => by
  rcases (hr g hg).1 with h | h
  · exact (hD g h).2.2 (.inr (.inl hc))
  · have := hR.foot_lt g (.inr (.inl hc)); omega
theorem meas_int (off k n : Nat) (h : k ≤ n) : off + n + 2 - (intOf (.int .i64 ((off : Int) + k + 1))).toNat < off + n + 2 - (intOf (.int .i64 ((off + k : Nat) : Int))).toNat := by
  simp [intOf]
  omega

theorem walk_end {w W3 w4 W5 : World} {qr o m fb : Nat} {v : Value} {vs : List Value} {L : List (List ByteArray)} (h3 : Keeps w W3 (fun _ => False)) (h4 : Keeps W3 w4 (fun i => i = qr ∨ (m ≤ i ∧ i ≠ fb))) (hR : RecB w4 qr v vs L) (hF : ∀ i, rfoot qr v vs i → i = qr ∨ (m ≤ i ∧ i ≠ o ∧ i ≠ fb)) (hn : w.heap.size + 2 < m ∧ m < o ∧ o < fb ∧ qr < w.heap.size)
    (h5 : Keeps w4 W5 (fun i => i = fb ∨ i = w.heap.size + 1 + 1)) : RecB W5 qr v vs L ∧ Keeps w W5 (fun k => k = qr) ∧ ∀ i, rfoot qr v vs i → i = qr ∨ w.heap.size ≤ i := by
  refine ⟨hR.keeps h5 (fun i hi hc => ?_), (((h3.mono (fun _ _ h => h.elim)).trans h4 (fun i hi h => ?_)).trans h5 (fun i hi h => ?_)), fun i hi => ?_⟩
  · rcases hF i hi with h | h
    · omega
    · omega
  · rcases h with h | h
    · exact h
    · omega
  · omega
  · rcases hF i hi with h | h
    · exact .inl h
    · exact .inr (by omega)

set_option maxRecDepth 100000 in
set_option maxHeartbeats 8000000 in
theorem walkP_any (qr p q : Nat) (n : Int) (l : Lim) (s : ByteArray) (w : World) (h : RecB w qr (.slice none 0 0) [] []) (hs : s.size ≤ 100000) (hok : okB p q n = true) (hf : fitsB l.fs l.fl l.rs = true) :
    Calls Try.prog 17 #[.agg #[.int .u8 p, .int .u8 q, .int .i64 n], .agg #[.int .i64 l.fs, .int .i64 l.fl, .int .i64 l.rs, .bool l.un], .string s, .func (.func 18) #[] #[.pointer (some ⟨qr, 0, none⟩)]] w (WalkP w qr p q n l s) := by
  have hcell := fun (W : World) (x : Later W) => x.cell
  have hfrozen := fun (W : World) (x : Later W) => x.frozen
  have HB := Lib.hid (fun W => beg_ok p q n l W hok hf)
  have HS := Lib.hid (fun W => Bom.stripP_any s W (by unfold maxLen; omega))
  obtain ⟨hsz, hby⟩ := strip_at s
  obtain ⟨t, ht⟩ : ∃ t, Bom.stripS s = t := ⟨_, rfl⟩
  have hoff : offN s + t.size = s.size := by unfold offN; rw [ht] at hsz ⊢; omega
  rw [ht] at HS hby hsz
  obtain ⟨off, hof⟩ : ∃ off, offN s = off := ⟨_, rfl⟩
  rw [hof] at hoff hby
  have hsub : wrap64 ((s.size : Int) - (t.size : Int)) = off := by unfold wrap64; omega
  have HSUB := Lib.hid hsub
  have HBY := Lib.hid hby
  have HT := Lib.hid ht
  have HOF := Lib.hid hof
  have HOK := Lib.hid hok
  have H := Lib.hid h
  have hlt := h.1.lt
  have HLT := Lib.hid hlt
  clear h hf hok hby ht hof hsz
  go_enter Try.func17, Try.ntmps17
  go_wp2_with fail
  go_step3
  go_wp2_with (first | (go_at_call 26; refine (HB.out _).mono ?_; rintro e w2 ⟨o, m, rfl, hm, hmo, hP, hM, hB2⟩; have hm' : w.heap.size + 2 < m := (by simp at hm; omega); have HP := Lib.hid hP; have HM := Lib.hid hM; have HB2 := Lib.hid hB2; clear hP hM hB2 hm) | (go_at_call 27; (first | (with_reducible refine (later_call _ (HS.out _)).mono ?_) | (with_reducible refine (call_later (HS.out _)).mono ?_)); rintro e w' ⟨rfl, x, rfl⟩))
  go_step3
  go_wp2_with fail
  clear hsub
  have hqm : qr < m := by omega
  have hxm := x.size
  have hm2 := HM.out.lt
  have ho2 := HP.out.lt
  have hw2 : w.heap.size ≤ w2.heap.size := by have := HB2.out.size; simp at this; omega
  have hK2 : Keeps w w2 (fun _ => False) := (((((Keeps.refl _ _).alloc _).alloc _).alloc _).below HB2.out)
  have hbr : Box w2 (w.heap.size + 1 + 1) 30 #[.int .i64 0, .int .i64 0] := (show Box (((w.alloc (.cells #[.int .u8 p, .int .u8 q, .int .i64 n] 23)).alloc (.cells #[.int .i64 l.fs, .int .i64 l.fl, .int .i64 l.rs, .bool l.un] 25)).alloc (.cells #[.int .i64 0, .int .i64 0] 30)) (w.heap.size + 1 + 1) 30 #[.int .i64 0, .int .i64 0] from by have := Box.new ((w.alloc (.cells #[.int .u8 p, .int .u8 q, .int .i64 n] 23)).alloc (.cells #[.int .i64 l.fs, .int .i64 l.fl, .int .i64 l.rs, .bool l.un] 25)) 30 #[.int .i64 0, .int .i64 0]; simpa using this).below HB2.out (by simp)
  have hfb := Box.new x.w 30 #[.int .i64 0, .int .i64 0]
  have hb3 : Below w2.heap.size w2 (x.w.alloc (.cells #[.int .i64 0, .int .i64 0] 30)) := x.below.alloc x.size _
  obtain ⟨fb, hfe⟩ : ∃ fb, x.w.heap.size = fb := ⟨_, rfl⟩
  have hw3 : fb < (x.w.alloc (.cells #[.int .i64 0, .int .i64 0] 30)).heap.size := by simp; omega
  rw [hfe] at hfb ⊢
  generalize (x.w.alloc (.cells #[.int .i64 0, .int .i64 0] 30)) = W3 at hfb hb3 hw3 ⊢
  have hof' : o < fb := by omega
  have hbr3 := hbr.below hb3 hbr.lt
  have HK3 := Lib.hid (hK2.below hb3)
  have HBR := Lib.hid hbr3
  have HFB := Lib.hid hfb
  have HR3 := Lib.hid (H.out.keeps (hK2.below hb3) (fun _ _ => id))
  have HP3 := Lib.hid (HP.out.below hb3 ho2)
  have HM3 := Lib.hid (HM.out.below hb3)
  have HW3 := Lib.hid hw3
  have HNE := Lib.hid (show w.heap.size + 2 < m ∧ m < o ∧ o < fb ∧ qr < w.heap.size from ⟨hm', hmo, hof', HLT.out⟩)
  clear hxm hm2 ho2 hw2 hK2 hbr hb3 hfb hbr3 hw3 hfe hof' hmo hm' HP HM HB2 HB HS hcell hfrozen HLT hlt hqm x w2
  go_loopw [14, 15, 16, 17] (fun z14 _ _ _ (wr : World) => ∃ k v vs, z14 = .int .i64 ((off + k : Nat) : Int) ∧ k ≤ t.size + 1 ∧ (xAt p q n l t k).ft.1 = 0 ∧ LoopI W3 wr qr o m fb p q n l t k v vs) (fun z14 _ _ _ _ => off + t.size + 2 - (intOf z14).toNat)
  case atStart =>
    refine ⟨0, .slice none 0 0, [], by rw [Nat.add_zero]; congr 1; omega, Nat.zero_le _, ?_, ?_⟩
    · rw [xAt_le (Nat.zero_le _)]; rfl
    · refine ⟨by rw [xAt_le (Nat.zero_le _)]; exact HR3.out, Keeps.refl _ _, fun i hi => ?_, fun _ => ⟨Int.le_refl _, none, 0, _, HP3.out, HM3.out, fun i hi => ?_⟩⟩
      · rcases hi with hi | hi | ⟨r, hr, _⟩
        · exact .inl hi
        · cases hi
        · cases hr
      · have hn := HNE.out
        have hi' : i = m := by
          rcases hi with hi | ⟨a, ha, _⟩ | hi
          · exact hi
          · cases ha
          · cases hi
        refine ⟨by omega, by omega, fun hc => ?_⟩
        rcases hc with hc | hc | ⟨r, hr, _⟩
        · omega
        · cases hc
        · cases hr
  case round =>
    obtain ⟨k, v, vs, rfl, hk, hft, hL⟩ := hrel
    have HL := Lib.hid hL
    have hKS := hL.2.1
    have hfbr := HFB.out.keeps hKS (by have := HNE.out; omega)
    have hrbr := HBR.out.keeps hKS (by have := HNE.out; omega)
    by_cases hkt : k ≤ t.size
    · have ha : off + k ≤ s.size := by omega
      have d1 : decide (((off + k : Nat) : Int) ≤ (s.size : Int)) = true := decide_eq_true (by omega)
      obtain ⟨hu, A, cA, vm, hP, hM, hd⟩ := hL.2.2.2 hkt
      rw [xAt_le hkt] at hft
      have hR := hL.1
      rw [xAt_le hkt] at hR
      have hTK := tak_any o p q m cA n (Utf.stateAt t k) (runU p q n l t k).st s (off + k) A vm l (runU p q n l t k).mr wr hP hM (fun hc => (hd o hc).1 rfl) ((runU_sz k).mono (by omega)) ⟨hu, (Utf.stateAt_range t k).2⟩ (runU_st k) HOK.out ha look_by
      obtain ⟨c, hc⟩ : ∃ c, lookO p q n (Utf.stateAt t k) (runU p q n l t k).st s (off + k) = c := ⟨_, rfl⟩
      have hTa := HT.out
      have hOf := HOF.out
      subst hTa
      subst hOf
      have hx1 := x_fault (p := p) (q := q) (n := n) (l := l) (s := s) (k := k) (by omega) hkt hft (HBY.out k)
      have hx2 := x_takes (p := p) (q := q) (n := n) (l := l) (s := s) (k := k) hc (by omega) hkt hft (HBY.out k)
      generalize ht : Bom.stripS s = t at *
      generalize ho : offN s = off at *
      rw [hc] at hTK hx1
      have hm0 : ∀ i, feet m A vm i → m ≤ i := fun i hi => (hM.feet_lt i hi).1
      have hsub : ∀ i, (i = o ∨ feet m A vm i) → i = qr ∨ (m ≤ i ∧ i ≠ fb) := fun i hi => .inr (hi.elim (fun e => by have := HNE.out; omega) (fun e => ⟨hm0 i e, (hd i e).2.1⟩))
      -- a fault at this place
      have hE : (∃ er : Nat, er ≠ 0 ∧ (xAt p q n l t (k + 1)).ft = (er, k) ∧ recs (xAt p q n l t (k + 1)) = recs (runU p q n l t k) ∧
          Calls Try.prog 28 #[.pointer (some ⟨o, 0, none⟩), .string s, .int .i64 ((off + k : Nat) : Int)] wr (fun e w' => ∃ r b, e = .returned (.tuple #[r, .bool b, .int .i64 er]) ∧ Keeps wr w' (fun i => i = o ∨ feet m A vm i))) ∨
          (c.er = 0 ∧ (takeV l (runU p q n l t k).mr c.ev).1.st = 0) := by
        by_cases h1 : c.er = 0
        · by_cases h2 : (takeV l (runU p q n l t k).mr c.ev).1.st = 0
          · exact .inr ⟨h1, h2⟩
          · obtain ⟨a1, a2⟩ := (hx2 h1).1 h2
            refine .inl ⟨_, h2, a1, a2, hTK.mono ?_⟩
            rintro e w' ⟨_, hq⟩
            obtain ⟨A', c', v', r, b1, b2, b3, b4, b5, _⟩ := hq h1
            exact ⟨r, _, b5, b3⟩
        · obtain ⟨a1, a2⟩ := hx1 h1
          refine .inl ⟨_, h1, a1, a2, hTK.mono ?_⟩
          rintro e w' ⟨hq, _⟩
          obtain ⟨b1, b2⟩ := hq h1
          exact ⟨_, _, b1, (Keeps.refl _ _).grown b2 (fun g hg => .inl (.inl (by injection hg with hg; exact hg.symm)))⟩
      rcases hE with ⟨er, her, hxf, hxr, hC⟩ | ⟨h1, h2⟩
      · have z1 : ((er : Int) != 0) = true := by simp [her]
        have z2 : decide ((er : Int) = 0) = false := decide_eq_false (by omega)
        have hfin : finU p q n l t = xAt p q n l t (k + 1) := xAt_stuck (by omega) (by rw [hxf]; exact her)
        have HC := Lib.hid hC
        have HX := Lib.hid (And.intro hxf (And.intro hxr (And.intro hfin her)))
        have HKS := Lib.hid hKS
        have HSUB2 := Lib.hid hsub
        have HR := Lib.hid hR
        have HF := Lib.hid hL.2.2.1
        have HD := Lib.hid hd
        clear hx1 hx2 hTK hL HL hKS hfbr hrbr hsub hR hd hM hP hm0 her hxf hxr hC hfin hc hu
        have hne1 : ¬ fb = w.heap.size + 1 + 1 := by have := HNE.out; omega
        have hne2 : ¬ w.heap.size + 1 + 1 = fb := by have := HNE.out; omega
        go_wp2_with (go_at_call 28; refine HC.out.mono ?_; rintro e w4 ⟨r, b, rfl, hk4⟩; have hK4 := HKS.out.trans hk4 (fun i _ hi => HSUB2.out i hi); have hfb4 := HFB.out.keeps hK4 (by have := HNE.out; omega); have hrb4 := HBR.out.keeps hK4 (by have := HNE.out; omega); have fA : w4.cell? ⟨fb, 0, none⟩ = some (.int .i64 0) := hfb4.cell 0; have fB : w4.cell? ⟨fb, 1, none⟩ = some (.int .i64 0) := hfb4.cell 1; have fC := hfb4.frozen; have rA : w4.cell? ⟨w.heap.size + 1 + 1, 0, none⟩ = some (.int .i64 0) := hrb4.cell 0; have rB : w4.cell? ⟨w.heap.size + 1 + 1, 1, none⟩ = some (.int .i64 0) := hrb4.cell 1; have rC := hrb4.frozen; have HK4 := Lib.hid hK4; have Hk4 := Lib.hid hk4; have HF4 := Lib.hid hfb4; have HR4 := Lib.hid hrb4; clear hk4 hK4 hfb4 hrb4)
        have hR4 : RecB w4 qr v vs (recs (runU p q n l t k)) := HR.out.keeps Hk4.out (fun i hi hc => by
          rcases hc with hc | hc
          · rcases HF.out i hi with h | h
            · have := HNE.out; omega
            · exact h.2.1 hc
          · exact (HD.out i hc).2.2 hi)
        have hR5 := ((((HR4.out.far (p := ⟨fb, 0, none⟩) hne2 (.int .i64 er)).far (p := ⟨fb, 1, none⟩) hne2 (.int .i64 ((off : Int) + k))).set 0 (.int .i64 er)).set 1 (.int .i64 ((off : Int) + k)))
        have hk5 : Keeps w4 ((((w4.setCell ⟨fb, 0, none⟩ (.int .i64 er)).setCell ⟨fb, 1, none⟩ (.int .i64 ((off : Int) + k))).setCell ⟨w.heap.size + 1 + 1, 0, none⟩ (.int .i64 er)).setCell ⟨w.heap.size + 1 + 1, 1, none⟩ (.int .i64 ((off : Int) + k))) (fun i => i = fb ∨ i = w.heap.size + 1 + 1) :=
          ((((Keeps.refl w4 _).set fb 0 _ (.inl (.inl rfl))).set fb 1 _ (.inl (.inl rfl))).set _ 0 _ (.inl (.inr rfl))).set _ 1 _ (.inl (.inr rfl))
        have hend := walk_end HK3.out HK4.out hR4 HF.out HNE.out hk5
        clear hk5 hR4 fA fB fC rA rB rC HF4 HR4 HK4 Hk4 HR HF HD HKS
        generalize ((((w4.setCell ⟨fb, 0, none⟩ (.int .i64 er)).setCell ⟨fb, 1, none⟩ (.int .i64 ((off : Int) + k))).setCell ⟨w.heap.size + 1 + 1, 0, none⟩ (.int .i64 er)).setCell ⟨w.heap.size + 1 + 1, 1, none⟩ (.int .i64 ((off : Int) + k))) = W5 at hR5 hend ⊢
        have g0 : W5.cell? ⟨w.heap.size + 1 + 1, 0, none⟩ = some (.int .i64 er) := hR5.cell 0
        have g1 : W5.cell? ⟨w.heap.size + 1 + 1, 1, none⟩ = some (.int .i64 ((off : Int) + k)) := hR5.cell 1
        try rw [Exit.noGoto_ret]
        refine bodyPost_ret (v := .agg #[.int .i64 er, .int .i64 ((off : Int) + k)]) (by simp (maxDischargeDepth := 8) [results, Try.results17, go_sem, g0, g1]) rfl ?_
        obtain ⟨hx1, hx2, hx3, hx4⟩ := HX.out
        unfold WalkP
        rw [ht, ho, hx3]
        refine ⟨?_, v, vs, by rw [hx2]; exact hend.1, hend.2.1, hend.2.2⟩
        unfold faultV
        rw [hx1]
        simp [hx4]
      · obtain ⟨a1, a2, a3⟩ := (hx2 h1).2 h2
        have htk := hTK.mono (fun _ _ h => h.2 h1)
        have hsq : k < t.size → 0 ≤ lookQ (Utf.stateAt t k) s (off + k) := fun hlt => by
          have e := (a3 hlt).2.2
          have r1 := Utf.stateAt_range t (k + 1)
          have hq : lookQ (Utf.stateAt t k) s (off + k) ≠ -1 := by
            unfold lookQ Utf.nxI
            split
            · split
              · decide
              · assumption
            · omega
          omega
        obtain ⟨mr', hmr⟩ : ∃ mr', (takeV l (runU p q n l t k).mr c.ev).1 = mr' := ⟨_, rfl⟩
        obtain ⟨ro, hro⟩ : ∃ ro, (takeV l (runU p q n l t k).mr c.ev).2 = ro := ⟨_, rfl⟩
        rw [hmr] at htk a3 h2
        rw [hro] at htk a2
        rw [h2] at htk
        generalize lookQ (Utf.stateAt t k) s (off + k) = sq' at htk a3 hsq
        generalize lookS p q n (runU p q n l t k).st s (off + k) = st' at htk a3
        have hlen : (recs (runU p q n l t k)).length ≤ 1000000 := by have := runU_len (p := p) (q := q) (n := n) (l := l) (t := t) k; unfold recs; rw [List.length_map]; omega
        have hw : wrap64 ((off : Int) + k + 1) = off + k + 1 := by unfold wrap64; omega
        have HW := Lib.hid hw
        have HLEN := Lib.hid hlen
        have HKS := Lib.hid hKS
        have HSUB2 := Lib.hid hsub
        have HR := Lib.hid hR
        have HF := Lib.hid hL.2.2.1
        have HD := Lib.hid hd
        have HM0 := Lib.hid hm0
        have HA := Lib.hid (And.intro a1 (And.intro a2 (And.intro a3 hsq)))
        have HFB2 := Lib.hid (show fb < wr.heap.size from hfbr.lt)
        have HKT := Lib.hid hkt
        have hfb6 := Nat.le_refl fb
        cases ro with
        | none =>
          have HC : Hid (Calls Try.prog 28 #[.pointer (some ⟨o, 0, none⟩), .string s, .int .i64 ((off + k : Nat) : Int)] wr (fun e w' => ∃ A' c' v' r, PB w' o p q n sq' st' m ∧ MBox w' m A' c' v' l mr' ∧ Keeps wr w' (fun k => k = o ∨ feet m A vm k) ∧ (∀ k, feet m A' v' k → feet m A vm k ∨ wr.heap.size ≤ k) ∧ e = .returned (.tuple #[r, .bool false, .int .i64 0]))) := Lib.hid (htk.mono (fun e w' ⟨A', c', v', r, b1, b2, b3, b4, b5, _⟩ => ⟨A', c', v', r, b1, b2, b3, b4, b5⟩))
          clear hx1 hx2 hTK hL HL hKS hfbr hrbr hsub hR hd hM hP hm0 hc hu h1 h2 a1 a2 a3 hsq htk hmr hro hlen hw hfb6 hkt hs hk hft hoff
          go_wp2_with (go_at_call 28; refine HC.out.mono ?_; rintro e w4 ⟨A', c', v', r, hp4, hm4, hk4, hn4, rfl⟩; have HP4 := Lib.hid hp4; have HM4 := Lib.hid hm4; have HK4 := Lib.hid hk4; have HN4 := Lib.hid hn4; clear hp4 hm4 hk4 hn4; skip)
          go_roundw
          case rel =>
            have hn := HNE.out
            obtain ⟨a1, a2, a3, hsq⟩ := HA.out
            have hkt := HKT.out
            exact ⟨k + 1, v, vs, congrArg (Value.int .i64) (HW.out.trans (by omega)), by omega, a1, loop_none HR.out HKS.out HF.out HD.out (by omega) (by omega) (by omega) HFB2.out HM0.out HP4.out HM4.out HK4.out HN4.out (by rw [a2]; simp) a3 hsq⟩
          case measure => (rw [HW.out]; exact meas_int off k t.size HKT.out)
        | some R =>
          have HC : Hid (Calls Try.prog 28 #[.pointer (some ⟨o, 0, none⟩), .string s, .int .i64 ((off + k : Nat) : Int)] wr (fun e w' => ∃ A' c' v' r, PB w' o p q n sq' st' m ∧ MBox w' m A' c' v' l mr' ∧ Keeps wr w' (fun k => k = o ∨ feet m A vm k) ∧ (∀ k, feet m A' v' k → feet m A vm k ∨ wr.heap.size ≤ k) ∧ e = .returned (.tuple #[r, .bool true, .int .i64 0]) ∧ OwnS w' (m + 1) r R ∧ ∀ g, r.ownBlock = some g → (feet m A vm g ∨ wr.heap.size ≤ g) ∧ ¬ feet m A' v' g)) := Lib.hid htk
          clear hx1 hx2 hTK hL HL hKS hfbr hrbr hsub hR hd hM hP hm0 hc hu h1 h2 a1 a2 a3 hsq htk hmr hro hlen hw hfb6 hkt hs hk hft hoff
          go_wp2_with (first | (go_at_call 28; refine HC.out.mono ?_; rintro e w4 ⟨A', c', v', r, hp4, hm4, hk4, hn4, rfl, ho4, hr4⟩; have HP4 := Lib.hid hp4; have HM4 := Lib.hid hm4; have HK4 := Lib.hid hk4; have HN4 := Lib.hid hn4; have HO4 := Lib.hid ho4; have HQ4 := Lib.hid hr4; clear hp4 hm4 hk4 hn4 ho4 hr4) | (go_at_call 18; refine (gather_rec qr v r vs _ R w4 (rec_kept HR.out HK4.out HF.out HD.out (by have := HNE.out; omega)) (owns_less HO4.out (by have := HNE.out; omega)) (rec_apart HR.out HD.out HQ4.out) HLEN.out).mono ?_; rintro e w5 ⟨rfl, v5, hR5, hk5, hv5⟩; have HR5 := Lib.hid hR5; have HK5 := Lib.hid hk5; have HV5 := Lib.hid hv5; clear hR5 hk5 hv5; skip))
          go_roundw
          case rel =>
            have hn := HNE.out
            obtain ⟨a1, a2, a3, hsq⟩ := HA.out
            have hkt := HKT.out
            exact ⟨k + 1, v5, vs ++ [r], congrArg (Value.int .i64) (HW.out.trans (by omega)), by omega, a1, loop_some HR.out HKS.out HF.out HD.out (by omega) (by omega) (by omega) HFB2.out HM0.out HP4.out HM4.out HK4.out HN4.out HQ4.out HR5.out HK5.out HV5.out (by rw [a2]; rfl) a3 hsq⟩
          case measure => (rw [HW.out]; exact meas_int off k t.size HKT.out)
    · have hke : k = t.size + 1 := by omega
      subst hke
      have d1 : decide (((off + (t.size + 1) : Nat) : Int) ≤ (s.size : Int)) = false := decide_eq_false (by omega)
      have d2 : ¬ ((off : Int) + ((t.size : Int) + 1) ≤ (s.size : Int)) := by omega
      have d3 : ¬ (((off + (t.size + 1) : Nat) : Int) ≤ (s.size : Int)) := by omega
      rw [xAt_end] at hft
      have hR := hL.1
      rw [xAt_end] at hR
      have hF := hL.2.2.1
      have hne1 : ¬ fb = w.heap.size + 1 + 1 := by have := HNE.out; omega
      have hne2 : ¬ w.heap.size + 1 + 1 = fb := by have := HNE.out; omega
      have fA : wr.cell? ⟨fb, 0, none⟩ = some (.int .i64 0) := hfbr.cell 0
      have fB : wr.cell? ⟨fb, 1, none⟩ = some (.int .i64 0) := hfbr.cell 1
      have rA : wr.cell? ⟨w.heap.size + 1 + 1, 0, none⟩ = some (.int .i64 0) := hrbr.cell 0
      have rB : wr.cell? ⟨w.heap.size + 1 + 1, 1, none⟩ = some (.int .i64 0) := hrbr.cell 1
      have rC := hrbr.frozen
      have HRB := Lib.hid hrbr
      have HR := Lib.hid hR
      have HF := Lib.hid hF
      have HKS := Lib.hid hKS
      have HFT := Lib.hid hft
      clear hL HL hKS hfbr hrbr hR hF hft hk hkt hs hoff
      go_wp2_with fail
      have hR5 := (HRB.out.set 0 (.int .i64 0)).set 1 (.int .i64 0)
      have hk5 : Keeps wr ((wr.setCell ⟨w.heap.size + 1 + 1, 0, none⟩ (.int .i64 0)).setCell ⟨w.heap.size + 1 + 1, 1, none⟩ (.int .i64 0)) (fun i => i = fb ∨ i = w.heap.size + 1 + 1) := (((Keeps.refl wr _).set _ 0 _ (.inl (.inr rfl))).set _ 1 _ (.inl (.inr rfl)))
      have hend := walk_end HK3.out HKS.out HR.out HF.out HNE.out hk5
      clear hk5 fA fB rA rB rC
      generalize ((wr.setCell ⟨w.heap.size + 1 + 1, 0, none⟩ (.int .i64 0)).setCell ⟨w.heap.size + 1 + 1, 1, none⟩ (.int .i64 0)) = W5 at hR5 hend ⊢
      have g0 : W5.cell? ⟨w.heap.size + 1 + 1, 0, none⟩ = some (.int .i64 0) := hR5.cell 0
      have g1 : W5.cell? ⟨w.heap.size + 1 + 1, 1, none⟩ = some (.int .i64 0) := hR5.cell 1
      try rw [Exit.noGoto_ret]
      refine bodyPost_ret (v := .agg #[.int .i64 0, .int .i64 0]) (by simp (maxDischargeDepth := 8) [results, Try.results17, go_sem, g0, g1]) rfl ?_
      unfold WalkP
      rw [HT.out, HOF.out]
      refine ⟨?_, v, vs, hend.1, hend.2.1, hend.2.2⟩
      unfold faultV
      rw [HFT.out]
      rfl

end Go.Proofs.Ytdkdbmiafnadmaa
