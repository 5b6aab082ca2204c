/-
  Walks: the program goes over a text, and hands its records to a loop's yield: the call.
-/
import Derived.Test.YtdkdbmiafnadmaaRows
import Derived.Test.YtdkdbmiafnadmaaWakN
import Derived.Test.YtdkdbmiafnadmaaRng
import Derived.Test.YtdkdbmiafnadmaaFro
import Derived.WalkMore
import Derived.Deep.DeepCutAuto
import Derived.RangeFuncNested
import Derived.RangeFuncBound
import Derived.RangeFuncCalls
import Derived.RangeFuncLeaves
import Derived.Shelf.Abstract
import Derived.Shelf.RegionOpen
import Derived.WalkKit
import Derived.OwnWalkIn
import Derived.TacticsInMore
import Derived.LoopNIn
import Derived.LoopIn
namespace Go.Proofs.Ytdkdbmiafnadmaa
open Go.RowKit Go.Shelf
attribute [local go_sem] Oper.semAt_some

/-- In the wide fence the depth is of no weight. -/
theorem yield_any {m m' l : Nat} {P : Program} {args : Array Value} {W : World} {R : Ending → World → Prop} (h : YieldAt Fence.wide m P l args W R) : YieldAt Fence.wide m' P l args W R := by
  obtain ⟨fn, tmps, assign, body, hy, hR⟩ := h
  exact ⟨fn, tmps, assign, body, hy, hR.1, fun c cs _ => hR.2 c cs (room_wide _)⟩
theorem round_any {m m' l : Nat} {P : Program} {fn : FuncId} {tmps : Array Value} {assign body : Code} {W : World} {R : Ending → World → Prop} (h : RoundIn Fence.wide m P l fn tmps assign body W R) : RoundIn Fence.wide m' P l fn tmps assign body W R :=
  ⟨h.1, fun c cs _ => h.2 c cs (room_wide _)⟩
theorem keeps_newY {w w' : World} (hb : Below w.heap.size w w') (B : Nat) : Keeps w w' (fun k => B ≤ k) := ⟨hb.os, hb.tape, hb.output, hb.size, fun i hi _ => hb.block i hi⟩
theorem Stab.belowY {α : Type} {B : Nat} {J : α → World → Prop} (h : Stab B J) {i : α} {W W' : World} (hj : J i W) (hb : Below W.heap.size W W') : J i W' := h i W W' hj (keeps_newY hb B)

theorem xAt_out {p q : Nat} {n : Int} {l : Lim} {t : ByteArray} {k : Nat} (hk : k ≤ t.size + 1) : recs (xAt p q n l t k) <+: recs (finU p q n l t) := by
  unfold recs
  refine List.IsPrefix.map _ ?_
  by_cases h : k ≤ t.size
  · rw [xAt_le h]
    have h1 := run_out (p := p) (q := q) (n := n) (l := l) (t := t) k (t.size - k)
    rw [show k + (t.size - k) = t.size by omega] at h1
    exact h1.trans (endU_out _ _)
  · rw [show k = t.size + 1 by omega, xAt_end]
    exact List.prefix_refl _
theorem rec_at {p q : Nat} {n : Int} {l : Lim} {t : ByteArray} {k : Nat} {L : List (List ByteArray)} {R : List ByteArray} (hk : k ≤ t.size) (h : recs (xAt p q n l t (k + 1)) = L ++ [R]) : (recs (finU p q n l t))[L.length]? = some R ∧ L.length < (recs (finU p q n l t)).length := by
  obtain ⟨r, hr⟩ := xAt_out (p := p) (q := q) (n := n) (l := l) (t := t) (k := k + 1) (by omega)
  rw [← hr, h]
  constructor
  · simp
  · simp

/-- What holds ahead of a place (the parser, and what the rounds leave). -/
def LoopY (W3 wr : World) (S : Nat → Prop) (lp o m fb p q : Nat) (n : Int) (l : Lim) (t : ByteArray) (k : Nat) : Prop :=
  Keeps W3 wr (fun i => (m ≤ i ∧ i ≠ fb) ∨ S i ∨ i = lp) ∧
    (k ≤ t.size → 0 ≤ Utf.stateAt t k ∧ ∃ A c vm, PB wr o p q n (Utf.stateAt t k) (runU p q n l t k).st m ∧ MBox wr m A c vm l (runU p q n l t k).mr ∧ ∀ i, feet m A vm i → i ≠ o ∧ i ≠ fb)

theorem loopY_step {W3 wr w4 w5 : World} {S : Nat → Prop} {lp o m fb p q k : Nat} {n : Int} {l : Lim} {t : ByteArray} {vm vm' : Value} {A A' : Option Addr} {c' : Nat} {sq : Int} {st : Nat} {mr : Mkr} (O : Nat → Prop)
    (hK : Keeps W3 wr (fun i => (m ≤ i ∧ i ≠ fb) ∨ S i ∨ i = lp)) (hd : ∀ i, feet m A vm i → i ≠ o ∧ i ≠ fb) (hmo : m < o) (hof : o < fb) (hfb : fb < wr.heap.size) (hm0 : ∀ i, feet m A vm i → m ≤ i) (hS : ∀ i, S i → i < m) (hlp : lp < m)
    (hP : PB w4 o p q n sq st m) (hM : MBox w4 m A' c' vm' l mr) (hk : Keeps wr w4 (fun k => k = o ∨ feet m A vm k)) (hn : ∀ k, feet m A' vm' k → feet m A vm k ∨ wr.heap.size ≤ k)
    (hO : ∀ g, O g → (feet m A vm g ∨ wr.heap.size ≤ g) ∧ ¬ feet m A' vm' g) (h5 : Keeps w4 w5 (fun k => S k ∨ k = lp ∨ O k))
    (h1 : k < t.size → (runU p q n l t (k + 1)).mr = mr ∧ (runU p q n l t (k + 1)).st = st ∧ Utf.stateAt t (k + 1) = sq) (hsq : k < t.size → 0 ≤ sq) :
    LoopY W3 w5 S lp o m fb p q n l t (k + 1) := by
  have hs := hk.size
  have hOo : ∀ g, O g → m ≤ g ∧ g ≠ o ∧ g ≠ fb := fun g hg => by
    rcases (hO g hg).1 with h | h
    · exact ⟨hm0 g h, (hd g h).1, (hd g h).2⟩
    · exact ⟨by omega, by omega, by omega⟩
  have hm4 : ∀ i, feet m A' vm' i → m ≤ i := fun i hi => (hM.feet_lt i hi).1
  refine ⟨(hK.trans hk (fun i _ hi => ?_)).trans h5 (fun i _ hi => ?_), fun hlt => ?_⟩
  · rcases hi with hi | hi
    · exact .inl ⟨by omega, by omega⟩
    · exact .inl ⟨hm0 i hi, (hd i hi).2⟩
  · rcases hi with hi | hi | hi
    · exact .inr (.inl hi)
    · exact .inr (.inr hi)
    · exact .inl ⟨(hOo i hi).1, (hOo i hi).2.2⟩
  · obtain ⟨e1, e2, e3⟩ := h1 (by omega)
    rw [e1, e2, e3]
    refine ⟨hsq (by omega), A', c', vm', hP.keeps h5 (fun hc => ?_), hM.keeps h5 (fun i hi hc => ?_), fun i hi => ?_⟩
    · rcases hc with hc | hc | hc
      · have := hS _ hc; omega
      · omega
      · exact (hOo _ hc).2.1 rfl
    · have := hm4 i hi
      rcases hc with hc | hc | hc
      · have := hS _ hc; omega
      · omega
      · exact (hO i hc).2 hi
    · rcases hn i hi with h | h
      · exact hd i h
      · exact ⟨by omega, by omega⟩
theorem J_more {J : Nat → World → Prop} {B i j : Nat} {w w' : World} {X : Nat → Prop} (hJ : Stab B J) (h : J i w) (hk : Keeps w w' X) (hX : ∀ k, X k → B ≤ k) (e : i = j) : J j w' := e ▸ hJ _ _ _ h (hk.mono (fun k _ h => hX k h))

/-- What an iterator that walks comes to. -/
def WalkY (J Jx : Nat → World → Prop) (many : Nat) (e : Ending) (w' : World) : Prop := (∃ v, e = .returned v) ∧ (J many w' ∨ ∃ i, 0 < i ∧ i ≤ many ∧ Jx i w')

set_option maxRecDepth 100000 in
set_option maxHeartbeats 8000000 in
theorem walkY_any (lp B p q : Nat) (n : Int) (l : Lim) (s : ByteArray) (S : Nat → Prop) (J Jx : Nat → World → Prop) (w : World) (hlp : lp < B) (hB : B ≤ w.heap.size) (hSB : ∀ k, S k → k < B) (hJ : Stab B J) (hJx : Stab B Jx)
    (hY : ∀ i v R W1, (recs (finU p q n l (Bom.stripS s)))[i]? = some R → J i W1 → w.heap.size ≤ W1.heap.size → OwnS W1 B v R → YieldAt Fence.wide 0 Try.prog lp #[v] W1 (fun e W' =>
      (e = .returned (.bool true) ∧ J (i + 1) W' ∧ Keeps W1 W' (fun k => S k ∨ k = lp ∨ v.ownBlock = some k)) ∨ (e = .returned (.bool false) ∧ Jx (i + 1) W' ∧ Keeps W1 W' (fun k => S k ∨ k = lp ∨ v.ownBlock = some k)))) (h0 : J 0 w) (hs : s.size ≤ 100000) (hok : okB p q n = true) (hf : fitsB l.fs l.fl l.rs = true) :
    Calls Try.prog 17 #[.agg #[.int .u8 p, .int .u8 q, .int .i64 n], .agg #[.int .i64 l.fs, .int .i64 l.fl, .int .i64 l.rs, .bool l.un], .string s, .func (.yield lp) #[] #[]] w (WalkY J Jx (recs (finU p q n l (Bom.stripS s))).length) := by
  have hcell := fun (W : World) (x : Later W) => x.cell
  have hfrozen := fun (W : World) (x : Later W) => x.frozen
  have HB := Lib.hid (fun W => beg_ok p q n l W hok hf)
  have HS := Lib.hid (fun W => Bom.stripP_any s W (by unfold maxLen; omega))
  obtain ⟨hsz, hby⟩ := strip_at s
  obtain ⟨t, ht⟩ : ∃ t, Bom.stripS s = t := ⟨_, rfl⟩
  have hoff : offN s + t.size = s.size := by unfold offN; rw [ht] at hsz ⊢; omega
  rw [ht] at HS hby hsz
  obtain ⟨off, hof⟩ : ∃ off, offN s = off := ⟨_, rfl⟩
  rw [hof] at hoff hby
  have hsub : wrap64 ((s.size : Int) - (t.size : Int)) = off := by unfold wrap64; omega
  have HSUB := Lib.hid hsub
  have HBY := Lib.hid hby
  have HT := Lib.hid ht
  have HOF := Lib.hid hof
  have HOK := Lib.hid hok
  clear hf hok hby ht hof hsz
  rw [HT.out] at hY ⊢
  have HY := Lib.hid hY
  have HJ := Lib.hid hJ
  have HJX := Lib.hid hJx
  have HSB := Lib.hid hSB
  have HBB := Lib.hid (And.intro hlp hB)
  have H0 := Lib.hid h0
  clear hY hJ hJx hSB hlp hB h0
  go_enter Try.func17, Try.ntmps17
  go_wp2_with fail
  go_step3
  go_wp2_with (first | (go_at_call 26; refine (HB.out _).mono ?_; rintro e w2 ⟨o, m, rfl, hm, hmo, hP, hM, hB2⟩; have hm' : w.heap.size + 2 < m := (by simp at hm; omega); have HP := Lib.hid hP; have HM := Lib.hid hM; have HB2 := Lib.hid hB2; clear hP hM hB2 hm) | (go_at_call 27; (first | (with_reducible refine (later_call _ (HS.out _)).mono ?_) | (with_reducible refine (call_later (HS.out _)).mono ?_)); rintro e w' ⟨rfl, x, rfl⟩))
  go_step3
  go_wp2_with fail
  clear hsub
  have hxm := x.size
  have hm2 := HM.out.lt
  have ho2 := HP.out.lt
  have hw2 : w.heap.size ≤ w2.heap.size := by have := HB2.out.size; simp at this; omega
  have hK2 : Keeps w w2 (fun _ => False) := (((((Keeps.refl _ _).alloc _).alloc _).alloc _).below HB2.out)
  have hbr : Box w2 (w.heap.size + 1 + 1) 30 #[.int .i64 0, .int .i64 0] := (show Box (((w.alloc (.cells #[.int .u8 p, .int .u8 q, .int .i64 n] 23)).alloc (.cells #[.int .i64 l.fs, .int .i64 l.fl, .int .i64 l.rs, .bool l.un] 25)).alloc (.cells #[.int .i64 0, .int .i64 0] 30)) (w.heap.size + 1 + 1) 30 #[.int .i64 0, .int .i64 0] from by have := Box.new ((w.alloc (.cells #[.int .u8 p, .int .u8 q, .int .i64 n] 23)).alloc (.cells #[.int .i64 l.fs, .int .i64 l.fl, .int .i64 l.rs, .bool l.un] 25)) 30 #[.int .i64 0, .int .i64 0]; simpa using this).below HB2.out (by simp)
  have hfb := Box.new x.w 30 #[.int .i64 0, .int .i64 0]
  have hb3 : Below w2.heap.size w2 (x.w.alloc (.cells #[.int .i64 0, .int .i64 0] 30)) := x.below.alloc x.size _
  obtain ⟨fb, hfe⟩ : ∃ fb, x.w.heap.size = fb := ⟨_, rfl⟩
  have hw3 : fb < (x.w.alloc (.cells #[.int .i64 0, .int .i64 0] 30)).heap.size := by simp; omega
  rw [hfe] at hfb ⊢
  generalize (x.w.alloc (.cells #[.int .i64 0, .int .i64 0] 30)) = W3 at hfb hb3 hw3 ⊢
  have hof' : o < fb := by omega
  have hbr3 := hbr.below hb3 hbr.lt
  have HK3 := Lib.hid (hK2.below hb3)
  have HBR := Lib.hid hbr3
  have HFB := Lib.hid hfb
  have HJ3 := Lib.hid (J_more HJ.out H0.out (hK2.below hb3) (fun k h => h.elim) rfl)
  have HP3 := Lib.hid (HP.out.below hb3 ho2)
  have HM3 := Lib.hid (HM.out.below hb3)
  have HW3 := Lib.hid hw3
  have HNE := Lib.hid (show w.heap.size + 2 < m ∧ m < o ∧ o < fb from ⟨hm', hmo, hof'⟩)
  clear hxm hm2 ho2 hw2 hK2 hbr hb3 hfb hbr3 hw3 hfe hof' hmo hm' HP HM HB2 HB HS hcell hfrozen x w2
  have HFBN : Hid (¬ ((m ≤ fb ∧ fb ≠ fb) ∨ S fb ∨ fb = lp)) := Lib.hid (fun hc => by have h1 := HBB.out; have h2 := HNE.out; rcases hc with hc | hc | hc; omega; (have := HSB.out _ hc; omega); omega)
  have HRBN : Hid (¬ ((m ≤ w.heap.size + 1 + 1 ∧ w.heap.size + 1 + 1 ≠ fb) ∨ S (w.heap.size + 1 + 1) ∨ w.heap.size + 1 + 1 = lp)) := Lib.hid (fun hc => by have h1 := HBB.out; have h2 := HNE.out; rcases hc with hc | hc | hc; omega; (have := HSB.out _ hc; omega); omega)
  have HSM : Hid ((∀ i, S i → i < m) ∧ lp < m) := Lib.hid (by have h1 := HBB.out; have h2 := HNE.out; exact ⟨fun i hi => by have := HSB.out i hi; omega, by omega⟩)
  go_loopw [14, 15, 16, 17] (fun z14 _ _ _ (wr : World) => ∃ k, z14 = .int .i64 ((off + k : Nat) : Int) ∧ k ≤ t.size + 1 ∧ (xAt p q n l t k).ft.1 = 0 ∧ J (recs (xAt p q n l t k)).length wr ∧ w.heap.size ≤ wr.heap.size ∧ LoopY W3 wr S lp o m fb p q n l t k) (fun z14 _ _ _ _ => off + t.size + 2 - (intOf z14).toNat)
  case atStart =>
    refine ⟨0, by rw [Nat.add_zero]; congr 1; omega, Nat.zero_le _, ?_, ?_, ?_, ?_⟩
    · rw [xAt_le (Nat.zero_le _)]; rfl
    · rw [xAt_le (Nat.zero_le _)]; exact HJ3.out
    · exact HK3.out.size
    · refine ⟨Keeps.refl _ _, fun _ => ⟨Int.le_refl _, none, 0, _, HP3.out, HM3.out, fun i hi => ?_⟩⟩
      have hn := HNE.out
      have hi' : i = m := by
        rcases hi with hi | ⟨a, ha, _⟩ | hi
        · exact hi
        · cases ha
        · cases hi
      exact ⟨by omega, by omega⟩
  case round =>
    obtain ⟨k, rfl, hk, hft, hJk, hszr, hL⟩ := hrel
    have HSZ := Lib.hid hszr
    have hbn := HBB.out
    have hmn := HNE.out
    have HL := Lib.hid hL
    have hKS := hL.1
    have hfbr := HFB.out.keeps hKS HFBN.out
    have hrbr := HBR.out.keeps hKS HRBN.out
    by_cases hkt : k ≤ t.size
    · have ha : off + k ≤ s.size := by omega
      have d1 : decide (((off + k : Nat) : Int) ≤ (s.size : Int)) = true := decide_eq_true (by omega)
      obtain ⟨hu, A, cA, vm, hP, hM, hd⟩ := hL.2 hkt
      rw [xAt_le hkt] at hft hJk
      have HJK := Lib.hid hJk
      clear hJk
      have hTK := tak_any o p q m cA n (Utf.stateAt t k) (runU p q n l t k).st s (off + k) A vm l (runU p q n l t k).mr wr hP hM (fun hc => (hd o hc).1 rfl) ((runU_sz k).mono (by omega)) ⟨hu, (Utf.stateAt_range t k).2⟩ (runU_st k) HOK.out ha look_by
      obtain ⟨c, hc⟩ : ∃ c, lookO p q n (Utf.stateAt t k) (runU p q n l t k).st s (off + k) = c := ⟨_, rfl⟩
      have hTa := HT.out
      have hOf := HOF.out
      subst hTa
      subst hOf
      have hx1 := x_fault (p := p) (q := q) (n := n) (l := l) (s := s) (k := k) (by omega) hkt hft (HBY.out k)
      have hx2 := x_takes (p := p) (q := q) (n := n) (l := l) (s := s) (k := k) hc (by omega) hkt hft (HBY.out k)
      generalize ht : Bom.stripS s = t at *
      generalize ho : offN s = off at *
      rw [hc] at hTK hx1
      have hm0 : ∀ i, feet m A vm i → m ≤ i := fun i hi => (hM.feet_lt i hi).1
      have HM0 := Lib.hid hm0
      have hsub : ∀ i, (i = o ∨ feet m A vm i) → ((m ≤ i ∧ i ≠ fb) ∨ S i ∨ i = lp) := fun i hi => .inl (hi.elim (fun e => by have := HNE.out; omega) (fun e => ⟨hm0 i e, (hd i e).2⟩))
      -- a fault at this place
      have hE : (∃ er : Nat, er ≠ 0 ∧ (xAt p q n l t (k + 1)).ft = (er, k) ∧ recs (xAt p q n l t (k + 1)) = recs (runU p q n l t k) ∧
          Calls Try.prog 28 #[.pointer (some ⟨o, 0, none⟩), .string s, .int .i64 ((off + k : Nat) : Int)] wr (fun e w' => ∃ r b, e = .returned (.tuple #[r, .bool b, .int .i64 er]) ∧ Keeps wr w' (fun i => i = o ∨ feet m A vm i))) ∨
          (c.er = 0 ∧ (takeV l (runU p q n l t k).mr c.ev).1.st = 0) := by
        by_cases h1 : c.er = 0
        · by_cases h2 : (takeV l (runU p q n l t k).mr c.ev).1.st = 0
          · exact .inr ⟨h1, h2⟩
          · obtain ⟨a1, a2⟩ := (hx2 h1).1 h2
            refine .inl ⟨_, h2, a1, a2, hTK.mono ?_⟩
            rintro e w' ⟨_, hq⟩
            obtain ⟨A', c', v', r, b1, b2, b3, b4, b5, _⟩ := hq h1
            exact ⟨r, _, b5, b3⟩
        · obtain ⟨a1, a2⟩ := hx1 h1
          refine .inl ⟨_, h1, a1, a2, hTK.mono ?_⟩
          rintro e w' ⟨hq, _⟩
          obtain ⟨b1, b2⟩ := hq h1
          exact ⟨_, _, b1, (Keeps.refl _ _).grown b2 (fun g hg => .inl (.inl (by injection hg with hg; exact hg.symm)))⟩
      rcases hE with ⟨er, her, hxf, hxr, hC⟩ | ⟨h1, h2⟩
      · have z1 : ((er : Int) != 0) = true := by simp [her]
        have z2 : decide ((er : Int) = 0) = false := decide_eq_false (by omega)
        have hfin : finU p q n l t = xAt p q n l t (k + 1) := xAt_stuck (by omega) (by rw [hxf]; exact her)
        have HC := Lib.hid hC
        have HX := Lib.hid (And.intro hxf (And.intro hxr (And.intro hfin her)))
        have HKS := Lib.hid hKS
        have HSUB2 := Lib.hid hsub
        clear hx1 hx2 hTK hL HL hKS hfbr hrbr hsub hd hM hP hm0 her hxf hxr hC hfin hc hu
        have hne1 : ¬ fb = w.heap.size + 1 + 1 := by have := HNE.out; omega
        have hne2 : ¬ w.heap.size + 1 + 1 = fb := by have := HNE.out; omega
        go_wp2_with (go_at_call 28; refine HC.out.mono ?_; rintro e w4 ⟨r, b, rfl, hk4⟩; have hK4 := HKS.out.trans hk4 (fun i _ hi => HSUB2.out i hi); have hfb4 := HFB.out.keeps hK4 HFBN.out; have hrb4 := HBR.out.keeps hK4 HRBN.out; have fA : w4.cell? ⟨fb, 0, none⟩ = some (.int .i64 0) := hfb4.cell 0; have fB : w4.cell? ⟨fb, 1, none⟩ = some (.int .i64 0) := hfb4.cell 1; have fC := hfb4.frozen; have rA : w4.cell? ⟨w.heap.size + 1 + 1, 0, none⟩ = some (.int .i64 0) := hrb4.cell 0; have rB : w4.cell? ⟨w.heap.size + 1 + 1, 1, none⟩ = some (.int .i64 0) := hrb4.cell 1; have rC := hrb4.frozen; have HK4 := Lib.hid hK4; have Hk4 := Lib.hid hk4; have HF4 := Lib.hid hfb4; have HR4 := Lib.hid hrb4; clear hk4 hK4 hfb4 hrb4)
        have hR5 := ((((HR4.out.far (p := ⟨fb, 0, none⟩) hne2 (.int .i64 er)).far (p := ⟨fb, 1, none⟩) hne2 (.int .i64 ((off : Int) + k))).set 0 (.int .i64 er)).set 1 (.int .i64 ((off : Int) + k)))
        have hk5 : Keeps w4 ((((w4.setCell ⟨fb, 0, none⟩ (.int .i64 er)).setCell ⟨fb, 1, none⟩ (.int .i64 ((off : Int) + k))).setCell ⟨w.heap.size + 1 + 1, 0, none⟩ (.int .i64 er)).setCell ⟨w.heap.size + 1 + 1, 1, none⟩ (.int .i64 ((off : Int) + k))) (fun i => i = fb ∨ i = w.heap.size + 1 + 1) :=
          ((((Keeps.refl w4 _).set fb 0 _ (.inl (.inl rfl))).set fb 1 _ (.inl (.inl rfl))).set _ 0 _ (.inl (.inr rfl))).set _ 1 _ (.inl (.inr rfl))
        have hend : J (recs (finU p q n l t)).length _ := J_more HJ.out (J_more HJ.out HJK.out Hk4.out (fun i hi => by have h1 := HBB.out; have h2 := HNE.out; rcases hi with hi | hi; omega; (have := HM0.out i hi; omega)) rfl) hk5 (fun i hi => by have h1 := HBB.out; have h2 := HNE.out; omega) (by rw [HX.out.2.2.1, HX.out.2.1])
        clear hk5 fA fB fC rA rB rC HF4 HR4 HK4 Hk4 HKS
        generalize ((((w4.setCell ⟨fb, 0, none⟩ (.int .i64 er)).setCell ⟨fb, 1, none⟩ (.int .i64 ((off : Int) + k))).setCell ⟨w.heap.size + 1 + 1, 0, none⟩ (.int .i64 er)).setCell ⟨w.heap.size + 1 + 1, 1, none⟩ (.int .i64 ((off : Int) + k))) = W5 at hR5 hend ⊢
        have g0 : W5.cell? ⟨w.heap.size + 1 + 1, 0, none⟩ = some (.int .i64 er) := hR5.cell 0
        have g1 : W5.cell? ⟨w.heap.size + 1 + 1, 1, none⟩ = some (.int .i64 ((off : Int) + k)) := hR5.cell 1
        try rw [Exit.noGoto_ret]
        refine bodyPost_ret (v := .agg #[.int .i64 er, .int .i64 ((off : Int) + k)]) (by simp (maxDischargeDepth := 8) [results, Try.results17, go_sem, g0, g1]) rfl ?_
        obtain ⟨hx1, hx2, hx3, hx4⟩ := HX.out
        exact ⟨⟨_, rfl⟩, .inl hend⟩
      · obtain ⟨a1, a2, a3⟩ := (hx2 h1).2 h2
        have htk := hTK.mono (fun _ _ h => h.2 h1)
        have hsq : k < t.size → 0 ≤ lookQ (Utf.stateAt t k) s (off + k) := fun hlt => by
          have e := (a3 hlt).2.2
          have r1 := Utf.stateAt_range t (k + 1)
          have hq : lookQ (Utf.stateAt t k) s (off + k) ≠ -1 := by
            unfold lookQ Utf.nxI
            split
            · split
              · decide
              · assumption
            · omega
          omega
        obtain ⟨mr', hmr⟩ : ∃ mr', (takeV l (runU p q n l t k).mr c.ev).1 = mr' := ⟨_, rfl⟩
        obtain ⟨ro, hro⟩ : ∃ ro, (takeV l (runU p q n l t k).mr c.ev).2 = ro := ⟨_, rfl⟩
        rw [hmr] at htk a3 h2
        rw [hro] at htk a2
        rw [h2] at htk
        generalize lookQ (Utf.stateAt t k) s (off + k) = sq' at htk a3 hsq
        generalize lookS p q n (runU p q n l t k).st s (off + k) = st' at htk a3
        have hlen : (recs (runU p q n l t k)).length ≤ 1000000 := by have := runU_len (p := p) (q := q) (n := n) (l := l) (t := t) k; unfold recs; rw [List.length_map]; omega
        have hw : wrap64 ((off : Int) + k + 1) = off + k + 1 := by unfold wrap64; omega
        have HW := Lib.hid hw
        have HLEN := Lib.hid hlen
        have HKS := Lib.hid hKS
        have HSUB2 := Lib.hid hsub
        have HD := Lib.hid hd
        have HA := Lib.hid (And.intro a1 (And.intro a2 (And.intro a3 hsq)))
        have HFB2 := Lib.hid (show fb < wr.heap.size from hfbr.lt)
        have HKT := Lib.hid hkt
        have hfb6 := Nat.le_refl fb
        cases ro with
        | none =>
          have HC : Hid (Calls Try.prog 28 #[.pointer (some ⟨o, 0, none⟩), .string s, .int .i64 ((off + k : Nat) : Int)] wr (fun e w' => ∃ A' c' v' r, PB w' o p q n sq' st' m ∧ MBox w' m A' c' v' l mr' ∧ Keeps wr w' (fun k => k = o ∨ feet m A vm k) ∧ (∀ k, feet m A' v' k → feet m A vm k ∨ wr.heap.size ≤ k) ∧ e = .returned (.tuple #[r, .bool false, .int .i64 0]))) := Lib.hid (htk.mono (fun e w' ⟨A', c', v', r, b1, b2, b3, b4, b5, _⟩ => ⟨A', c', v', r, b1, b2, b3, b4, b5⟩))
          clear hx1 hx2 hTK hL HL hKS hfbr hrbr hsub hd hM hP hm0 hc hu h1 h2 a1 a2 a3 hsq htk hmr hro hlen hw hfb6 hkt hs hk hft hoff
          go_wp2_with (go_at_call 28; refine HC.out.mono ?_; rintro e w4 ⟨A', c', v', r, hp4, hm4, hk4, hn4, rfl⟩; have HP4 := Lib.hid hp4; have HM4 := Lib.hid hm4; have HK4 := Lib.hid hk4; have HN4 := Lib.hid hn4; clear hp4 hm4 hk4 hn4; skip)
          go_roundw
          case rel =>
            have hn := HNE.out
            obtain ⟨a1, a2, a3, hsq⟩ := HA.out
            have hkt := HKT.out
            exact ⟨k + 1, congrArg (Value.int .i64) (HW.out.trans (by omega)), by omega, a1, J_more HJ.out HJK.out HK4.out (fun i hi => by have h1 := HBB.out; rcases hi with hi | hi; omega; (have := HM0.out i hi; omega)) (by rw [a2]; simp), Nat.le_trans HSZ.out HK4.out.size,
              loopY_step (fun _ => False) HKS.out HD.out (by omega) (by omega) HFB2.out HM0.out HSM.out.1 HSM.out.2 HP4.out HM4.out HK4.out HN4.out (fun g h => h.elim) (Keeps.refl _ _) a3 hsq⟩
          case measure => (rw [HW.out]; exact meas_int off k t.size HKT.out)
        | some R =>
          have HC : Hid (Calls Try.prog 28 #[.pointer (some ⟨o, 0, none⟩), .string s, .int .i64 ((off + k : Nat) : Int)] wr (fun e w' => ∃ A' c' v' r, PB w' o p q n sq' st' m ∧ MBox w' m A' c' v' l mr' ∧ Keeps wr w' (fun k => k = o ∨ feet m A vm k) ∧ (∀ k, feet m A' v' k → feet m A vm k ∨ wr.heap.size ≤ k) ∧ e = .returned (.tuple #[r, .bool true, .int .i64 0]) ∧ OwnS w' (m + 1) r R ∧ ∀ g, r.ownBlock = some g → (feet m A vm g ∨ wr.heap.size ≤ g) ∧ ¬ feet m A' v' g)) := Lib.hid htk
          clear hx1 hx2 hTK hL HL hKS hfbr hrbr hsub hd hM hP hm0 hc hu h1 h2 a1 a2 a3 hsq htk hmr hro hlen hw hfb6 hkt hs hk hft hoff
          go_upto_region 12 with (go_at_call 28; refine HC.out.mono ?_; rintro e w4 ⟨A', c', v', r, hp4, hm4, hk4, hn4, rfl, ho4, hr4⟩; have HP4 := Lib.hid hp4; have HM4 := Lib.hid hm4; have HK4 := Lib.hid hk4; have HN4 := Lib.hid hn4; have HO4 := Lib.hid ho4; have HQ4 := Lib.hid hr4; clear hp4 hm4 hk4 hn4 ho4 hr4)
          have hra := rec_at (p := p) (q := q) (n := n) (l := l) (t := t) (k := k) (L := recs (runU p q n l t k)) (R := R) HKT.out (by rw [HA.out.2.1]; rfl)
          have hj4 : J (recs (runU p q n l t k)).length w4 := J_more HJ.out HJK.out HK4.out (fun i hi => by have h1 := HBB.out; have h2 := HNE.out; rcases hi with hi | hi; omega; (have := HM0.out i hi; omega)) rfl
          obtain ⟨fn, tmps, assign, bd, hy, hR⟩ := HY.out _ r R w4 hra.1 hj4 (Nat.le_trans HSZ.out HK4.out.size) (owns_less HO4.out (by have h1 := HBB.out; have h2 := HNE.out; omega))
          have HRR := Lib.hid hR
          have HRA := Lib.hid hra
          clear hR hra hj4
          refine (wpIn_wide (n := 5)).1 ?_
          gi_wp2_with fail
          refine (round_any HRR.out).mono ?_
          rintro e w5 (⟨rfl, hj5, hk5⟩ | ⟨rfl, hj5, hk5⟩)
          · have HJ5 := Lib.hid hj5
            have HK5 := Lib.hid hk5
            clear hj5 hk5
            gi_wp2
            go_wp2_with fail
            go_roundw
            case rel =>
              have hn := HNE.out
              obtain ⟨a1, a2, a3, hsq⟩ := HA.out
              have hkt := HKT.out
              exact ⟨k + 1, congrArg (Value.int .i64) (HW.out.trans (by omega)), by omega, a1, by rw [a2]; simpa using HJ5.out, Nat.le_trans HSZ.out (Nat.le_trans HK4.out.size HK5.out.size),
                loopY_step (fun g => r.ownBlock = some g) HKS.out HD.out (by omega) (by omega) HFB2.out HM0.out HSM.out.1 HSM.out.2 HP4.out HM4.out HK4.out HN4.out HQ4.out HK5.out a3 hsq⟩
            case measure => (rw [HW.out]; exact meas_int off k t.size HKT.out)
          · have HJ5 := Lib.hid hj5
            have HK5 := Lib.hid hk5
            clear hj5 hk5
            have hn := HNE.out
            obtain ⟨a1, a2, a3, hsq⟩ := HA.out
            have hLY := loopY_step (fun g => r.ownBlock = some g) HKS.out HD.out (by omega) (by omega) HFB2.out HM0.out HSM.out.1 HSM.out.2 HP4.out HM4.out HK4.out HN4.out HQ4.out HK5.out a3 hsq
            have hfb5 := HFB.out.keeps hLY.1 HFBN.out
            have hrb5 := HBR.out.keeps hLY.1 HRBN.out
            have hne1 : ¬ fb = w.heap.size + 1 + 1 := by omega
            have hne2 : ¬ w.heap.size + 1 + 1 = fb := by omega
            have fA : w5.cell? ⟨fb, 0, none⟩ = some (.int .i64 0) := hfb5.cell 0
            have fB : w5.cell? ⟨fb, 1, none⟩ = some (.int .i64 0) := hfb5.cell 1
            have rA : w5.cell? ⟨w.heap.size + 1 + 1, 0, none⟩ = some (.int .i64 0) := hrb5.cell 0
            have rB : w5.cell? ⟨w.heap.size + 1 + 1, 1, none⟩ = some (.int .i64 0) := hrb5.cell 1
            have rC := hrb5.frozen
            have HRB := Lib.hid hrb5
            clear hLY hfb5 hrb5 a1 a2 a3 hsq
            gi_wp2
            go_wp2_with fail
            have hR5 := (HRB.out.set 0 (.int .i64 0)).set 1 (.int .i64 0)
            have hk5 : Keeps w5 ((w5.setCell ⟨w.heap.size + 1 + 1, 0, none⟩ (.int .i64 0)).setCell ⟨w.heap.size + 1 + 1, 1, none⟩ (.int .i64 0)) (fun i => i = fb ∨ i = w.heap.size + 1 + 1) := (((Keeps.refl w5 _).set _ 0 _ (.inl (.inr rfl))).set _ 1 _ (.inl (.inr rfl)))
            have hend := J_more HJX.out HJ5.out hk5 (fun i hi => by have h1 := HBB.out; have h2 := HNE.out; omega) rfl
            clear hk5 fA fB rA rB rC
            generalize ((w5.setCell ⟨w.heap.size + 1 + 1, 0, none⟩ (.int .i64 0)).setCell ⟨w.heap.size + 1 + 1, 1, none⟩ (.int .i64 0)) = W5 at hR5 hend ⊢
            have g0 : W5.cell? ⟨w.heap.size + 1 + 1, 0, none⟩ = some (.int .i64 0) := hR5.cell 0
            have g1 : W5.cell? ⟨w.heap.size + 1 + 1, 1, none⟩ = some (.int .i64 0) := hR5.cell 1
            try rw [Exit.noGoto_ret]
            refine bodyPost_ret (v := .agg #[.int .i64 0, .int .i64 0]) (by simp (maxDischargeDepth := 8) [results, Try.results17, go_sem, g0, g1]) rfl ?_
            exact ⟨⟨_, rfl⟩, .inr ⟨_, by omega, HRA.out.2, hend⟩⟩
    · have hke : k = t.size + 1 := by omega
      subst hke
      have d1 : decide (((off + (t.size + 1) : Nat) : Int) ≤ (s.size : Int)) = false := decide_eq_false (by omega)
      have d2 : ¬ ((off : Int) + ((t.size : Int) + 1) ≤ (s.size : Int)) := by omega
      have d3 : ¬ (((off + (t.size + 1) : Nat) : Int) ≤ (s.size : Int)) := by omega
      rw [xAt_end] at hft hJk
      have HJE := Lib.hid hJk
      clear hJk
      have hne1 : ¬ fb = w.heap.size + 1 + 1 := by have := HNE.out; omega
      have hne2 : ¬ w.heap.size + 1 + 1 = fb := by have := HNE.out; omega
      have fA : wr.cell? ⟨fb, 0, none⟩ = some (.int .i64 0) := hfbr.cell 0
      have fB : wr.cell? ⟨fb, 1, none⟩ = some (.int .i64 0) := hfbr.cell 1
      have rA : wr.cell? ⟨w.heap.size + 1 + 1, 0, none⟩ = some (.int .i64 0) := hrbr.cell 0
      have rB : wr.cell? ⟨w.heap.size + 1 + 1, 1, none⟩ = some (.int .i64 0) := hrbr.cell 1
      have rC := hrbr.frozen
      have HRB := Lib.hid hrbr
      have HKS := Lib.hid hKS
      have HFT := Lib.hid hft
      clear hL HL hKS hfbr hrbr hft hk hkt hs hoff
      go_wp2_with fail
      have hR5 := (HRB.out.set 0 (.int .i64 0)).set 1 (.int .i64 0)
      have hk5 : Keeps wr ((wr.setCell ⟨w.heap.size + 1 + 1, 0, none⟩ (.int .i64 0)).setCell ⟨w.heap.size + 1 + 1, 1, none⟩ (.int .i64 0)) (fun i => i = fb ∨ i = w.heap.size + 1 + 1) := (((Keeps.refl wr _).set _ 0 _ (.inl (.inr rfl))).set _ 1 _ (.inl (.inr rfl)))
      have hend : J (recs (finU p q n l t)).length _ := J_more HJ.out HJE.out hk5 (fun i hi => by have h1 := HBB.out; have h2 := HNE.out; omega) rfl
      clear hk5 fA fB rA rB rC
      generalize ((wr.setCell ⟨w.heap.size + 1 + 1, 0, none⟩ (.int .i64 0)).setCell ⟨w.heap.size + 1 + 1, 1, none⟩ (.int .i64 0)) = W5 at hR5 hend ⊢
      have g0 : W5.cell? ⟨w.heap.size + 1 + 1, 0, none⟩ = some (.int .i64 0) := hR5.cell 0
      have g1 : W5.cell? ⟨w.heap.size + 1 + 1, 1, none⟩ = some (.int .i64 0) := hR5.cell 1
      try rw [Exit.noGoto_ret]
      refine bodyPost_ret (v := .agg #[.int .i64 0, .int .i64 0]) (by simp (maxDischargeDepth := 8) [results, Try.results17, go_sem, g0, g1]) rfl ?_
      exact ⟨⟨_, rfl⟩, .inl hend⟩

end Go.Proofs.Ytdkdbmiafnadmaa
