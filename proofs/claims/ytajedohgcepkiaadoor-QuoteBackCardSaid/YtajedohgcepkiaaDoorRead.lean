/-
  Walks: the document's reader, all of a text.
-/
import Derived.Test.YtajedohgcepkiaaDoorRows
import Derived.Test.YtajedohgcepkiaaDoorLin
import Derived.Lib.Hide
import Derived.StillTailTactics
namespace Go.Proofs.YtajedohgcepkiaaDoor
open Go.RowKit

/-- A slice that reads as a list of places. -/
def Plcs (w : World) (v : Value) (L : List Nat) : Prop :=
  ∃ A c, v = .slice A L.length c ∧ L.length ≤ c ∧ c ≤ maxLen ∧ ∀ (j x : Nat), L[j]? = some x → ∃ a, A = some a ∧ w.cell? (a.add j) = some (.int .i64 x)
theorem Plcs.below {w w' : World} {v : Value} {L : List Nat} (h : Plcs w v L) (hb : Below w.heap.size w w') : Plcs w' v L := by
  obtain ⟨A, c, h1, h2, h3, h4⟩ := h
  refine ⟨A, c, h1, h2, h3, fun j s hs => ?_⟩
  obtain ⟨a, ha, hc⟩ := h4 j s hs
  exact ⟨a, ha, (hb.cell (World.block_lt_of_cell? w _ hc)).trans hc⟩
theorem own_plcs {w : World} {b : Nat} {v : Value} {L : List Nat} (h : w.ownsRow b 3 1 v L.length (intC L)) : Plcs w v L := by
  have h' := h
  rcases owns_cases h with ⟨rfl, hn⟩ | ⟨g, cap, rfl, h4, h5, h6, h7⟩
  · have : L = [] := List.length_eq_zero_iff.1 hn
    subst this
    exact ⟨none, 0, rfl, Nat.le_refl _, Nat.zero_le _, fun j s hs => by simp at hs⟩
  · refine ⟨some ⟨g, 0, none⟩, cap, rfl, h6, h7, fun j s hs => ⟨_, rfl, ?_⟩⟩
    have hj : j < L.length := (List.getElem?_eq_some_iff.1 hs).1
    rw [add_zero_off, h'.cellAt j (by omega)]
    unfold intC
    rw [List.getElem?_map, hs]
    rfl
theorem own_tbl {w : World} {b : Nat} {v : Value} {vs : List Value} {T : List (List ByteArray)} (h : w.ownsRow b 49 1 v T.length vs) (hr : ∀ (k : Nat) (r : Value) (L : List ByteArray), vs[k]? = some r → T[k]? = some L → OwnS w b r L) : Tbl w v T := by
  have h' := h
  have hlen : vs.length = T.length := by have := h.1; simpa using this
  rcases owns_cases h with ⟨rfl, hn⟩ | ⟨g, cap, rfl, h4, h5, h6, h7⟩
  · have : T = [] := List.length_eq_zero_iff.1 hn
    subst this
    exact ⟨none, 0, rfl, Nat.le_refl _, Nat.zero_le _, fun j s hs => by simp at hs⟩
  · refine ⟨some ⟨g, 0, none⟩, cap, rfl, h6, h7, fun j L hL => ?_⟩
    have hj : j < T.length := (List.getElem?_eq_some_iff.1 hL).1
    have hv : vs[j]? = some vs[j] := List.getElem?_eq_getElem (by omega)
    refine ⟨_, vs[j], rfl, ?_, (hr j _ L hv hL).strs⟩
    rw [add_zero_off, h'.cellAt j (by omega), hv]

/-- What the reader comes to. -/
def GotP (p q : Nat) (n : Int) (l : Lim) (s : ByteArray) (w : World) (e : Ending) (w' : World) : Prop :=
  ∃ x vr ve, e = .returned (.agg #[vr, ve, .int .i64 (x.kd : Int), .int .i64 (x.pl : Int)]) ∧ Tbl w' vr x.rs ∧ Plcs w' ve x.en ∧ (Dead p q n l s x ∨ Done p q n l s x) ∧ Below w.heap.size w w'

def rd0 : Rd := ⟨0, 0, [], [], [], 0, 0⟩
theorem rd_new (w : World) (o p q : Nat) (n : Int) (l : Lim) (s : ByteArray) (h : Box w o 74 (rdcells p q n l s rd0 (.slice none 0 0) (.slice none 0 0) (.slice none 0 0))) : RdIn w o p q n l s rd0 :=
  ⟨_, _, _, [], h, World.ownsRow_nil _ _ _ _, World.ownsRow_nil _ _ _ _, World.ownsRow_nil _ _ _ _, (fun k r L h => by cases h), (fun g h => by cases h), (fun g h => by cases h), (fun g h => by cases h), (fun r h => by cases h)⟩
theorem rd_go {w : World} {o p q : Nat} {n : Int} {l : Lim} {s : ByteArray} {x : Rd} (h : RdIn w o p q n l s x) (j : Nat) : RdIn (w.setCell ⟨o, 8, none⟩ (.int .i64 (j : Int))) o p q n l s (goR x j) := by
  obtain ⟨vc, vr, ve, vs, h⟩ := h
  exact ⟨vc, vr, ve, vs, h.scalar 8 _ _ ⟨rfl, rfl, rfl⟩ rfl⟩
theorem rd_cells {w : World} {o p q : Nat} {n : Int} {l : Lim} {s : ByteArray} {x : Rd} (h : RdIn w o p q n l s x) : w.cell? ⟨o, 8, none⟩ = some (.int .i64 (x.i : Int)) ∧ w.cell? ⟨o, 13, none⟩ = some (.int .i64 (x.kd : Int)) ∧ w.frozen? ⟨o, 8, none⟩ = false := by
  obtain ⟨vc, vr, ve, vs, h⟩ := h
  exact ⟨h.cell 8, h.cell 13, h.1.frozen 8⟩
def measR (w : World) (o k : Nat) : Nat := if cellNat w o 13 = 0 then k + 1 - cellNat w o 8 else 0
theorem meas_of {w : World} {o i kd : Nat} (k : Nat) (h8 : w.cell? ⟨o, 8, none⟩ = some (.int .i64 (i : Int))) (h13 : w.cell? ⟨o, 13, none⟩ = some (.int .i64 (kd : Int))) : measR w o k = if kd = 0 then k + 1 - i else 0 := by
  unfold measR cellNat
  rw [h8, h13]
  simp
/-- Between two lines. -/
def Betw (p q : Nat) (n : Int) (l : Lim) (s : ByteArray) (x : Rd) : Prop := Idle p q n l s x ∨ Dead p q n l s x ∨ (Done p q n l s x ∧ x.i = s.size)

theorem read_end {w wr : World} {o b2 p q : Nat} {n : Int} {l : Lim} {s : ByteArray} {x : Rd} {vc vr ve : Value} {vs : List Value} (h : RdB wr o p q n l s x vc vr ve vs)
    (hb2 : Box wr b2 67 #[.slice none 0 0, .slice none 0 0, .int .i64 0, .int .i64 0]) (hb : Below w.heap.size w wr) (hbo : b2 < o) (hwb : w.heap.size ≤ b2) :
    ∃ W', (((wr.setCell ⟨b2, 0, none⟩ vr).setCell ⟨b2, 1, none⟩ ve).setCell ⟨b2, 2, none⟩ (.int .i64 x.kd)).setCell ⟨b2, 3, none⟩ (.int .i64 x.pl) = W' ∧
      Box W' b2 67 #[vr, ve, .int .i64 x.kd, .int .i64 x.pl] ∧ Tbl W' vr x.rs ∧ Plcs W' ve x.en ∧ Below w.heap.size w W' := by
  obtain ⟨_, _, h3, h4, h5, _⟩ := h
  have k : Keeps wr ((((wr.setCell ⟨b2, 0, none⟩ vr).setCell ⟨b2, 1, none⟩ ve).setCell ⟨b2, 2, none⟩ (.int .i64 x.kd)).setCell ⟨b2, 3, none⟩ (.int .i64 x.pl)) (fun k => k = b2) :=
    ((((Keeps.refl wr (fun k => k = b2)).set b2 0 _ (.inl rfl)).set b2 1 _ (.inl rfl)).set b2 2 _ (.inl rfl)).set b2 3 _ (.inl rfl)
  have hbx := (((hb2.set 0 vr).set 1 ve).set 2 (.int .i64 x.kd)).set 3 (.int .i64 x.pl)
  have r3 := owns_keeps h3 k (fun g hg e => by have := (h3.lt g hg).1; omega)
  have r4 := owns_keeps h4 k (fun g hg e => by have := (h4.lt g hg).1; omega)
  refine ⟨_, rfl, hbx, own_tbl r3 (fun i r L hr hL => ?_), own_plcs r4, hb.trans (k.toBelow hb.size (fun j hj e => by omega))⟩
  have h6 := h5 i r L hr hL
  exact owns_keeps h6 k (fun g hg e => by have := (h6.lt g hg).1; omega)

theorem meas_dead {w w' : World} {o p q k i : Nat} {n : Int} {l : Lim} {s : ByteArray} {x : Rd} (h : RdIn w' o p q n l s x) (hk : x.kd ≠ 0) (hm : measR w o k = k + 1 - i) (hi : i < k) : measR w' o k < measR w o k := by
  obtain ⟨h8, h13, _⟩ := rd_cells h
  rw [meas_of k h8 h13, if_neg hk, hm]
  omega
theorem meas_more {w w' : World} {o p q k i : Nat} {n : Int} {l : Lim} {s : ByteArray} {x : Rd} (h : RdIn w' o p q n l s x) (hx : i < x.i) (hm : measR w o k = k + 1 - i) (hi : i < k) : measR w' o k < measR w o k := by
  obtain ⟨h8, h13, _⟩ := rd_cells h
  rw [meas_of k h8 h13, hm]
  split <;> omega

theorem at_worldR {C : Code} {P : Program} {Q : Exit → Act → World → Prop} {a : Act} {W : World} (h : ∀ W0, W = W0 → C.wp P Q a W0) : C.wp P Q a W := h W rfl

set_option maxRecDepth 100000 in
set_option maxHeartbeats 4000000 in
theorem read_any (p q : Nat) (n : Int) (l : Lim) (s : ByteArray) (w : World) (hs : s.size ≤ 1000000) (hok : okB p q n = true) (hfl : 1 ≤ l.fl) (hfs : 1 ≤ l.fs) (hrs : 0 ≤ l.rs) :
    Calls Tryd.prog 31 #[.agg #[.int .i64 p, .int .i64 q, .int .i64 n], .agg #[.int .i64 l.fs, .int .i64 l.fl, .int .i64 l.rs, .int .i64 (n01 l.un)], .string s] w (GotP p q n l s w) := by
  have HF := Lib.hid (Idle.first (p := p) (q := q) (n := n) (l := l) (s := s) hrs)
  have HLN := Lib.hid (fun o x W h h1 h2 h3 h4 => line_any o p q n l s x W h hs hok hfl hfs h1 h2 h3 h4)
  have HFD := Lib.hid (fun o x W h => feed_any o p q n l s x W h hs)
  have HIS := Lib.hid (fun o x b W h => is_any o p q n l s x b W h hs)
  have HSC := Lib.hid (fun o x W h hx => second_any o p q n l s x W h hs hx)
  have HOK := Lib.hid hok
  have HS := Lib.hid hs
  clear hok hfl hfs hrs hs
  unfold GotP
  go_enter Tryd.func31, Tryd.ntmps31
  go_wp2_with fail
  refine at_worldR ?_
  intro W0 hW0
  have hRd : RdIn W0 (w.heap.size + 1 + 1 + 1) p q n l s rd0 := by rw [← hW0]; exact rd_new _ _ _ _ _ _ _ (by have := Box.new (((w.alloc (.cells #[.int .i64 p, .int .i64 q, .int .i64 n] 26)).alloc (.cells #[.int .i64 l.fs, .int .i64 l.fl, .int .i64 l.rs, .int .i64 (n01 l.un)] 44)).alloc (.cells #[.slice none 0 0, .slice none 0 0, .int .i64 0, .int .i64 0] 67)) 74 (rdcells p q n l s rd0 (.slice none 0 0) (.slice none 0 0) (.slice none 0 0)); simp only [World.size_alloc] at this; exact this)
  have hR2 : Box W0 (w.heap.size + 1 + 1) 67 #[.slice none 0 0, .slice none 0 0, .int .i64 0, .int .i64 0] := by
    rw [← hW0]
    have := (Box.new ((w.alloc (.cells #[.int .i64 p, .int .i64 q, .int .i64 n] 26)).alloc (.cells #[.int .i64 l.fs, .int .i64 l.fl, .int .i64 l.rs, .int .i64 (n01 l.un)] 44)) 67 #[.slice none 0 0, .slice none 0 0, .int .i64 0, .int .i64 0]).alloc (.cells (rdcells p q n l s rd0 (.slice none 0 0) (.slice none 0 0) (.slice none 0 0)) 74)
    simp only [World.size_alloc] at this
    exact this
  have hB0 : Below w.heap.size w W0 := by
    rw [← hW0]
    exact ((((Below.refl _ _).alloc (Nat.le_refl _) _).alloc (by simp) _).alloc (by simp; omega) _).alloc (by simp; omega) _
  clear hW0
  obtain ⟨o, ho⟩ : ∃ o, w.heap.size + 1 + 1 + 1 = o := ⟨_, rfl⟩
  obtain ⟨b2, hb2⟩ : ∃ b, w.heap.size + 1 + 1 = b := ⟨_, rfl⟩
  rw [ho] at hRd ⊢
  rw [hb2] at hR2 ⊢
  have hbo : b2 < o := by omega
  have hwb : w.heap.size ≤ b2 := by omega
  have HR0 := Lib.hid hRd
  have HR2 := Lib.hid hR2
  have HB0 := Lib.hid hB0
  clear hRd hR2 hB0
  go_loopw [8] (fun _ (wr : World) => ∃ x, RdIn wr o p q n l s x ∧ Betw p q n l s x ∧ Box wr b2 67 #[.slice none 0 0, .slice none 0 0, .int .i64 0, .int .i64 0] ∧ Below w.heap.size w wr) (fun _ wr => measR wr o s.size)
  case atStart => exact ⟨rd0, HR0.out, .inl HF.out, HR2.out, HB0.out⟩
  case round =>
    obtain ⟨x, hr, hbt, hbx, hb⟩ := hrel
    obtain ⟨q8, q13, f8⟩ := rd_cells hr
    have HR := Lib.hid hr
    have HBX := Lib.hid hbx
    have HB := Lib.hid hb
    have HBT := Lib.hid hbt
    clear hr hbx hb hbt HR0 HR2 HB0
    by_cases hk : x.kd = 0
    · have k1 : ((x.kd : Int) == 0) = true := by simp; omega
      have k2 : decide ((x.kd : Int) = 0) = true := decide_eq_true (by omega)
      by_cases hi : x.i < s.size
      · have i1 : (x.i : Int) < (s.size : Int) := by omega
        have hI : Idle p q n l s x := by
          rcases HBT.out with h | h | ⟨h, h'⟩
          · exact h
          · exact absurd hk h.kd
          · omega
        have hst := hI.lf
        have HII := Lib.hid hI
        have HXW : Hid (∀ a, wrongV x 6 a = ⟨x.i, x.bg, x.rc, x.rs, x.en, 6, a⟩) := Lib.hid (fun a => by unfold wrongV; rw [if_pos hk])
        have HM : Hid (measR wr o s.size = s.size + 1 - x.i) := Lib.hid (by rw [meas_of s.size q8 q13, if_pos hk])
        have HI9 := Lib.hid hi
        have HW0 : Hid (wrap64 (x.i : Int) = ((x.i : Nat) : Int)) := Lib.hid (by have := HS.out; unfold wrap64; omega)
        have HW1 : Hid (wrap64 ((x.i : Int) + 1) = ((x.i + 1 : Nat) : Int)) := Lib.hid (by have := HS.out; unfold wrap64; omega)
        have HW2 : Hid (wrap64 ((x.i : Int) + 2) = ((x.i + 2 : Nat) : Int)) := Lib.hid (by have := HS.out; unfold wrap64; omega)
        have hlo : o < wr.heap.size := by obtain ⟨_, _, _, _, h⟩ := HR.out; exact h.lt
        clear hst hI
        cases h10 : isB s x.i 10 with
        | true =>
          have hb10 := (isB_is s x.i 10).1 h10
          have HI1 : Hid (Calls Tryd.prog 42 #[.pointer (some ⟨o, 0, none⟩), .int .i64 10] wr (Gives (.bool true) wr)) := Lib.hid (by have := HIS.out o x 10 wr HR.out; rw [h10] at this; exact this)
          by_cases hn : n = 2
          · have HF1 : Hid (∀ y : Later wr, Calls Tryd.prog 43 #[.pointer (some ⟨o, 0, none⟩)] y.w (fun e w' => e = .returned (.int .i64 0) ∧ RdIn w' o p q n l s ⟨x.i, x.bg, x.rc, x.rs, x.en, 6, x.i⟩ ∧ Below o y.w w')) := Lib.hid (fun y => by
              have := HFD.out o x y.w (HR.out.below y.below)
              unfold feedV at this
              rw [if_pos h10, if_pos hn, HXW.out] at this
              exact this)
            have HDD : Hid (Dead p q n l s ⟨x.i, x.bg, x.rc, x.rs, x.en, 6, x.i⟩) := Lib.hid (by have := (HII.out.lf HOK.out hb10.1 hb10.2).1 hn; rwa [HXW.out] at this)
            clear h10 hb10 hk hi hn
            go_wp2_with (first
              | (go_at_call 42; refine (call_later HI1.out).mono ?_; rintro e w' ⟨rfl, y, rfl⟩)
              | (go_at_call 43; refine (HF1.out y).mono ?_; rintro e w4 ⟨rfl, hr4, hb4⟩; obtain ⟨z8, z13, zf⟩ := rd_cells hr4; have HR4 := Lib.hid hr4; have HB4 := Lib.hid ((y.below.mono (Nat.le_of_lt hlo)).trans hb4); have Z13 := Lib.hid z13; clear hr4 hb4 z13))
            go_roundw
            case rel => (rw [HW0.out]; exact ⟨_, rd_go HR4.out x.i, .inr (.inl (dead_go HDD.out)), (HBX.out.below HB4.out hbo).kept (Below.heap_setCell _ _ _ _ (by show b2 ≠ o; omega)), (HB.out.trans (HB4.out.mono (by omega))).setCell (p := ⟨o, 8, none⟩) (by show w.heap.size ≤ o; omega) _⟩)
            case measure => (rw [HW0.out]; exact meas_dead (rd_go HR4.out x.i) (by show (6 : Nat) ≠ 0; omega) HM.out HI9.out)
          · have HF1 : Hid (∀ y : Later wr, Calls Tryd.prog 43 #[.pointer (some ⟨o, 0, none⟩)] y.w (fun e w' => e = .returned (.int .i64 1) ∧ RdIn w' o p q n l s x ∧ Below o y.w w')) := Lib.hid (fun y => by
              have := HFD.out o x y.w (HR.out.below y.below)
              unfold feedV at this
              rw [if_pos h10, if_neg hn] at this
              exact this)
            have HDD : Hid (Idle p q n l s (goR x (x.i + 1))) := Lib.hid ((HII.out.lf HOK.out hb10.1 hb10.2).2 hn)
            clear h10 hb10 hi hn
            have HK0 := Lib.hid hk
            clear hk
            go_wp2_with (first
              | (go_at_call 42; refine (call_later HI1.out).mono ?_; rintro e w' ⟨rfl, y, rfl⟩)
              | (go_at_call 43; refine (HF1.out y).mono ?_; rintro e w4 ⟨rfl, hr4, hb4⟩; obtain ⟨z8, z13, zf⟩ := rd_cells hr4; have HR4 := Lib.hid hr4; have HB4 := Lib.hid ((y.below.mono (Nat.le_of_lt hlo)).trans hb4); have Z13 := Lib.hid z13; clear hr4 hb4 z13))
            go_roundw
            case rel => (rw [HW1.out]; exact ⟨_, rd_go HR4.out (x.i + 1), .inl HDD.out, (HBX.out.below HB4.out hbo).kept (Below.heap_setCell _ _ _ _ (by show b2 ≠ o; omega)), (HB.out.trans (HB4.out.mono (by omega))).setCell (p := ⟨o, 8, none⟩) (by show w.heap.size ≤ o; omega) _⟩)
            case measure => (rw [HW1.out]; exact meas_more (rd_go HR4.out (x.i + 1)) (by show x.i < x.i + 1; omega) HM.out HI9.out)
        | false =>
          cases h13 : isB s x.i 13 with
          | true =>
            have hb13 := (isB_is s x.i 13).1 h13
            have HI1 : Hid (Calls Tryd.prog 42 #[.pointer (some ⟨o, 0, none⟩), .int .i64 10] wr (Gives (.bool false) wr)) := Lib.hid (by have := HIS.out o x 10 wr HR.out; rw [h10] at this; exact this)
            have HI2 : Hid (∀ y : Later wr, Calls Tryd.prog 42 #[.pointer (some ⟨o, 0, none⟩), .int .i64 13] y.w (Gives (.bool true) y.w)) := Lib.hid (fun y => by have := HIS.out o x 13 y.w (HR.out.below y.below); rw [h13] at this; exact this)
            by_cases hn : n = 1
            · have HF1 : Hid (∀ y : Later wr, Calls Tryd.prog 43 #[.pointer (some ⟨o, 0, none⟩)] y.w (fun e w' => e = .returned (.int .i64 0) ∧ RdIn w' o p q n l s ⟨x.i, x.bg, x.rc, x.rs, x.en, 6, x.i⟩ ∧ Below o y.w w')) := Lib.hid (fun y => by
                have := HFD.out o x y.w (HR.out.below y.below)
                unfold feedV at this
                rw [if_neg (by rw [h10]; decide), if_pos hn, HXW.out] at this
                exact this)
              have HDD : Hid (Dead p q n l s ⟨x.i, x.bg, x.rc, x.rs, x.en, 6, x.i⟩) := Lib.hid (by have := (HII.out.cr HOK.out hb13.1 hb13.2).1 hn; rwa [HXW.out] at this)
              clear h10 h13 hb13 hk hi hn
              go_wp2_with (first
                | (go_at_call 42; refine (call_later HI1.out).mono ?_; clear HI1; rintro e w' ⟨rfl, y1, rfl⟩)
                | (go_at_call 42; refine (later_call y1 (HI2.out y1)).mono ?_; rintro e w' ⟨rfl, y, rfl⟩)
                | (go_at_call 43; refine (HF1.out y).mono ?_; rintro e w4 ⟨rfl, hr4, hb4⟩; obtain ⟨z8, z13, zf⟩ := rd_cells hr4; have HR4 := Lib.hid hr4; have HB4 := Lib.hid ((y.below.mono (Nat.le_of_lt hlo)).trans hb4); have Z13 := Lib.hid z13; clear hr4 hb4 z13))
              go_roundw
              case rel => (rw [HW0.out]; exact ⟨_, rd_go HR4.out x.i, .inr (.inl (dead_go HDD.out)), (HBX.out.below HB4.out hbo).kept (Below.heap_setCell _ _ _ _ (by show b2 ≠ o; omega)), (HB.out.trans (HB4.out.mono (by omega))).setCell (p := ⟨o, 8, none⟩) (by show w.heap.size ≤ o; omega) _⟩)
              case measure => (rw [HW0.out]; exact meas_dead (rd_go HR4.out x.i) (by show (6 : Nat) ≠ 0; omega) HM.out HI9.out)
            · have HF1 : Hid (∀ y : Later wr, Calls Tryd.prog 43 #[.pointer (some ⟨o, 0, none⟩)] y.w (fun e w' => e = .returned (.int .i64 2) ∧ RdIn w' o p q n l s x ∧ Below o y.w w')) := Lib.hid (fun y => by
                have := HFD.out o x y.w (HR.out.below y.below)
                unfold feedV at this
                rw [if_neg (by rw [h10]; decide), if_neg hn] at this
                exact this)
              have hcr := (HII.out.cr HOK.out hb13.1 hb13.2).2 hn
              cases h2 : isB s (x.i + 1) 10 with
              | true =>
                have HDD : Hid (Idle p q n l s (goR x (x.i + 2))) := Lib.hid (hcr.1 h2)
                have HS1 : Hid (∀ W, RdIn W o p q n l s x → Calls Tryd.prog 44 #[.pointer (some ⟨o, 0, none⟩)] W (fun e w' => e = .returned (.bool true) ∧ RdIn w' o p q n l s x ∧ Below o W w')) := Lib.hid (fun W hW => by
                  have := HSC.out o x W hW (by omega)
                  unfold secondV at this
                  rw [if_pos h2] at this
                  exact this)
                clear h10 h13 hb13 hk hi hn h2 hcr
                go_wp2_with (first
                  | (go_at_call 42; refine (call_later HI1.out).mono ?_; clear HI1; rintro e w' ⟨rfl, y1, rfl⟩)
                  | (go_at_call 42; refine (later_call y1 (HI2.out y1)).mono ?_; rintro e w' ⟨rfl, y, rfl⟩)
                  | (go_at_call 43; refine (HF1.out y).mono ?_; rintro e w3 ⟨rfl, hr3, hb3⟩; have HR3 := Lib.hid hr3; have HB3 := Lib.hid ((y.below.mono (Nat.le_of_lt hlo)).trans hb3); clear hr3 hb3)
                  | (go_at_call 44; refine (HS1.out w3 HR3.out).mono ?_; rintro e w4 ⟨rfl, hr4, hb4⟩; obtain ⟨z8, z13, zf⟩ := rd_cells hr4; have HR4 := Lib.hid hr4; have HB4 := Lib.hid (HB3.out.trans hb4); clear hr4 hb4 z13))
                go_roundw
                case rel => (rw [HW2.out]; exact ⟨_, rd_go HR4.out (x.i + 2), .inl HDD.out, (HBX.out.below HB4.out hbo).kept (Below.heap_setCell _ _ _ _ (by show b2 ≠ o; omega)), (HB.out.trans (HB4.out.mono (by omega))).setCell (p := ⟨o, 8, none⟩) (by show w.heap.size ≤ o; omega) _⟩)
                case measure => (rw [HW2.out]; exact meas_more (rd_go HR4.out (x.i + 2)) (by show x.i < x.i + 2; omega) HM.out HI9.out)
              | false =>
                have HDD : Hid (Dead p q n l s ⟨x.i, x.bg, x.rc, x.rs, x.en, 6, x.i + 1⟩) := Lib.hid (by have := hcr.2 h2; rwa [HXW.out] at this)
                have HS1 : Hid (∀ W, RdIn W o p q n l s x → Calls Tryd.prog 44 #[.pointer (some ⟨o, 0, none⟩)] W (fun e w' => e = .returned (.bool false) ∧ RdIn w' o p q n l s ⟨x.i, x.bg, x.rc, x.rs, x.en, 6, x.i + 1⟩ ∧ Below o W w')) := Lib.hid (fun W hW => by
                  have := HSC.out o x W hW (by omega)
                  unfold secondV at this
                  rw [if_neg (by rw [h2]; decide), HXW.out] at this
                  exact this)
                clear h10 h13 hb13 hk hi hn h2 hcr
                go_wp2_with (first
                  | (go_at_call 42; refine (call_later HI1.out).mono ?_; clear HI1; rintro e w' ⟨rfl, y1, rfl⟩)
                  | (go_at_call 42; refine (later_call y1 (HI2.out y1)).mono ?_; rintro e w' ⟨rfl, y, rfl⟩)
                  | (go_at_call 43; refine (HF1.out y).mono ?_; rintro e w3 ⟨rfl, hr3, hb3⟩; have HR3 := Lib.hid hr3; have HB3 := Lib.hid ((y.below.mono (Nat.le_of_lt hlo)).trans hb3); clear hr3 hb3)
                  | (go_at_call 44; refine (HS1.out w3 HR3.out).mono ?_; rintro e w4 ⟨rfl, hr4, hb4⟩; obtain ⟨z8, z13, zf⟩ := rd_cells hr4; have HR4 := Lib.hid hr4; have HB4 := Lib.hid (HB3.out.trans hb4); clear hr4 hb4 z13))
                go_roundw
                case rel => (rw [HW2.out]; exact ⟨_, rd_go HR4.out (x.i + 2), .inr (.inl (dead_go HDD.out)), (HBX.out.below HB4.out hbo).kept (Below.heap_setCell _ _ _ _ (by show b2 ≠ o; omega)), (HB.out.trans (HB4.out.mono (by omega))).setCell (p := ⟨o, 8, none⟩) (by show w.heap.size ≤ o; omega) _⟩)
                case measure => (rw [HW2.out]; exact meas_dead (rd_go HR4.out (x.i + 2)) (by show (6 : Nat) ≠ 0; omega) HM.out HI9.out)
          | false =>
            have HI1 : Hid (Calls Tryd.prog 42 #[.pointer (some ⟨o, 0, none⟩), .int .i64 10] wr (Gives (.bool false) wr)) := Lib.hid (by have := HIS.out o x 10 wr HR.out; rw [h10] at this; exact this)
            have HI2 : Hid (∀ y : Later wr, Calls Tryd.prog 42 #[.pointer (some ⟨o, 0, none⟩), .int .i64 13] y.w (Gives (.bool false) y.w)) := Lib.hid (fun y => by have := HIS.out o x 13 y.w (HR.out.below y.below); rw [h13] at this; exact this)
            have HL1 := Lib.hid (fun W (h : RdIn W o p q n l s x) => HLN.out o x W h HII.out hi (fun hc => by have := (isB_is s x.i 10).2 ⟨hi, hc⟩; rw [h10] at this; cases this) (fun hc => by have := (isB_is s x.i 13).2 ⟨hi, hc⟩; rw [h13] at this; cases this))
            clear h10 h13 hk hi
            go_wp2_with (first
              | (go_at_call 42; refine (call_later HI1.out).mono ?_; clear HI1; rintro e w' ⟨rfl, y1, rfl⟩)
              | (go_at_call 42; refine (later_call y1 (HI2.out y1)).mono ?_; rintro e w' ⟨rfl, y, rfl⟩)
              | (go_at_call 45; refine (HL1.out y.w (HR.out.below y.below)).mono ?_; rintro e w4 ⟨x4, b4, rfl, hr4, hb4, hd4⟩; have HR4 := Lib.hid hr4; have HB4 := Lib.hid ((y.below.mono (Nat.le_of_lt hlo)).trans hb4); have HD4 := Lib.hid hd4; clear hr4 hb4 hd4))
            go_roundw
            case rel => exact ⟨x4, HR4.out, HD4.out.elim (fun h => .inl h.1) .inr, HBX.out.below HB4.out hbo, HB.out.trans (HB4.out.mono (by omega))⟩
            case measure =>
              rcases HD4.out with ⟨h, h'⟩ | h | ⟨h, h'⟩
              · exact meas_more HR4.out h' HM.out HI9.out
              · exact meas_dead HR4.out h.kd HM.out HI9.out
              · exact meas_more HR4.out (by have := HI9.out; omega) HM.out HI9.out
      · have i1 : ¬ (x.i : Int) < (s.size : Int) := by omega
        have hD : Done p q n l s x := by
          rcases HBT.out with h | h | ⟨h, h'⟩
          · exact h.done (by have := h.i; omega)
          · exact absurd hk h.kd
          · exact h
        have HD := Lib.hid hD
        clear hD hk
        obtain ⟨vc, vr, ve, vs, hrb⟩ := HR.out
        obtain ⟨Ar, cr, rfl, _, _⟩ := owns_len hrb.2.2.1
        obtain ⟨Ae, ce, rfl, _, _⟩ := owns_len hrb.2.2.2.1
        have r11 : wr.cell? ⟨o, 11, none⟩ = some (.slice Ar x.rs.length cr) := hrb.cell 11
        have r12 : wr.cell? ⟨o, 12, none⟩ = some (.slice Ae x.en.length ce) := hrb.cell 12
        have r14 : wr.cell? ⟨o, 14, none⟩ = some (.int .i64 x.pl) := hrb.cell 14
        have g0 : wr.cell? ⟨b2, 0, none⟩ = some (.slice none 0 0) := HBX.out.cell 0
        have g1 : wr.cell? ⟨b2, 1, none⟩ = some (.slice none 0 0) := HBX.out.cell 1
        have g2 : wr.cell? ⟨b2, 2, none⟩ = some (.int .i64 0) := HBX.out.cell 2
        have g3 : wr.cell? ⟨b2, 3, none⟩ = some (.int .i64 0) := HBX.out.cell 3
        have gf := HBX.out.frozen
        have HRB := Lib.hid hrb
        clear hrb
        go_wp2_with fail
        obtain ⟨W', hW', X1, X2, X3, X4⟩ := read_end HRB.out HBX.out HB.out hbo hwb
        rw [hW']
        have y0 := X1.cell 0
        have y1 := X1.cell 1
        have y2 := X1.cell 2
        have y3 := X1.cell 3
        refine bodyPost_ret (v := .agg #[.slice Ar x.rs.length cr, .slice Ae x.en.length ce, .int .i64 (x.kd : Int), .int .i64 (x.pl : Int)]) (by simp (maxDischargeDepth := 8) [results, Tryd.results31, go_sem, y0, y1, y2, y3]) rfl ?_
        exact ⟨x, _, _, rfl, X2, X3, .inr HD.out, X4⟩
    · have k1 : ((x.kd : Int) == 0) = false := by simp; omega
      have k2 : decide ((x.kd : Int) = 0) = false := decide_eq_false (by omega)
      have HD : Hid (Dead p q n l s x) := Lib.hid (by
        rcases HBT.out with h | h | ⟨h, h'⟩
        · exact absurd h.kd hk
        · exact h
        · exact absurd h.kd hk)
      clear hk
      by_cases hi : x.i < s.size
      · have i1 : (x.i : Int) < (s.size : Int) := by omega
        obtain ⟨vc, vr, ve, vs, hrb⟩ := HR.out
        obtain ⟨Ar, cr, rfl, _, _⟩ := owns_len hrb.2.2.1
        obtain ⟨Ae, ce, rfl, _, _⟩ := owns_len hrb.2.2.2.1
        have r11 : wr.cell? ⟨o, 11, none⟩ = some (.slice Ar x.rs.length cr) := hrb.cell 11
        have r12 : wr.cell? ⟨o, 12, none⟩ = some (.slice Ae x.en.length ce) := hrb.cell 12
        have r14 : wr.cell? ⟨o, 14, none⟩ = some (.int .i64 x.pl) := hrb.cell 14
        have g0 : wr.cell? ⟨b2, 0, none⟩ = some (.slice none 0 0) := HBX.out.cell 0
        have g1 : wr.cell? ⟨b2, 1, none⟩ = some (.slice none 0 0) := HBX.out.cell 1
        have g2 : wr.cell? ⟨b2, 2, none⟩ = some (.int .i64 0) := HBX.out.cell 2
        have g3 : wr.cell? ⟨b2, 3, none⟩ = some (.int .i64 0) := HBX.out.cell 3
        have gf := HBX.out.frozen
        have HRB := Lib.hid hrb
        clear hrb
        go_wp2_with fail
        obtain ⟨W', hW', X1, X2, X3, X4⟩ := read_end HRB.out HBX.out HB.out hbo hwb
        rw [hW']
        have y0 := X1.cell 0
        have y1 := X1.cell 1
        have y2 := X1.cell 2
        have y3 := X1.cell 3
        refine bodyPost_ret (v := .agg #[.slice Ar x.rs.length cr, .slice Ae x.en.length ce, .int .i64 (x.kd : Int), .int .i64 (x.pl : Int)]) (by simp (maxDischargeDepth := 8) [results, Tryd.results31, go_sem, y0, y1, y2, y3]) rfl ?_
        exact ⟨x, _, _, rfl, X2, X3, .inl HD.out, X4⟩
      · have i1 : ¬ (x.i : Int) < (s.size : Int) := by omega
        obtain ⟨vc, vr, ve, vs, hrb⟩ := HR.out
        obtain ⟨Ar, cr, rfl, _, _⟩ := owns_len hrb.2.2.1
        obtain ⟨Ae, ce, rfl, _, _⟩ := owns_len hrb.2.2.2.1
        have r11 : wr.cell? ⟨o, 11, none⟩ = some (.slice Ar x.rs.length cr) := hrb.cell 11
        have r12 : wr.cell? ⟨o, 12, none⟩ = some (.slice Ae x.en.length ce) := hrb.cell 12
        have r14 : wr.cell? ⟨o, 14, none⟩ = some (.int .i64 x.pl) := hrb.cell 14
        have g0 : wr.cell? ⟨b2, 0, none⟩ = some (.slice none 0 0) := HBX.out.cell 0
        have g1 : wr.cell? ⟨b2, 1, none⟩ = some (.slice none 0 0) := HBX.out.cell 1
        have g2 : wr.cell? ⟨b2, 2, none⟩ = some (.int .i64 0) := HBX.out.cell 2
        have g3 : wr.cell? ⟨b2, 3, none⟩ = some (.int .i64 0) := HBX.out.cell 3
        have gf := HBX.out.frozen
        have HRB := Lib.hid hrb
        clear hrb
        go_wp2_with fail
        obtain ⟨W', hW', X1, X2, X3, X4⟩ := read_end HRB.out HBX.out HB.out hbo hwb
        rw [hW']
        have y0 := X1.cell 0
        have y1 := X1.cell 1
        have y2 := X1.cell 2
        have y3 := X1.cell 3
        refine bodyPost_ret (v := .agg #[.slice Ar x.rs.length cr, .slice Ae x.en.length ce, .int .i64 (x.kd : Int), .int .i64 (x.pl : Int)]) (by simp (maxDischargeDepth := 8) [results, Tryd.results31, go_sem, y0, y1, y2, y3]) rfl ?_
        exact ⟨x, _, _, rfl, X2, X3, .inl HD.out, X4⟩

end Go.Proofs.YtajedohgcepkiaaDoor
