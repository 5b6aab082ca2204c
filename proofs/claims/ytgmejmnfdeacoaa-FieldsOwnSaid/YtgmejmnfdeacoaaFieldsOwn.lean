/-
  The law FieldsOwn returns true for every list of events. Conditions: none.
-/
import Derived.Test.YtgmejmnfdeacoaaRows
import Derived.Test.YtgmejmnfdeacoaaOpenE
import Derived.Test.YtgmejmnfdeacoaaFldL
import Derived.Test.YtgmejmnfdeacoaaFldR
import Derived.Test.YtgmejmnfdeacoaaRefE
import Derived.Test.YtgmejmnfdeacoaaSame
namespace Go.Proofs.Ytgmejmnfdeacoaa
open Go.ChangeShapes Go.WideShapes Go.ChangeAt Go.RowKit Go.Joins

theorem own_many (A : Option Addr) (n c : Nat) (w : World) (h : 150 < n) (hm : n ≤ 9223372036854775807) : Calls Try.prog 5 #[.slice A n c] w (Gives (.bool true) w) := by
  apply Gives.of
  have hd : decide ((150 : Int) < (n : Int)) = true := decide_eq_true (by omega)
  have HN := Lib.hid (fun W => new_ok wideL W (by decide))
  have HA := Lib.hid awake_any
  go_enter Try.func5, Try.ntmps5
  go_wp2_with (first | (go_at_call 6; refine (HN.out _).mono ?_; rintro e w1 ⟨q, hq, rfl, _, hb0⟩; have HB0 := Lib.hid (((Below.refl _ _).alloc (Nat.le_refl _) _).trans (hb0.mono (by simp))); clear hb0) | (go_at_call 7; (first | (with_reducible refine (later_call _ (HA.out _)).mono ?_) | (with_reducible refine (call_later (HA.out _)).mono ?_)); rintro e w' ⟨rfl, x, rfl⟩))
  go_ret
  exact ⟨rfl, later_below' _ HB0.out⟩

/-- What stands while events come: both makers, apart. -/
def OI (w : World) (q p : Nat) (mm : Mkr) (wr : World) : Prop :=
  Below w.heap.size w wr ∧ ∃ A c v v', MBox wr q A c v wideL mm ∧ RBox wr p v' mm ∧ ∀ i, feet q A v i → ¬ feet p none v' i
/-- .. and a record that was handed out, apart from both. -/
def OIr (w : World) (q p : Nat) (mm : Mkr) (r : Value) (n : Nat) (wr : World) : Prop :=
  Below w.heap.size w wr ∧ ∃ A c v v' L, MBox wr q A c v wideL mm ∧ RBox wr p v' mm ∧ (∀ i, feet q A v i → ¬ feet p none v' i) ∧ L.length = n ∧ OwnS wr w.heap.size r L ∧ ∀ g, r.ownBlock = some g → ¬ feet q A v g ∧ ¬ feet p none v' g
theorem OIr.oi {w wr : World} {q p n : Nat} {mm : Mkr} {r : Value} (h : OIr w q p mm r n wr) : OI w q p mm wr := by
  obtain ⟨hb, A, c, v, v', L, hM, hR, hD, _⟩ := h
  exact ⟨hb, A, c, v, v', hM, hR, hD⟩
theorem OI.below {w wr wx : World} {q p : Nat} {mm : Mkr} (h : OI w q p mm wr) (hb : Below wr.heap.size wr wx) : OI w q p mm wx := by
  obtain ⟨hb0, A, c, v, v', hM, hR, hD⟩ := h
  exact ⟨hb0.trans (hb.mono hb0.size), A, c, v, v', hM.below hb, hR.below hb, hD⟩
theorem OIr.below {w wr wx : World} {q p n : Nat} {mm : Mkr} {r : Value} (h : OIr w q p mm r n wr) (hb : Below wr.heap.size wr wx) : OIr w q p mm r n wx := by
  obtain ⟨hb0, A, c, v, v', L, hM, hR, hD, hL, hr, hg⟩ := h
  exact ⟨hb0.trans (hb.mono hb0.size), A, c, v, v', L, hM.below hb, hR.below hb, hD, hL, owns_keeps hr (keeps_below hb (fun _ => False)) (fun _ _ => id), hg⟩
/-- A new slice is apart from both. -/
theorem OI.fresh {w wr wx : World} {q p : Nat} {mm : Mkr} {r : Value} {L : List ByteArray} (h : OI w q p mm wr) (hb : Below wr.heap.size wr wx) (hr : OwnS wx wr.heap.size r L) : OIr w q p mm r L.length wx := by
  obtain ⟨hb0, A, c, v, v', hM, hR, hD⟩ := h
  refine ⟨hb0.trans (hb.mono hb0.size), A, c, v, v', L, hM.below hb, hR.below hb, hD, rfl, owns_less hr hb0.size, fun g hg => ?_⟩
  have := (hr.lt g hg).1
  exact ⟨fun hf => by have := (hM.feet_lt g hf).2; omega, fun hf => by have := (hR.feet_lt g hf).2; omega⟩
theorem strC_set (L : List ByteArray) (j : Nat) (s : ByteArray) : (strC L).set j (.string s) = strC (L.set j s) := by unfold strC; rw [List.map_set]
/-- Writing into the record that was handed out. -/
theorem OIr.store {w wr : World} {q p n g cap j : Nat} {mm : Mkr} (h : OIr w q p mm (.slice (some ⟨g, 0, none⟩) n cap) n wr) (s : ByteArray) : OIr w q p mm (.slice (some ⟨g, 0, none⟩) n cap) n (wr.setCell ⟨g, j, none⟩ (.string s)) := by
  obtain ⟨hb0, A, c, v, v', L, hM, hR, hD, hL, hr, hg⟩ := h
  obtain ⟨h1, h2⟩ := hg g rfl
  have hk : Keeps wr (wr.setCell ⟨g, j, none⟩ (.string s)) (fun i => i = g) := (Keeps.refl _ _).set g j _ (.inl rfl)
  subst hL
  refine ⟨hb0.setCell (hr.lt g rfl).1 _, A, c, v, v', L.set j s, hM.keeps hk (fun i hi hc => h1 (hc ▸ hi)), hR.keeps hk (fun i hi hc => h2 (hc ▸ hi)), hD, by simp, ?_, hg⟩
  have := (World.ownsRow.stored hr j (.string s)).1
  rw [strC_set] at this
  show World.ownsRow _ _ _ _ _ (L.set j s).length _
  rw [List.length_set]
  exact this
theorem OIr.at {w wr : World} {q p n : Nat} {mm : Mkr} {r : Value} (h : OIr w q p mm r n wr) : ∃ A cap, r = .slice A n cap ∧ n ≤ cap ∧ cap ≤ 9223372036854775807 := by
  obtain ⟨hb0, A, c, v, v', L, hM, hR, hD, rfl, hr, hg⟩ := h
  exact owns_len hr
theorem OIr.addr {w wr : World} {q p n cap : Nat} {mm : Mkr} {A : Option Addr} (h : OIr w q p mm (.slice A n cap) n wr) (hn : 0 < n) : ∃ g, A = some ⟨g, 0, none⟩ ∧ g < wr.heap.size ∧ ∀ j, j < n → (wr.cell? ⟨g, j, none⟩).isSome = true ∧ wr.frozen? ⟨g, j, none⟩ = false := by
  obtain ⟨hb0, A', c, v, v', L, hM, hR, hD, rfl, hr, hg⟩ := h
  rcases owns_cases hr with ⟨_, h0⟩ | ⟨g, cap', he, h4, h5, h6, h7⟩
  · omega
  · injection he with he1 he2 he3
    subst he1
    refine ⟨g, rfl, h5, fun j hj => ⟨?_, hr.frozenAt j⟩⟩
    rw [hr.cellAt j (by omega), strC_get, List.getElem?_eq_getElem hj]
    rfl

/-- An event, taken by both. -/
theorem own_step {w wr w1 w2 w3 w4 : World} {q p : Nat} {mm : Mkr} {e : Ev} {en1 en2 : Ending} {A : Option Addr} {c : Nat} {v v' : Value} (hq : w.heap.size ≤ q) (hp : w.heap.size ≤ p)
    (hb0 : Below w.heap.size w wr) (hM : MBox wr q A c v wideL mm) (hR : RBox wr p v' mm) (hD : ∀ i, feet q A v i → ¬ feet p none v' i) (h1 : Below wr.heap.size wr w1)
    (ht : TakePost w1 q A v wideL mm e en1 w2) (h2 : Below w2.heap.size w2 w3) (hr : RBox w2 p v' mm → RTakePost w3 p v' mm e en2 w4) :
    ∃ r want, en1 = .returned (.tuple #[r, .bool (takeV wideL mm e).2.isSome, .int .i64 (takeV wideL mm e).1.st]) ∧ en2 = .returned (.tuple #[want, .int .i64 (n01 (takeV wideL mm e).2.isSome)]) ∧
      OIr w q p (takeV wideL mm e).1 r ((takeV wideL mm e).2.getD []).length w4 ∧ Strs w4 r ((takeV wideL mm e).2.getD []) ∧ Strs w4 want ((takeV wideL mm e).2.getD []) := by
  obtain ⟨A2, c2, v2, r, hM2, hG2, he1, ho, hod, _⟩ := ht
  have hM1 := hM.below h1
  have hR1 := hR.below h1
  have hR2 : RBox w2 p v' mm := hR1.keeps hG2.1 (fun i hi hf => hD i hf hi)
  obtain ⟨v3, want, hR4, hG4, he2, hw, hwd⟩ := hr hR2
  have hs1 := h1.size
  have hs2 := hG2.1.size
  have hs3 := h2.size
  have hD2 : ∀ i, feet q A2 v2 i → ¬ feet p none v' i := fun i hi hf => by
    rcases hG2.2 i hi with h | h
    · exact hD i h hf
    · have := (hR.feet_lt i hf).2; omega
  have hM4 : MBox w4 q A2 c2 v2 wideL (takeV wideL mm e).1 := (hM2.below h2).keeps hG4.1 hD2
  have hD4 : ∀ i, feet q A2 v2 i → ¬ feet p none v3 i := fun i hi hf => by
    rcases hG4.2 i hf with h | h
    · exact hD2 i hi h
    · have := (hM2.feet_lt i hi).2; omega
  have hrp : ∀ g, r.ownBlock = some g → ¬ feet p none v' g := fun g hg hf => by
    rcases (hod g hg).1 with h | h
    · exact hD g h hf
    · have := (hR.feet_lt g hf).2; omega
  have ho4 : OwnS w4 (q + 1) r ((takeV wideL mm e).2.getD []) := owns_keeps (owns_keeps ho (keeps_below h2 (fun _ => False)) (fun _ _ => id)) hG4.1 hrp
  refine ⟨r, want, he1, he2, ⟨?_, A2, c2, v2, v3, _, hM4, hR4, hD4, rfl, owns_less ho4 (by omega), fun g hg => ⟨(hod g hg).2, fun hf => ?_⟩⟩, ho4.strs, hw.strs⟩
  · have hb1 : Below w.heap.size w w1 := hb0.trans (h1.mono hb0.size)
    have hb2 : Below w.heap.size w w2 := hb1.trans (hG2.low hM1 hq)
    have hb3 : Below w.heap.size w w3 := hb2.trans (h2.mono hb2.size)
    refine hb3.trans (hG4.1.toBelow hb3.size (fun k hk hf => ?_))
    have := (hR.feet_lt k hf).1
    omega
  · rcases hG4.2 g hf with h | h
    · exact hrp g hg h
    · have := (ho.lt g hg).2; omega

set_option maxRecDepth 100000 in
set_option maxHeartbeats 8000000 in
theorem own_main (A : Option Addr) (n c : Nat) (E : Nat → Ev) (w : World) (h : ¬ 150 < n) (hc : n ≤ c) (hm : c ≤ maxLen) (hE : EvsAt w A n E) : Calls Try.prog 5 #[.slice A n c] w (Gives (.bool true) w) := by
  apply Gives.of
  have hcell := fun (W : World) (x : Later W) => x.cell
  unfold maxLen at hm
  have hd : decide ((150 : Int) < (n : Int)) = false := decide_eq_false (by omega)
  have HN := Lib.hid (fun W => new_ok wideL W (by decide))
  have HA := Lib.hid awake_any
  have HE := Lib.hid hE
  have HL := Lib.hid (fun W => refLimits_any 1000 1000 1000 false W)
  clear hE
  go_enter Try.func5, Try.ntmps5
  go_wp2_with (go_at_call 6; refine (HN.out _).mono ?_; rintro e w1 ⟨q, hq, rfl, h0, hb0⟩; have H0 := Lib.hid h0; have hl0 : w1.cell? ⟨w.heap.size, 0, none⟩ = some (.int .i64 1000) := (hb0.cell (p := ⟨w.heap.size, 0, none⟩) (by simp)).trans (by simp); have hl1 : w1.cell? ⟨w.heap.size, 1, none⟩ = some (.int .i64 1000) := (hb0.cell (p := ⟨w.heap.size, 1, none⟩) (by simp)).trans (by simp); have hl2 : w1.cell? ⟨w.heap.size, 2, none⟩ = some (.int .i64 1000) := (hb0.cell (p := ⟨w.heap.size, 2, none⟩) (by simp)).trans (by simp); have hl3 : w1.cell? ⟨w.heap.size, 3, none⟩ = some (.bool false) := (hb0.cell (p := ⟨w.heap.size, 3, none⟩) (by simp)).trans (by simp); have hlt1 := h0.lt; have hltw : w.heap.size < w1.heap.size := (by simp at hq; omega); have HB0 := Lib.hid (((Below.refl _ _).alloc (Nat.le_refl _) _).trans (hb0.mono (by simp))); clear h0 hb0)
  have hqw : w.heap.size ≤ q := by simp at hq; omega
  go_wp2_with ((go_at_call 14; (first | (with_reducible refine (later_call _ (HL.out _)).mono ?_) | (with_reducible refine (call_later (HL.out _)).mono ?_)); rintro e w' ⟨rfl, x, rfl⟩))
  obtain ⟨p, hp⟩ : ∃ p, x.w.heap.size = p := ⟨_, rfl⟩
  have hpw : w.heap.size ≤ p := by have := x.size; have := HB0.out.size; omega
  have hoi : OI w q p mkr0 (x.w.alloc (.cells (rcells mkr0 (.slice none 0 0)) 47)) := by
    have hM := (H0.out.below x.below).below ((Below.refl _ _).alloc (Nat.le_refl _) (.cells (rcells mkr0 (.slice none 0 0)) 47))
    have hlp : q < x.w.heap.size := (H0.out.below x.below).lt
    refine ⟨(HB0.out.trans (x.below.mono HB0.out.size)).alloc (by have := x.size; have := HB0.out.size; omega) _, none, 0, _, .slice none 0 0, hM, ⟨?_, World.ownsRow_nil _ _ _ _⟩, ?_⟩
    · rw [← hp]; exact Box.new _ _ _
    · rintro i (rfl | ⟨a, ha, _⟩ | hi) (hj | ⟨a, ha, _⟩ | hj)
      · omega
      · cases ha
      · cases hj
      · cases ha
      · cases ha
      · cases ha
      · cases hi
      · cases hi
      · cases hi
  have HOI := Lib.hid hoi
  rw [hp]
  clear hoi hl0 hl1 hl2 hl3
  go_loopw [52] (fun i (wr : World) => ∃ k : Nat, k ≤ n ∧ i = .int .i64 k ∧ ∃ mm, OI w q p mm wr ∧ Sz mm (5 * k) ∧ mm.st = 0) (fun i _ => n - (intOf i).toNat)
  case atStart => exact ⟨0, by omega, rfl, mkr0, HOI.out, Sz.zero _, rfl⟩
  case round =>
    obtain ⟨k, hk, rfl, mm, ⟨hb, Ak, ck, vk, uk, hM, hR, hD⟩, hS, hst⟩ := hrel
    have HB := Lib.hid hb
    have HM := Lib.hid hM
    have HR := Lib.hid hR
    have HD := Lib.hid hD
    have HS := Lib.hid hS
    have HST := Lib.hid hst
    have HOK := Lib.hid (show OI w q p mm wr from ⟨hb, Ak, ck, vk, uk, hM, hR, hD⟩)
    clear hb hM hR hD hS hst
    by_cases hkn : k < n
    · obtain ⟨ad, rfl, hb6, hcells⟩ := (HE.out.below HB.out) k hkn
      obtain ⟨e0, he0⟩ : ∃ e, E k = e := ⟨_, rfl⟩
      rw [he0] at hb6 hcells
      obtain ⟨be, ad', fi, li, re, b⟩ := e0
      have kI : (k : Int) < (n : Int) := by omega
      have kd : decide (k < n) = true := decide_eq_true hkn
      (have x0 : wr.cell? (ad.add (k * 6)) = some (.bool be) := hcells 0 _ rfl; have x1 : wr.cell? (ad.add (k * 6 + 1)) = some (.bool ad') := hcells 1 _ rfl; have y1 : wr.cell? ⟨(ad.add (k * 6)).block, (ad.add (k * 6)).off + 1, none⟩ = some (.bool ad') := (by rw [show (⟨(ad.add (k * 6)).block, (ad.add (k * 6)).off + 1, none⟩ : Addr) = (ad.add (k * 6)).add 1 from rfl, add_add']; exact x1); have x2 : wr.cell? (ad.add (k * 6 + 2)) = some (.bool fi) := hcells 2 _ rfl; have y2 : wr.cell? ⟨(ad.add (k * 6)).block, (ad.add (k * 6)).off + 2, none⟩ = some (.bool fi) := (by rw [show (⟨(ad.add (k * 6)).block, (ad.add (k * 6)).off + 2, none⟩ : Addr) = (ad.add (k * 6)).add 2 from rfl, add_add']; exact x2); have x3 : wr.cell? (ad.add (k * 6 + 3)) = some (.bool li) := hcells 3 _ rfl; have y3 : wr.cell? ⟨(ad.add (k * 6)).block, (ad.add (k * 6)).off + 3, none⟩ = some (.bool li) := (by rw [show (⟨(ad.add (k * 6)).block, (ad.add (k * 6)).off + 3, none⟩ : Addr) = (ad.add (k * 6)).add 3 from rfl, add_add']; exact x3); have x4 : wr.cell? (ad.add (k * 6 + 4)) = some (.bool re) := hcells 4 _ rfl; have y4 : wr.cell? ⟨(ad.add (k * 6)).block, (ad.add (k * 6)).off + 4, none⟩ = some (.bool re) := (by rw [show (⟨(ad.add (k * 6)).block, (ad.add (k * 6)).off + 4, none⟩ : Addr) = (ad.add (k * 6)).add 4 from rfl, add_add']; exact x4); have x5 : wr.cell? (ad.add (k * 6 + 5)) = some (.int .u8 b) := hcells 5 _ rfl; have y5 : wr.cell? ⟨(ad.add (k * 6)).block, (ad.add (k * 6)).off + 5, none⟩ = some (.int .u8 b) := (by rw [show (⟨(ad.add (k * 6)).block, (ad.add (k * 6)).off + 5, none⟩ : Addr) = (ad.add (k * 6)).add 5 from rfl, add_add']; exact x5))
      clear hcells
      obtain ⟨o, ho⟩ : ∃ o, takeV wideL mm ⟨be, ad', fi, li, re, b⟩ = o := ⟨_, rfl⟩
      have hs1 : Sz o.1 (5 * (k + 1)) := (ho ▸ take_sz HS.out : Sz o.1 (5 * k + 5)).mono (by omega)
      have ht1 : o.1.st = 0 := ho ▸ take_wide HST.out HS.out (by omega)
      have HS1 := Lib.hid hs1
      have HT1 := Lib.hid ht1
      have HO := Lib.hid ho
      clear hs1 ht1 ho
      have hb7 : b < 256 := hb6
      have HF := Lib.hid (fun W => lref_any ⟨be, ad', fi, li, re, b⟩ W (Nat.le_of_lt_succ hb7))
      have HRT := Lib.hid (fun W (hW : RBox W p uk mm) => rtake_any p uk mm be ad' fi li re b W hW hb6 (HS.out.mono (by omega)) HST.out)
      go_wp2_with fail
      have hB1 : Below wr.heap.size wr (wr.alloc (.cells #[.bool be, .bool ad', .bool fi, .bool li, .bool re, .int .u8 b] 31)) := (Below.refl _ _).alloc (Nat.le_refl _) _
      have HB1 := Lib.hid hB1
      go_at_call 8
      refine (take_any q ck Ak vk wideL mm be ad' fi li re b _ (HM.out.below hB1) hb6 (HS.out.mono (by omega))).mono ?_
      rintro e w2 hT
      have hE2 : Box w2 wr.heap.size 31 #[.bool be, .bool ad', .bool fi, .bool li, .bool re, .int .u8 b] := by
        obtain ⟨A2, c2, v2, r2, _, hG2, _⟩ := hT
        exact box_goes HM.out hG2
      have HTT := Lib.hid hT
      have he := hT
      obtain ⟨A2, c2, v2, r, _, _, rfl, _⟩ := he
      have z0 : w2.cell? ⟨wr.heap.size, 0, none⟩ = some (.bool be) := hE2.cell 0
      have z1 : w2.cell? ⟨wr.heap.size, 1, none⟩ = some (.bool ad') := hE2.cell 1
      have z2 : w2.cell? ⟨wr.heap.size, 2, none⟩ = some (.bool fi) := hE2.cell 2
      have z3 : w2.cell? ⟨wr.heap.size, 3, none⟩ = some (.bool li) := hE2.cell 3
      have z4 : w2.cell? ⟨wr.heap.size, 4, none⟩ = some (.bool re) := hE2.cell 4
      have z5 : w2.cell? ⟨wr.heap.size, 5, none⟩ = some (.int .u8 b) := hE2.cell 5
      have hR2 : RBox w2 p uk mm := by
        obtain ⟨A2, c2, v2, r2, _, hG2, _⟩ := hT
        exact (HR.out.below hB1).keeps hG2.1 (fun i hi hf => HD.out i hf hi)
      have HR2 := Lib.hid hR2
      clear hT hE2 hR2 hB1
      go_wp2_with (go_at_call 16; refine (call_later (HF.out _)).mono ?_; rintro e w' ⟨rfl, y, rfl⟩; unfold evR)
      go_at_call 15
      refine (HRT.out y.w (HR2.out.below y.below)).mono ?_
      rintro e w4 hRT
      obtain ⟨r', want, he1, rfl, hI4, hs1, hs2⟩ := own_step hqw hpw HB.out HM.out HR.out HD.out HB1.out HTT.out y.below (fun _ => hRT)
      rw [HO.out] at he1 hI4 hs1 hs2 ⊢
      have her : r = r' := by simp at he1; exact he1
      subst her
      obtain ⟨L, hL⟩ : ∃ L, o.2.getD [] = L := ⟨_, rfl⟩
      rw [hL] at hI4 hs1 hs2
      have hsame := same_any r want L L w4 hs1 hs2
      simp only [decide_true] at hsame
      obtain ⟨Ar, rcap, rfl, hrc1, hrc2⟩ := hI4.at
      have HI4 := Lib.hid hI4
      have HSM := Lib.hid hsame
      obtain ⟨len, hlen⟩ : ∃ x, L.length = x := ⟨_, rfl⟩
      rw [hlen] at hrc1 HI4 HSM ⊢
      clear hI4 hsame hs1 hs2 he1 z0 z1 z2 z3 z4 z5 x0 x1 x2 x3 x4 x5 y1 y2 y3 y4 y5 HTT HRT HF HR2
      go_wp2_with (go_at_call 13; refine (call_later HSM.out).mono ?_; rintro e w' ⟨rfl, y5, rfl⟩; have HI5 := Lib.hid (HI4.out.below y5.below))
      go_loopw [76] (fun i (wr : World) => ∃ j : Nat, j ≤ len ∧ i = .int .i64 j ∧ OIr w q p o.1 (.slice Ar len rcap) len wr) (fun i _ => len - (intOf i).toNat)
      case atStart => exact ⟨0, by omega, rfl, HI5.out⟩
      case round =>
        obtain ⟨j, hj, rfl, hI⟩ := hrel
        have HI := Lib.hid hI
        clear hI
        by_cases hjn : j < len
        · obtain ⟨g, rfl, hgl, hcs⟩ := HI.out.addr (by omega)
          obtain ⟨c0, f0⟩ := hcs j hjn
          obtain ⟨c0v, c0e⟩ := Option.isSome_iff_exists.1 c0
          have jI : (j : Int) < (len : Int) := by omega
          have jd : decide (j < len) = true := decide_eq_true hjn
          clear hcs c0
          go_wp2_with fail
          go_roundw
          case rel => exact ⟨j + 1, by omega, by go_num, HI.out.store _⟩
          case measure => simp [intOf]; omega
        · obtain rfl : j = len := by omega
          have jI : ¬ (j : Int) < (j : Int) := by omega
          have jd : decide (j < j) = false := decide_eq_false (by omega)
          obtain ⟨hb6', A6, c6, v6, u6', hM6, hR6, hD6⟩ := HI.out.oi
          have HM6 := Lib.hid hM6
          clear hM6 hR6 hD6 hb6'
          go_wp2_with fail
          go_at_call 10
          refine (open_any q c6 A6 v6 wideL o.1 _ HM6.out (by have := HS1.out.2.1; omega)).mono ?_
          rintro e w7 ⟨r7, rfl, hr7, hb7'⟩
          have hI7 := HI.out.oi.fresh hb7' hr7
          obtain ⟨A7, cap7, rfl, hc7, hc8⟩ := hI7.at
          have HI7 := Lib.hid hI7
          obtain ⟨len7, hlen7⟩ : ∃ x, o.1.rc.length = x := ⟨_, rfl⟩
          rw [hlen7] at HI7 hc7 ⊢
          clear hI7 hr7 hb7' HM6
          go_wp2_with fail
          go_loopw [90] (fun i (wr : World) => ∃ j : Nat, j ≤ len7 ∧ i = .int .i64 j ∧ OIr w q p o.1 (.slice A7 len7 cap7) len7 wr) (fun i _ => len7 - (intOf i).toNat)
          case atStart => exact ⟨0, by omega, rfl, HI7.out⟩
          case round =>
            obtain ⟨j, hj, rfl, hI⟩ := hrel
            have HI := Lib.hid hI
            clear hI
            by_cases hjn : j < len7
            · obtain ⟨g, rfl, hgl, hcs⟩ := HI.out.addr (by omega)
              obtain ⟨c0, f0⟩ := hcs j hjn
              obtain ⟨c0v, c0e⟩ := Option.isSome_iff_exists.1 c0
              have jI : (j : Int) < (len7 : Int) := by omega
              have jd : decide (j < len7) = true := decide_eq_true hjn
              clear hcs c0
              go_wp2_with fail
              go_roundw
              case rel => exact ⟨j + 1, by omega, by go_num, HI.out.store _⟩
              case measure => simp [intOf]; omega
            · obtain rfl : j = len7 := by omega
              have jI : ¬ (j : Int) < (j : Int) := by omega
              have jd : decide (j < j) = false := decide_eq_false (by omega)
              go_wp2_with fail
              go_roundw
              case rel => exact ⟨k + 1, by omega, by go_num, o.1, HI.out.oi, HS1.out, HT1.out⟩
              case measure => simp [intOf]; omega
    · obtain rfl : k = n := by omega
      have kI : ¬ (k : Int) < (k : Int) := by omega
      have kd : decide (k < k) = false := decide_eq_false (by omega)
      go_wp2_with fail
      go_at_call 10
      refine (open_any q ck Ak vk wideL mm _ HM.out (by have := HS.out.2.1; omega)).mono ?_
      rintro e w3 ⟨r3, rfl, hr3, hb3⟩
      have hR3 := HR.out.below hb3
      have k5 : w3.cell? ⟨p, 5, none⟩ = some uk := hR3.cell 5
      have HB3 := Lib.hid (HB.out.trans (hb3.mono HB.out.size))
      have hsame := same_any r3 uk mm.rc mm.rc w3 hr3.strs hR3.2.strs
      simp only [decide_true] at hsame
      have HSM := Lib.hid hsame
      clear hsame hr3 hR3 hb3
      go_wp2_with (first | (go_at_call 13; refine (call_later HSM.out).mono ?_; rintro e w' ⟨rfl, x, rfl⟩) | (go_at_call 7; (first | (with_reducible refine (later_call _ (HA.out _)).mono ?_) | (with_reducible refine (call_later (HA.out _)).mono ?_)); rintro e w' ⟨rfl, x, rfl⟩))
      go_ret
      refine ⟨rfl, ?_⟩
      (repeat (first | (with_reducible exact HB3.out) | (with_reducible refine later_below' _ ?_)))

theorem own_all (A : Option Addr) (n c : Nat) (E : Nat → Ev) (w : World) (hc : n ≤ c) (hm : c ≤ maxLen) (hE : EvsAt w A n E) : Calls Try.prog 5 #[.slice A n c] w (Gives (.bool true) w) := by
  by_cases h : 150 < n
  · exact own_many A n c w h (by unfold maxLen at hm; omega)
  · exact own_main A n c E w h hc hm hE

set_option maxRecDepth 100000 in
theorem fieldsOwn_lifted (os : Os) (started : os.Started) (H : Type) (enc : TypeId × Value → H) :
    ReturnsInHanded {} Try.checked os 5 .any (Rows.fieldsOwnSpec.pre6 enc Try.prog Try.f5 Rows.fieldsOwnRow.domain false) (Rows.fieldsOwnSpec.post enc Try.prog Try.f5 false true false false) := by
  refine law_lift (C := Try.checked) (tb := 4) Try.own Try.laidOut started (by kernel_rfl) Try.func5
    (ChangeSpec.witness6 (enc := enc) (C := Try.checked) false ⟨#[], #[.slice none 0 0], []⟩ 8 (by kernel_rfl) (by kernel_rfl) (by kernel_rfl) (by kernel_rfl))
    rfl Try.underlying4 (by intro t ht; have ht' : t ∈ [22] := ht; simp at ht'; subst ht'; exact ⟨by kernel_rfl, of_decide_eq_true (by kernel_rfl)⟩) rfl
    (fun ds h => match ds, h with | [_], _ => rfl) ?_
  intro W base args ds ps hh
  obtain ⟨v, d, p, rfl, hv, h0⟩ := handed_one Try.params5 hh
  obtain ⟨A, n, c, E, rfl, hc, hm, hE⟩ := open_events hv h0
  exact own_all A n c E W hc hm hE

theorem fieldsOwn_holds : Rows.FieldsOwnSaid :=
  OpenClaim.holds_of_wide 5 Try.f5 rfl rfl rfl rfl rfl rfl rfl ⟨rfl, rfl, rfl, rfl, rfl⟩ rfl rfl rfl rfl rfl (by kernel_rfl) Try.func5 (by kernel_rfl)
    (of_decide_eq_true (by kernel_rfl)) (by unfold Func.isWrapper; first | (rw [if_pos (by decide +kernel)]; kernel_rfl) | (rw [if_neg (by decide +kernel)]; exact ⟨rfl, rfl⟩))
    (fun os started H enc _ => fieldsOwn_lifted os started H enc)
#print axioms fieldsOwn_holds

end Go.Proofs.Ytgmejmnfdeacoaa
