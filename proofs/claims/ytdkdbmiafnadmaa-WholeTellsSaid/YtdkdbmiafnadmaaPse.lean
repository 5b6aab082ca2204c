/-
  Walks: the records of a text, and its first fault.
-/
import Derived.Test.YtdkdbmiafnadmaaRows
import Derived.Test.YtdkdbmiafnadmaaWak
import Derived.Test.YtdkdbmiafnadmaaTab
namespace Go.Proofs.Ytdkdbmiafnadmaa
open Go.RowKit

/-- Neither a dialect, nor limits, nor both, may be wrong. -/
def whyE (p q : Nat) (n : Int) (l : Lim) : Nat := if okB p q n = false then 1 else if fitsB l.fs l.fl l.rs = false then 2 else 0

set_option maxHeartbeats 2000000 in
theorem walk_no (fv : Value) (p q : Nat) (n : Int) (l : Lim) (s : ByteArray) (w : World) (h : whyE p q n l ≠ 0) :
    Calls Try.prog 17 #[.agg #[.int .u8 p, .int .u8 q, .int .i64 n], .agg #[.int .i64 l.fs, .int .i64 l.fl, .int .i64 l.rs, .bool l.un], .string s, fv] w (Gives (.agg #[.int .i64 (whyE p q n l), .int .i64 0]) w) := by
  apply Gives.of
  have hcell := fun (W : World) (x : Later W) => x.cell
  have hfrozen := fun (W : World) (x : Later W) => x.frozen
  have hset := set_same
  obtain ⟨y, hy⟩ : ∃ y, whyE p q n l = y := ⟨_, rfl⟩
  rw [hy] at h ⊢
  have HB : Hid (∀ W, Calls Try.prog 26 #[.agg #[.int .u8 p, .int .u8 q, .int .i64 n], .agg #[.int .i64 l.fs, .int .i64 l.fl, .int .i64 l.rs, .bool l.un]] W (Gives (.tuple #[.pointer none, .int .i64 y]) W)) := Lib.hid (fun W => by
    unfold whyE at hy
    by_cases h1 : okB p q n = false
    · rw [if_pos h1] at hy
      rw [← hy]
      exact beg_no p q n l W h1
    · rw [if_neg h1] at hy
      by_cases h2 : fitsB l.fs l.fl l.rs = false
      · rw [if_pos h2] at hy
        rw [← hy]
        exact beg_lim p q n l W (by simpa using h1) h2
      · rw [if_neg h2] at hy
        exact absurd hy.symm h)
  have z1 : ((y : Int) != 0) = true := by simp [h]
  have z2 : decide ((y : Int) = 0) = false := decide_eq_false (by omega)
  clear hy h
  go_enter Try.func17, Try.ntmps17
  go_wp2_with fail
  go_step3
  go_wp2_with ((go_at_call 26; (first | (with_reducible refine (later_call _ (HB.out _)).mono ?_) | (with_reducible refine (call_later (HB.out _)).mono ?_)); rintro e w' ⟨rfl, x, rfl⟩))
  try rw [Exit.noGoto_ret]
  refine bodyPost_ret (v := .agg #[.int .i64 y, .int .i64 0]) (by simp (maxDischargeDepth := 8) [results, Try.results17, go_sem, hcell, hset]) rfl ⟨rfl, ?_⟩
  (repeat (first | (with_reducible exact Below.refl _ _) | (with_reducible refine later_below _ ?_) | (with_reducible refine alloc_below ?_ _) | (with_reducible refine Below.drew ?_) | (refine Below.setCell ?_ (by first | exact Nat.le_refl _ | (simp; done) | (simp; omega) | omega) _)))

theorem RecB.tbl {w : World} {q : Nat} {v : Value} {vs : List Value} {L : List (List ByteArray)} (h : RecB w q v vs L) : Tbl w v L := by
  obtain ⟨h1, h2, h3, h4⟩ := h
  have hl : vs.length = L.length := by have := h2.1; omega
  rcases owns_cases h2 with ⟨rfl, hn⟩ | ⟨g, cap, rfl, g1, g2, g3, g4⟩
  · have : L = [] := List.length_eq_zero_iff.1 hn
    subst this
    exact ⟨none, 0, rfl, Nat.le_refl _, Nat.zero_le _, fun j s hs => by simp at hs⟩
  · refine ⟨some ⟨g, 0, none⟩, cap, rfl, g3, g4, fun j R hR => ?_⟩
    have hj : j < L.length := (List.getElem?_eq_some_iff.1 hR).1
    have hv : vs[j]? = some (vs[j]'(by omega)) := List.getElem?_eq_getElem (by omega)
    refine ⟨_, _, rfl, ?_, (h3 j _ R hv hR).strs⟩
    rw [add_zero_off, h2.cellAt j (by omega)]
    exact hv

/-- What Parse tells: the records, the fault's kind and place. -/
def resT (p q : Nat) (n : Int) (l : Lim) (s : ByteArray) : List (List ByteArray) := if whyE p q n l ≠ 0 then [] else recs (finU p q n l (Bom.stripS s))
def resK (p q : Nat) (n : Int) (l : Lim) (s : ByteArray) : Nat := if whyE p q n l ≠ 0 then whyE p q n l else (finU p q n l (Bom.stripS s)).ft.1
def resA (p q : Nat) (n : Int) (l : Lim) (s : ByteArray) : Nat := if whyE p q n l ≠ 0 then 0 else if (finU p q n l (Bom.stripS s)).ft.1 = 0 then 0 else offN s + (finU p q n l (Bom.stripS s)).ft.2

theorem why_zero {p q : Nat} {n : Int} {l : Lim} (h : ¬ whyE p q n l ≠ 0) : okB p q n = true ∧ fitsB l.fs l.fl l.rs = true := by
  unfold whyE at h
  by_cases h1 : okB p q n = false
  · rw [if_pos h1] at h; simp at h
  · rw [if_neg h1] at h
    by_cases h2 : fitsB l.fs l.fl l.rs = false
    · rw [if_pos h2] at h; simp at h
    · exact ⟨by simpa using h1, by simpa using h2⟩

theorem walk_both (qr p q : Nat) (n : Int) (l : Lim) (s : ByteArray) (w : World) (h : RecB w qr (.slice none 0 0) [] []) (hs : s.size ≤ 100000) :
    Calls Try.prog 17 #[.agg #[.int .u8 p, .int .u8 q, .int .i64 n], .agg #[.int .i64 l.fs, .int .i64 l.fl, .int .i64 l.rs, .bool l.un], .string s, .func (.func 18) #[] #[.pointer (some ⟨qr, 0, none⟩)]] w (fun e w' => e = .returned (.agg #[.int .i64 (resK p q n l s), .int .i64 (resA p q n l s)]) ∧ ∃ v vs, RecB w' qr v vs (resT p q n l s) ∧ Keeps w w' (fun k => k = qr) ∧ ∀ i, rfoot qr v vs i → i = qr ∨ w.heap.size ≤ i) := by
  unfold resK resA resT
  by_cases hy : whyE p q n l ≠ 0
  · rw [if_pos hy, if_pos hy, if_pos hy]
    refine (walk_no _ p q n l s w hy).mono ?_
    rintro e w' ⟨rfl, hb⟩
    refine ⟨rfl, _, _, h.keeps (keeps_below hb (fun _ => False)) (fun _ _ => id), keeps_below hb _, fun i hi => ?_⟩
    rcases hi with hi | hi | ⟨r, hr, _⟩
    · exact .inl hi
    · cases hi
    · cases hr
  · rw [if_neg hy, if_neg hy, if_neg hy]
    obtain ⟨hok, hf⟩ := why_zero hy
    refine (walkP_any qr p q n l s w h hs hok hf).mono ?_
    rintro e w' ⟨rfl, hq⟩
    exact ⟨rfl, hq⟩

def ParP (w : World) (p q : Nat) (n : Int) (l : Lim) (s : ByteArray) (e : Ending) (w' : World) : Prop :=
  ∃ v, e = .returned (.tuple #[v, .agg #[.int .i64 (resK p q n l s), .int .i64 (resA p q n l s)]]) ∧ Tbl w' v (resT p q n l s) ∧ Below w.heap.size w w'

set_option maxHeartbeats 4000000 in
theorem parse_any (p q : Nat) (n : Int) (l : Lim) (s : ByteArray) (w : World) (hs : s.size ≤ 100000) :
    Calls Try.prog 6 #[.agg #[.int .u8 p, .int .u8 q, .int .i64 n], .agg #[.int .i64 l.fs, .int .i64 l.fl, .int .i64 l.rs, .bool l.un], .string s] w (ParP w p q n l s) := by
  have hmf : ∀ (fn : Fn) (first cap : Array Value) (w : World), (Instr.makeFunc fn first cap).run Try.prog w = .ok (.func fn first cap) w := fun _ _ _ _ => rfl
  have HW := Lib.hid (fun W hW => walk_both (w.heap.size + 1 + 1 + 1) p q n l s W hW hs)
  unfold ParP
  generalize resK p q n l s = k1 at HW ⊢
  generalize resA p q n l s = k2 at HW ⊢
  generalize resT p q n l s = T at HW ⊢
  have hb4 : Box ((((w.alloc (.cells #[.int .u8 p, .int .u8 q, .int .i64 n] 23)).alloc (.cells #[.int .i64 l.fs, .int .i64 l.fl, .int .i64 l.rs, .bool l.un] 25)).alloc (.cells #[.int .i64 0, .int .i64 0] 30)).alloc (.cells #[.slice none 0 0] 27)) (w.heap.size + 1 + 1 + 1) 27 #[.slice none 0 0] := by
    have := Box.new (((w.alloc (.cells #[.int .u8 p, .int .u8 q, .int .i64 n] 23)).alloc (.cells #[.int .i64 l.fs, .int .i64 l.fl, .int .i64 l.rs, .bool l.un] 25)).alloc (.cells #[.int .i64 0, .int .i64 0] 30)) 27 #[.slice none 0 0]
    simpa using this
  have HR := Lib.hid (show RecB _ (w.heap.size + 1 + 1 + 1) (.slice none 0 0) [] [] from ⟨hb4, World.ownsRow_nil _ _ _ _, fun k r R h => (by cases h), fun r h => (by cases h)⟩)
  have hbr : Box ((((w.alloc (.cells #[.int .u8 p, .int .u8 q, .int .i64 n] 23)).alloc (.cells #[.int .i64 l.fs, .int .i64 l.fl, .int .i64 l.rs, .bool l.un] 25)).alloc (.cells #[.int .i64 0, .int .i64 0] 30)).alloc (.cells #[.slice none 0 0] 27)) (w.heap.size + 1 + 1) 30 #[.int .i64 0, .int .i64 0] := by
    have := (Box.new ((w.alloc (.cells #[.int .u8 p, .int .u8 q, .int .i64 n] 23)).alloc (.cells #[.int .i64 l.fs, .int .i64 l.fl, .int .i64 l.rs, .bool l.un] 25)) 30 #[.int .i64 0, .int .i64 0]).alloc (.cells #[.slice none 0 0] 27)
    simpa using this
  have HBR := Lib.hid hbr
  have hk4 : Keeps w ((((w.alloc (.cells #[.int .u8 p, .int .u8 q, .int .i64 n] 23)).alloc (.cells #[.int .i64 l.fs, .int .i64 l.fl, .int .i64 l.rs, .bool l.un] 25)).alloc (.cells #[.int .i64 0, .int .i64 0] 30)).alloc (.cells #[.slice none 0 0] 27)) (fun _ => False) := (((((Keeps.refl w _).alloc _).alloc _).alloc _).alloc _)
  have HK4 := Lib.hid hk4
  clear hb4 hbr hk4
  go_enter Try.func6, Try.ntmps6
  go_upto_region 3 with (go_at_call 17; refine (HW.out _ HR.out).mono ?_; rintro e w3 ⟨rfl, v, vs, hR3, hK3, hF3⟩; have HR3 := Lib.hid hR3; have HK3 := Lib.hid hK3; have HF3 := Lib.hid hF3; clear hR3 hK3 hF3)
  have hsz3 : w.heap.size + 1 + 1 + 1 < w3.heap.size := HR3.out.1.lt
  have hbr3 : Box w3 (w.heap.size + 1 + 1) 30 #[.int .i64 0, .int .i64 0] := HBR.out.keeps HK3.out (by omega)
  have hfl := Box.new w3 30 #[.int .i64 k1, .int .i64 k2]
  have hal : Keeps w3 (w3.alloc (.cells #[.int .i64 k1, .int .i64 k2] 30)) (fun _ => False) := (Keeps.refl _ _).alloc _
  have hb : Keeps w w3 (fun _ => False) := HK4.out.trans HK3.out (fun i hi h => by omega)
  have hR4 := HR3.out.keeps hal (fun _ _ => id)
  have hbr4 := hbr3.keeps hal id
  have hb4 := hb.trans hal (fun _ _ h => h)
  have hne : ¬ w3.heap.size = w.heap.size + 1 + 1 := by omega
  generalize (w3.alloc (.cells #[.int .i64 k1, .int .i64 k2] 30)) = W4 at hfl hR4 hbr4 hb4 ⊢
  have c0 : W4.cell? ⟨w.heap.size + 1 + 1 + 1, 0, none⟩ = some v := hR4.1.cell 0
  have c1 : W4.cell? ⟨w3.heap.size, 0, none⟩ = some (.int .i64 k1) := hfl.cell 0
  have c2 : W4.cell? ⟨w3.heap.size, 1, none⟩ = some (.int .i64 k2) := hfl.cell 1
  have c3 : W4.cell? ⟨w.heap.size + 1 + 1, 0, none⟩ = some (.int .i64 0) := hbr4.cell 0
  have c4 : W4.cell? ⟨w.heap.size + 1 + 1, 1, none⟩ = some (.int .i64 0) := hbr4.cell 1
  have c5 := hbr4.frozen
  have d0 : W4.drew.cell? ⟨w.heap.size + 1 + 1 + 1, 0, none⟩ = some v := c0
  have d1 : W4.drew.cell? ⟨w3.heap.size, 0, none⟩ = some (.int .i64 k1) := c1
  have d2 : W4.drew.cell? ⟨w3.heap.size, 1, none⟩ = some (.int .i64 k2) := c2
  have d3 : W4.drew.cell? ⟨w.heap.size + 1 + 1, 0, none⟩ = some (.int .i64 0) := c3
  have d4 : W4.drew.cell? ⟨w.heap.size + 1 + 1, 1, none⟩ = some (.int .i64 0) := c4
  have d5 : ∀ i, W4.drew.frozen? ⟨w.heap.size + 1 + 1, i, none⟩ = false := c5
  have HRB := Lib.hid (And.intro hR4 (And.intro hbr4 (And.intro hb4 HF3.out)))
  clear hfl hR4 hbr4 hb4 hbr3 hal hb HF3 HR3 HK3 HBR HR HW HK4 hmf
  go_region
  all_goals
    go_wp2_with fail
    obtain ⟨hR4, hbr4, hb4, hF4⟩ := HRB.out
    have hB5 := ((hbr4.set 0 (.int .i64 k1)).set 1 (.int .i64 k2)).drew
    have hk5 : Keeps W4 ((W4.setCell ⟨w.heap.size + 1 + 1, 0, none⟩ (.int .i64 k1)).setCell ⟨w.heap.size + 1 + 1, 1, none⟩ (.int .i64 k2)).drew (fun i => i = w.heap.size + 1 + 1) := (((Keeps.refl W4 (fun i => i = w.heap.size + 1 + 1)).set (w.heap.size + 1 + 1) 0 (.int .i64 k1) (.inl rfl)).set (w.heap.size + 1 + 1) 1 (.int .i64 k2) (.inl rfl)).drew
    clear c0 c1 c2 c3 c4 c5 d0 d1 d2 d3 d4 d5
    generalize ((W4.setCell ⟨w.heap.size + 1 + 1, 0, none⟩ (.int .i64 k1)).setCell ⟨w.heap.size + 1 + 1, 1, none⟩ (.int .i64 k2)).drew = W5 at hB5 hk5 ⊢
    have g0 : W5.cell? ⟨w.heap.size + 1 + 1, 0, none⟩ = some (.int .i64 k1) := hB5.cell 0
    have g1 : W5.cell? ⟨w.heap.size + 1 + 1, 1, none⟩ = some (.int .i64 k2) := hB5.cell 1
    refine bodyPost_ret (v := .tuple #[v, .agg #[.int .i64 k1, .int .i64 k2]]) (by simp (maxDischargeDepth := 8) [results, Try.results6, go_sem, g0, g1]) rfl ?_
    refine ⟨v, rfl, (hR4.keeps hk5 (fun i hi hc => ?_)).tbl, ((hb4.mono (fun _ _ h => h.elim)).trans hk5 (fun i hi h => by omega) : Keeps w W5 (fun _ => False)).toBelow (Nat.le_refl _) (fun _ _ h => h)⟩
    rcases hF4 i hi with h | h
    · omega
    · simp at h; omega

end Go.Proofs.Ytdkdbmiafnadmaa
