/-
  Walks: the program's maker, part by part.
-/
import Derived.Test.YtdkdbmiafnadmaaRows
import Derived.Test.YtdkdbmiafnadmaaFldM
import Derived.Lib.Hide
import Derived.StillTailTactics
import Derived.Deep.RegionWith
import Derived.BigRegion
import Derived.OwnWalk
import Derived.Laws.AppendOwnNone
import Derived.Maps.AppendAt
import Derived.Deep.AppendLies
import Derived.Deep.RegionLaw
namespace Go.Proofs.Ytdkdbmiafnadmaa
open Go.RowKit

theorem u8_info : (Try.prog.info? 5).map (fun i => (i.zero, i.size, i.bytes)) = some (some (.int .u8 0), 1, 1) := by kernel_rfl

theorem wp_still_tail_drew {P : Program} {id : Nat} {Q : Exit → Act → World → Prop} {a : Act} {w : World} {l : List Oper} (n : Nat) (hm : P.follows .mixedOrders = true) (hB : Region.lexTailB .any l.toArray n = true)
    (h : wpStill P l.toArray w.drew (fun a' => wpList P l.toArray Q (l.drop n) a' w.drew) (l.take n) a) : (Code.region id l.toArray true).wp P Q a w := wp_region_still_tail n hm hB h

theorem at_world {C : Code} {P : Program} {Q : Exit → Act → World → Prop} {a : Act} {W : World} (h : ∀ W0, W = W0 → C.wp P Q a W0) : C.wp P Q a W := h W rfl

def mcells (l : Lim) (m : Mkr) (f v : Value) : Array Value := #[.int .i64 l.fs, .int .i64 l.fl, .int .i64 l.rs, .bool l.un, f, v, .int .i64 m.bg, .int .i64 m.ct, .int .i64 m.wd, .int .i64 m.st]
/-- The maker at block q; A: where its field's bytes lie, v: its record. -/
def MBox (w : World) (q : Nat) (A : Option Addr) (c : Nat) (v : Value) (l : Lim) (m : Mkr) : Prop :=
  Box w q 100 (mcells l m (.slice A m.fd.size c) v) ∧ Own w (q + 1) A m.fd.size c m.fd ∧ OwnS w (q + 1) v m.rc ∧ ∀ a, A = some a → v.ownBlock ≠ some a.block
/-- The blocks that a maker stands in. -/
def feet (q : Nat) (A : Option Addr) (v : Value) (k : Nat) : Prop := k = q ∨ (∃ a, A = some a ∧ a.block = k) ∨ v.ownBlock = some k
/-- From one world to another a maker goes on. -/
def Goes (w w' : World) (q : Nat) (A : Option Addr) (v : Value) (A' : Option Addr) (v' : Value) : Prop := Keeps w w' (feet q A v) ∧ ∀ k, feet q A' v' k → feet q A v k ∨ w.heap.size ≤ k
theorem Goes.refl (w : World) (q : Nat) (A : Option Addr) (v : Value) : Goes w w q A v A v := ⟨Keeps.refl _ _, fun _ h => .inl h⟩
theorem Goes.trans {w w' w'' : World} {q : Nat} {A A' A'' : Option Addr} {v v' v'' : Value} (h : Goes w w' q A v A' v') (k : Goes w' w'' q A' v' A'' v'') : Goes w w'' q A v A'' v'' :=
  ⟨h.1.trans k.1 (fun i hi hf => (h.2 i hf).elim id (fun h' => by omega)), fun i hi => (k.2 i hi).elim (h.2 i) (fun h' => .inr (by have := h.1.size; omega))⟩
theorem Goes.below {w w' w'' : World} {q : Nat} {A A' : Option Addr} {v v' : Value} (h : Goes w w' q A v A' v') (hb : Below w'.heap.size w' w'') : Goes w w'' q A v A' v' := ⟨h.1.below hb, h.2⟩

section
variable {w w' : World} {q c : Nat} {A : Option Addr} {v : Value} {l : Lim} {m : Mkr}
theorem MBox.lt (h : MBox w q A c v l m) : q < w.heap.size := h.1.lt
theorem MBox.cell (h : MBox w q A c v l m) (i : Nat) : w.cell? ⟨q, i, none⟩ = (mcells l m (.slice A m.fd.size c) v)[i]? := h.1.cell i
theorem MBox.feet_lt (h : MBox w q A c v l m) (k : Nat) (hk : feet q A v k) : q ≤ k ∧ k < w.heap.size := by
  rcases hk with rfl | ⟨a, ha, rfl⟩ | hv
  · exact ⟨Nat.le_refl _, h.1.lt⟩
  · have := h.2.1.lt ha; omega
  · have := h.2.2.1.lt k hv; omega
theorem MBox.keeps {S : Nat → Prop} (h : MBox w q A c v l m) (k : Keeps w w' S) (hS : ∀ i, feet q A v i → ¬ S i) : MBox w' q A c v l m :=
  ⟨h.1.keeps k (hS q (.inl rfl)), h.2.1.keeps k (fun a ha => hS _ (.inr (.inl ⟨a, ha, rfl⟩))), owns_keeps h.2.2.1 k (fun g hg => hS g (.inr (.inr hg))), h.2.2.2⟩
theorem MBox.scalar (h : MBox w q A c v l m) (i : Nat) (u : Value) (m' : Mkr) (hf : m'.fd = m.fd) (hr : m'.rc = m.rc) (hc : (mcells l m (.slice A m.fd.size c) v).setIfInBounds i u = mcells l m' (.slice A m'.fd.size c) v) : MBox (w.setCell ⟨q, i, none⟩ u) q A c v l m' := by
  obtain ⟨h1, h2, h3, h4⟩ := h
  have hq : ∀ a, A = some a → some a.block ≠ some q := fun a ha hc => by have := h2.lt ha; injection hc with hc; omega
  have hv : v.ownBlock = none ∨ v.ownBlock ≠ some q := by
    cases e : v.ownBlock with
    | none => exact .inl rfl
    | some g => exact .inr (fun hc => by injection hc with hc; have := h3.lt g e; omega)
  refine ⟨?_, ?_, ?_, h4⟩
  · have := h1.set i u
    rw [hc] at this
    exact this
  · rw [hf]; exact h2.grown (grown_set _ _ _ _) hq
  · rw [hr]; exact h3.kept (grown_set _ _ _ _) hv
theorem MBox.ne_field (h : MBox w q A c v l m) : some q ≠ A.map (·.block) := by
  cases hA : A with
  | none => simp
  | some a => have := h.2.1.lt hA; simp; omega
theorem MBox.ne_rec (h : MBox w q A c v l m) : some q ≠ v.ownBlock := fun hc => by have := h.2.2.1.lt q hc.symm; omega
theorem MBox.below (h : MBox w q A c v l m) (hb : Below w.heap.size w w') : MBox w' q A c v l m := h.keeps (keeps_below hb (fun _ => False)) (fun _ _ => id)
end

theorem Goes.drew {w w' : World} {q : Nat} {A A' : Option Addr} {v v' : Value} (h : Goes w w' q A v A' v') : Goes w w'.drew q A v A' v' := ⟨h.1.drew, h.2⟩
theorem Own.emptied {w : World} {b n c : Nat} {A : Option Addr} {s : ByteArray} (h : Own w b A n c s) : Own w b A 0 c ⟨#[]⟩ := by
  obtain ⟨h1, h2, h3, h4⟩ := h
  refine ⟨rfl, Nat.zero_le _, h3, ?_⟩
  rcases h4 with h4 | ⟨g, hg, hb0, hlt, hc, _⟩
  · exact .inl h4
  · exact .inr ⟨g, hg, hb0, hlt, hc, fun j hj => by omega⟩

section
variable {w1 w2 : World} {q c n c2 : Nat} {A A2 : Option Addr} {v v2 : Value} {l : Lim} {m : Mkr} {s : ByteArray}
/-- The field is another text, written onto the elder one. -/
theorem MBox.onField (H : MBox w1 q A c v l m) (ho : Own w2 (q + 1) A2 n c2 s) (hg : w1.grownBy w2 (A.map (·.block))) (h2 : A2 = A ∨ A2 = some ⟨w1.heap.size, 0, none⟩) :
    MBox (w2.setCell ⟨q, 4, none⟩ (.slice A2 n c2)) q A2 c2 v l ⟨s, m.rc, m.bg, m.ct, m.wd, m.st⟩ ∧ Goes w1 (w2.setCell ⟨q, 4, none⟩ (.slice A2 n c2)) q A v A2 v := by
  obtain rfl := ho.1
  have hq := H.ne_field
  obtain ⟨h1, h3, h4, h5⟩ := H
  have hb := h1.grown hg hq
  have hA2 : ∀ a, A2 = some a → v.ownBlock ≠ some a.block := by
    intro a ha
    rcases h2 with h2 | h2
    · exact h5 a (h2 ▸ ha)
    · rw [h2] at ha
      cases ha
      intro hc
      have := h4.lt _ hc
      simp only [] at this
      omega
  have hv : v.ownBlock = none ∨ v.ownBlock ≠ A.map (·.block) := by
    cases hA : A with
    | none =>
      cases e : v.ownBlock with
      | none => exact .inl rfl
      | some g => exact .inr (by simp)
    | some a => exact .inr (h5 a hA)
  refine ⟨⟨?_, ?_, ?_, hA2⟩, ?_, ?_⟩
  · exact hb.set 4 _
  · exact ho.grown (grown_set _ _ _ _) (fun a ha hc => by have := ho.lt ha; injection hc with hc; omega)
  · exact (h4.kept hg hv).kept (grown_set _ _ _ _) (by cases e : v.ownBlock with | none => exact .inl rfl | some g => exact .inr (fun hc => by injection hc with hc; have := h4.lt g e; omega))
  · refine ((Keeps.refl _ _).grown hg (fun g hg' => .inl (.inr (.inl ?_)))).set q 4 _ (.inl (.inl rfl))
    cases hA : A with
    | none => rw [hA] at hg'; cases hg'
    | some a => rw [hA] at hg'; injection hg' with hg'; exact ⟨a, rfl, hg'⟩
  · intro k hk
    rcases hk with hk | ⟨a, ha, rfl⟩ | hk
    · exact .inl (.inl hk)
    · rcases h2 with h2 | h2
      · exact .inl (.inr (.inl ⟨a, h2 ▸ ha, rfl⟩))
      · rw [h2] at ha; cases ha; exact .inr (Nat.le_refl _)
    · exact .inl (.inr (.inr hk))
/-- The record has one field more. -/
theorem MBox.onRec (H : MBox w1 q A c v l m) (ho : w2.ownsRow (q + 1) 9 1 v2 (m.rc.length + 1) (strC m.rc ++ [.string s])) (hg : w1.grownBy w2 v.ownBlock) (hat : v2.ownBlock = v.ownBlock ∨ v2.ownBlock = some w1.heap.size) :
    MBox (w2.setCell ⟨q, 5, none⟩ v2) q A c v2 l ⟨m.fd, m.rc ++ [s], m.bg, m.ct, m.wd, m.st⟩ ∧ Goes w1 (w2.setCell ⟨q, 5, none⟩ v2) q A v A v2 := by
  have hq := H.ne_rec
  obtain ⟨h1, h3, h4, h5⟩ := H
  have ho' : OwnS w2 (q + 1) v2 (m.rc ++ [s]) := by
    show w2.ownsRow (q + 1) 9 1 v2 (m.rc ++ [s]).length (strC (m.rc ++ [s]))
    rw [List.length_append, strC_snoc]
    exact ho
  refine ⟨⟨(h1.grown hg hq).set 5 _, ?_, ?_, ?_⟩, ?_, ?_⟩
  · exact (h3.grown hg (fun a ha hc => h5 a ha hc.symm)).grown (grown_set _ _ _ _) (fun a ha hc => by have := h3.lt ha; injection hc with hc; omega)
  · exact ho'.kept (grown_set _ _ _ _) (by cases e : v2.ownBlock with | none => exact .inl rfl | some g => exact .inr (fun hc => by injection hc with hc; have := ho'.lt g e; omega))
  · intro a ha hc
    rcases hat with e | e
    · exact h5 a ha (e ▸ hc)
    · rw [e] at hc; injection hc with hc; have := h3.lt ha; omega
  · exact ((Keeps.refl _ _).grown hg (fun g hg' => .inl (.inr (.inr hg')))).set q 5 _ (.inl (.inl rfl))
  · intro k hk
    rcases hk with hk | hk | hk
    · exact .inl (.inl hk)
    · exact .inl (.inr (.inl hk))
    · rcases hat with e | e
      · exact .inl (.inr (.inr (e ▸ hk)))
      · rw [e] at hk; injection hk with hk; exact .inr (by omega)
theorem MBox.emptied (H : MBox w1 q A c v l m) : MBox (w1.setCell ⟨q, 4, none⟩ (.slice A 0 c)) q A c v l ⟨⟨#[]⟩, m.rc, m.bg, m.ct, m.wd, m.st⟩ ∧ Goes w1 (w1.setCell ⟨q, 4, none⟩ (.slice A 0 c)) q A v A v := by
  have h := H.onField (A2 := A) H.2.1.emptied (grown_refl _ _) (.inl rfl)
  exact h
end

def MPost (w : World) (q : Nat) (A : Option Addr) (v : Value) (l : Lim) (m' : Mkr) (w' : World) : Prop := ∃ A' c' v', MBox w' q A' c' v' l m' ∧ Goes w w' q A v A' v'

set_option maxHeartbeats 1000000 in
theorem begin_any (q c : Nat) (A : Option Addr) (v : Value) (l : Lim) (m : Mkr) (w : World) (h : MBox w q A c v l m) (hs : m.bg ≤ 2000000) :
    Calls Try.prog 61 #[.pointer (some ⟨q, 0, none⟩)] w (fun e w' => e = .returned (.int .i64 (beginV l m).2) ∧ MPost w q A v l (beginV l m).1 w') := by
  have hcell := fun (W : World) (x : Later W) => x.cell
  have hlt := h.lt
  have q2 : w.cell? ⟨q, 2, none⟩ = some (.int .i64 l.rs) := h.cell 2
  have q6 : w.cell? ⟨q, 6, none⟩ = some (.int .i64 m.bg) := h.cell 6
  have H := Lib.hid h
  clear h
  by_cases h1 : l.rs ≤ m.bg
  · have d1 : decide (l.rs ≤ (m.bg : Int)) = true := decide_eq_true h1
    have e : beginV l m = (m, 9) := by unfold beginV; rw [if_pos h1]
    rw [e]
    go_enter Try.func61, Try.ntmps61
    go_wp2_with fail
    refine wp_region_later_lit (by kernel_rfl) (by kernel_rfl) ?_
    repeat (go_big_quiet_step (fail))
    refine wpQuiet_nil ?_
    rintro w' ⟨y, rfl⟩
    go_wp2_with fail
    go_ret
    exact ⟨rfl, A, c, v, H.out.below y.below, (Goes.refl _ _ _ _).below y.below⟩
  · have d1 : decide (l.rs ≤ (m.bg : Int)) = false := decide_eq_false h1
    have e : beginV l m = (⟨m.fd, m.rc, m.bg + 1, m.ct, m.wd, m.st⟩, 0) := by unfold beginV; rw [if_neg h1]
    rw [e]
    go_enter Try.func61, Try.ntmps61
    go_wp2_with fail
    refine wp_region_later_lit (by kernel_rfl) (by kernel_rfl) ?_
    repeat (go_big_quiet_step (fail))
    refine wpQuiet_nil ?_
    rintro w' ⟨y, rfl⟩
    have HY := Lib.hid (H.out.below y.below)
    have y6 := HY.out.cell 6
    have yf := HY.out.1.frozen
    have hw : wrap64 ((m.bg : Int) + 1) = m.bg + 1 := by unfold wrap64; omega
    go_wp2_with fail
    go_ret
    exact ⟨rfl, A, c, v, HY.out.scalar 6 _ ⟨m.fd, m.rc, m.bg + 1, m.ct, m.wd, m.st⟩ rfl rfl rfl, ((Keeps.refl _ _).below y.below).set q 6 _ (.inl (.inl rfl)), fun k hk => .inl hk⟩

set_option maxHeartbeats 1000000 in
theorem hasWidth_any (q c : Nat) (A : Option Addr) (v : Value) (l : Lim) (m : Mkr) (w : World) (h : MBox w q A c v l m) :
    Calls Try.prog 71 #[.pointer (some ⟨q, 0, none⟩)] w (fun e w' => e = .returned (.bool (must l m)) ∧ w' = w) := by
  have q3 : w.cell? ⟨q, 3, none⟩ = some (.bool l.un) := h.cell 3
  have q7 : w.cell? ⟨q, 7, none⟩ = some (.int .i64 m.ct) := h.cell 7
  have hz : decide ((0 : Int) < (m.ct : Int)) = decide (0 < m.ct) := decide_eq_decide.2 (by omega)
  unfold must
  cases hu : l.un
  all_goals
    rw [hu] at q3
    go_enter Try.func71, Try.ntmps71
    go_wp2_with fail
    go_ret
    first | exact ⟨rfl, rfl⟩ | (refine ⟨ret_bool ?_, rfl⟩; simp)

set_option maxHeartbeats 1000000 in
theorem add_any (q c b : Nat) (A : Option Addr) (v : Value) (l : Lim) (m : Mkr) (w : World) (h : MBox w q A c v l m) (hb : b < 256) (hs : m.fd.size ≤ 2000000) :
    Calls Try.prog 62 #[.pointer (some ⟨q, 0, none⟩), .int .u8 b] w (fun e w' => e = .returned (.int .i64 (addV l m b).2) ∧ MPost w q A v l (addV l m b).1 w') := by
  have hcell := fun (W : World) (x : Later W) => x.cell
  have hlt := h.lt
  obtain ⟨i0, hi, hz0, hz1, hz2⟩ := info_parts u8_info
  have q0 : w.cell? ⟨q, 0, none⟩ = some (.int .i64 l.fs) := h.cell 0
  have q4 : w.cell? ⟨q, 4, none⟩ = some (.slice A m.fd.size c) := h.cell 4
  have hm := h.2.1.txt.le
  have H := Lib.hid h
  clear h
  by_cases h1 : l.fs ≤ m.fd.size
  · have d1 : decide (l.fs ≤ (m.fd.size : Int)) = true := decide_eq_true h1
    have e : addV l m b = (m, 7) := by unfold addV; rw [if_pos h1]
    rw [e]
    go_enter Try.func62, Try.ntmps62
    go_wp2_with fail
    refine wp_region_later_lit (by kernel_rfl) (by kernel_rfl) ?_
    repeat (go_big_quiet_step (fail))
    refine wpQuiet_nil ?_
    rintro w' ⟨y, rfl⟩
    go_wp2_with fail
    go_ret
    exact ⟨rfl, A, c, v, H.out.below y.below, (Goes.refl _ _ _ _).below y.below⟩
  · have d1 : decide (l.fs ≤ (m.fd.size : Int)) = false := decide_eq_false h1
    have e : addV l m b = (⟨m.fd ++ ⟨#[UInt8.ofNat b]⟩, m.rc, m.bg, m.ct, m.wd, m.st⟩, 0) := by unfold addV; rw [if_neg h1]
    rw [e]
    go_enter Try.func62, Try.ntmps62
    go_wp2_with fail
    refine wp_region_later_lit (by kernel_rfl) (by kernel_rfl) ?_
    repeat (go_big_quiet_step (fail))
    refine wpQuiet_nil ?_
    rintro w' ⟨y, rfl⟩
    have hb0 := y.below
    generalize y.w = W0 at hb0 ⊢
    have HY := Lib.hid (H.out.below hb0)
    have HS := Lib.hid ((txt_one W0 5 (UInt8.ofNat b) (b : Int) (by simp; omega)).src (P := Try.prog) (tx := 98) Try.underlying98)
    have HA := Lib.hid (HY.out.below ((Below.refl _ _).alloc (Nat.le_refl _) (.cells #[.int .u8 b] 5)))
    have y4 : W0.cell? ⟨q, 4, none⟩ = some (.slice A m.fd.size c) := HY.out.cell 4
    have hlt0 := HY.out.lt
    go_wp2_with (at_builtin; refine wpList_append_text rfl (.tmp 20) (.tmp 22) _ _ rfl 5 i0 _ Try.underlying98 hi hz0 hz1 hz2 rfl rfl HA.out.2.1 rfl HS.out (by simp; omega) (by omega) ?_; intro A2 c2 w2 ho2 hg2 h2; have KB := HA.out.1.grown hg2 HA.out.ne_field; have k4 : w2.cell? ⟨q, 4, none⟩ = some (.slice A m.fd.size c) := KB.cell 4; have kf := KB.frozen 4)
    go_ret
    have h3 := HA.out.onField ho2 hg2 h2
    exact ⟨rfl, A2, c2, v, h3.1, (((Goes.refl _ _ _ _).below hb0).below ((Below.refl _ _).alloc (Nat.le_refl _) _)).trans h3.2⟩

set_option maxHeartbeats 1000000 in
theorem put_any (q c : Nat) (A : Option Addr) (v : Value) (l : Lim) (m : Mkr) (w : World) (h : MBox w q A c v l m) (hs : m.rc.length ≤ 2000000) :
    Calls Try.prog 70 #[.pointer (some ⟨q, 0, none⟩)] w (fun e w' => e = .returned (.tuple #[]) ∧ MPost w q A v l (putV m) w') := by
  have hlt := h.lt
  obtain ⟨i0, hi, hz0, hz1, hz2⟩ := info_parts str_info
  have q4 : w.cell? ⟨q, 4, none⟩ = some (.slice A m.fd.size c) := h.cell 4
  have q5 : w.cell? ⟨q, 5, none⟩ = some v := h.cell 5
  have hcv : (convert 98 9 (.slice A m.fd.size c)).run Try.prog w.drew = .ok (.string m.fd) w.drew := h.2.1.txt.drew.str _ _ _ Try.underlying98 Try.underlying5 Try.underlying9
  have H := Lib.hid h
  have HA := Lib.hid (h.below ((Below.refl _ _).drew.alloc (by simp) (.cells #[.string m.fd] 9)))
  clear h
  go_enter Try.func70, Try.ntmps70
  go_wp2_with fail
  go_region_law (refine step_append_lies _ rfl (.tmp 6) (.tmp 12) 50 rfl (q + 1) 9 i0 _ 1 _ Try.underlying50 hi hz0 hz1 hz2 rfl (by omega) v m.rc.length _ rfl HA.out.2.2.1 ⟨w.heap.size, 0, none⟩ 1 1 [.string m.fd] rfl rfl (cell_one_new w.drew _ _) (by intro u hu; simp at hu; subst hu; rfl) (by omega) (by unfold maxLen; omega) (by omega) (by simp; omega) _ rfl ?_; intro g2 p2 w2 ho2 hg2 hat _hlt2; have H3 := Lib.hid (HA.out.onRec ho2 hg2 (hat.elim (fun h => .inl h.symm) (fun h => .inr (by rw [h]; rfl)))); have KB := HA.out.1.grown hg2 HA.out.ne_rec; have k5 : w2.cell? ⟨q, 5, none⟩ = some v := KB.cell 5; have kf := KB.frozen 5; clear ho2 hat)
  all_goals
    obtain ⟨h3, h4⟩ := H3.out
    clear H3
    generalize w2.setCell ⟨q, 5, none⟩ (.slice (some ⟨g2, 0, none⟩) (m.rc.length + 1) p2) = w3 at h3 h4 ⊢
    have H3 := Lib.hid h3
    have H4 := Lib.hid h4
    have k4 : w3.cell? ⟨q, 4, none⟩ = some (.slice A m.fd.size c) := h3.cell 4
    have kf4 : w3.frozen? ⟨q, 4, none⟩ = false := h3.1.frozen 4
    clear h3 h4 KB k5 kf hg2
    go_wp2_with fail
    refine bodyPost_end (v := .tuple #[]) (by simp [results, Try.results70]) rfl ?_
    exact ⟨rfl, A, c, _, H3.out.emptied.1, (((Goes.refl _ _ _ _).below ((Below.refl _ _).drew.alloc (by simp) (.cells #[.string m.fd] 9))).trans H4.out).trans H3.out.emptied.2⟩

theorem MBox.rec_len {w : World} {q c : Nat} {A : Option Addr} {v : Value} {l : Lim} {m : Mkr} (h : MBox w q A c v l m) : ∃ A' cap, v = .slice A' m.rc.length cap ∧ m.rc.length ≤ cap ∧ cap ≤ 9223372036854775807 := owns_len h.2.2.1
theorem put_len (m : Mkr) : (putV m).rc.length = m.rc.length + 1 := by simp [putV]
theorem put_must (l : Lim) (m : Mkr) : must l (putV m) = must l m := rfl
theorem put_wd (m : Mkr) : (putV m).wd = m.wd := rfl

set_option maxHeartbeats 2000000 in
theorem endLine_any (q c : Nat) (A : Option Addr) (v : Value) (l : Lim) (m : Mkr) (w : World) (h : MBox w q A c v l m) (hs : m.rc.length ≤ 2000000) :
    Calls Try.prog 64 #[.pointer (some ⟨q, 0, none⟩)] w (fun e w' => e = .returned (.int .i64 (lineV l m).2) ∧ MPost w q A v l (lineV l m).1 w') := by
  have hcell := fun (W : World) (x : Later W) => x.cell
  have H := Lib.hid h
  clear h
  cases hm : must l m
  · have e : lineV l m = (putV m, 0) := by unfold lineV; simp [hm]
    rw [e]
    go_enter Try.func64, Try.ntmps64
    go_wp2_with fail
    go_at_call 70
    refine (put_any q c A v l m w H.out hs).mono ?_
    rintro e w1 ⟨rfl, A1, c1, v1, h1, hg⟩
    obtain ⟨Ar, cap, rfl, hr1, hr2⟩ := h1.rec_len
    rw [put_len] at hr1 h1 hg
    have hlt := h1.lt
    have q1 : w1.cell? ⟨q, 1, none⟩ = some (.int .i64 l.fl) := h1.cell 1
    have q5 : w1.cell? ⟨q, 5, none⟩ = some (.slice Ar (m.rc.length + 1) cap) := h1.cell 5
    have q8 : w1.cell? ⟨q, 8, none⟩ = some (.int .i64 m.wd) := h1.cell 8
    have H1 := Lib.hid h1
    have HG := Lib.hid hg
    have HW : Hid (∀ x : Later w1, Calls Try.prog 71 #[.pointer (some ⟨q, 0, none⟩)] x.w (Gives (.bool (must l m)) x.w)) := Lib.hid (fun x => Gives.same (hasWidth_any q c1 A1 _ l (putV m) x.w (H1.out.below x.below)))
    clear h1 hg
    rw [hm] at HW
    go_wp2_with fail
    refine wp_region_later_lit (by kernel_rfl) (by kernel_rfl) ?_
    repeat (go_big_quiet_step (first | (go_at_call 71; exact later_call _ (HW.out _))))
    refine wpQuiet_nil ?_
    rintro w' ⟨y, rfl⟩
    go_wp2_with fail
    go_ret
    exact ⟨rfl, A1, c1, _, H1.out.below y.below, HG.out.below y.below⟩
  · by_cases e1 : m.rc.length + 1 = m.wd
    · have e : lineV l m = (putV m, 0) := by unfold lineV; simp [hm, e1]
      rw [e]
      go_enter Try.func64, Try.ntmps64
      go_wp2_with fail
      go_at_call 70
      refine (put_any q c A v l m w H.out hs).mono ?_
      rintro e w1 ⟨rfl, A1, c1, v1, h1, hg⟩
      obtain ⟨Ar, cap, rfl, hr1, hr2⟩ := h1.rec_len
      rw [put_len] at hr1 h1 hg
      have hlt := h1.lt
      have q1 : w1.cell? ⟨q, 1, none⟩ = some (.int .i64 l.fl) := h1.cell 1
      have q5 : w1.cell? ⟨q, 5, none⟩ = some (.slice Ar (m.rc.length + 1) cap) := h1.cell 5
      have q8 : w1.cell? ⟨q, 8, none⟩ = some (.int .i64 m.wd) := h1.cell 8
      have H1 := Lib.hid h1
      have HG := Lib.hid hg
      have HW : Hid (∀ x : Later w1, Calls Try.prog 71 #[.pointer (some ⟨q, 0, none⟩)] x.w (Gives (.bool (must l m)) x.w)) := Lib.hid (fun x => Gives.same (hasWidth_any q c1 A1 _ l (putV m) x.w (H1.out.below x.below)))
      clear h1 hg
      rw [hm] at HW
      have d1 : decide (((m.rc.length + 1 : Nat) : Int) = (m.wd : Int)) = true := decide_eq_true (by omega)
      have d2 : (((m.rc.length + 1 : Nat) : Int) != (m.wd : Int)) = false := by simp; omega
      have d3 : decide (((m.rc.length : Int) + 1) = (m.wd : Int)) = true := decide_eq_true (by omega)
      have d4 : (((m.rc.length : Int) + 1) != (m.wd : Int)) = false := by simp; omega
      have d5 : (((m.rc.length : Int) + 1) == (m.wd : Int)) = true := by simp; omega
      go_wp2_with fail
      refine wp_region_later_lit (by kernel_rfl) (by kernel_rfl) ?_
      repeat (go_big_quiet_step (first | (go_at_call 71; exact later_call _ (HW.out _))))
      refine wpQuiet_nil ?_
      rintro w' ⟨y, rfl⟩
      go_wp2_with fail
      go_ret
      exact ⟨rfl, A1, c1, _, H1.out.below y.below, HG.out.below y.below⟩
    · have e : lineV l m = (putV m, 10) := by unfold lineV; simp [hm, e1]
      rw [e]
      go_enter Try.func64, Try.ntmps64
      go_wp2_with fail
      go_at_call 70
      refine (put_any q c A v l m w H.out hs).mono ?_
      rintro e w1 ⟨rfl, A1, c1, v1, h1, hg⟩
      obtain ⟨Ar, cap, rfl, hr1, hr2⟩ := h1.rec_len
      rw [put_len] at hr1 h1 hg
      have hlt := h1.lt
      have q1 : w1.cell? ⟨q, 1, none⟩ = some (.int .i64 l.fl) := h1.cell 1
      have q5 : w1.cell? ⟨q, 5, none⟩ = some (.slice Ar (m.rc.length + 1) cap) := h1.cell 5
      have q8 : w1.cell? ⟨q, 8, none⟩ = some (.int .i64 m.wd) := h1.cell 8
      have H1 := Lib.hid h1
      have HG := Lib.hid hg
      have HW : Hid (∀ x : Later w1, Calls Try.prog 71 #[.pointer (some ⟨q, 0, none⟩)] x.w (Gives (.bool (must l m)) x.w)) := Lib.hid (fun x => Gives.same (hasWidth_any q c1 A1 _ l (putV m) x.w (H1.out.below x.below)))
      clear h1 hg
      rw [hm] at HW
      have d1 : decide (((m.rc.length + 1 : Nat) : Int) = (m.wd : Int)) = false := decide_eq_false (by omega)
      have d2 : (((m.rc.length + 1 : Nat) : Int) != (m.wd : Int)) = true := by simp; omega
      have d3 : decide (((m.rc.length : Int) + 1) = (m.wd : Int)) = false := decide_eq_false (by omega)
      have d4 : (((m.rc.length : Int) + 1) != (m.wd : Int)) = true := by simp; omega
      have d5 : (((m.rc.length : Int) + 1) == (m.wd : Int)) = false := by simp; omega
      go_wp2_with fail
      refine wp_region_later_lit (by kernel_rfl) (by kernel_rfl) ?_
      repeat (go_big_quiet_step (first | (go_at_call 71; exact later_call _ (HW.out _))))
      refine wpQuiet_nil ?_
      rintro w' ⟨y, rfl⟩
      go_wp2_with fail
      go_ret
      exact ⟨rfl, A1, c1, _, H1.out.below y.below, HG.out.below y.below⟩

set_option maxHeartbeats 2000000 in
theorem endField_any (q c : Nat) (A : Option Addr) (v : Value) (l : Lim) (m : Mkr) (w : World) (h : MBox w q A c v l m) (hs : m.rc.length ≤ 2000000) :
    Calls Try.prog 63 #[.pointer (some ⟨q, 0, none⟩)] w (fun e w' => e = .returned (.int .i64 (fieldV l m).2) ∧ MPost w q A v l (fieldV l m).1 w') := by
  have hcell := fun (W : World) (x : Later W) => x.cell
  have H := Lib.hid h
  clear h
  by_cases e0 : l.fl ≤ m.rc.length + 1
  · have e : fieldV l m = (putV m, 8) := by unfold fieldV; rw [if_pos e0]
    rw [e]
    have d9 : decide (l.fl ≤ ((m.rc.length + 1 : Nat) : Int)) = true := decide_eq_true (by omega)
    have d8 : decide (l.fl ≤ ((m.rc.length : Int) + 1)) = true := decide_eq_true (by omega)
    go_enter Try.func63, Try.ntmps63
    go_wp2_with fail
    go_at_call 70
    refine (put_any q c A v l m w H.out hs).mono ?_
    rintro e w1 ⟨rfl, A1, c1, v1, h1, hg⟩
    obtain ⟨Ar, cap, rfl, hr1, hr2⟩ := h1.rec_len
    rw [put_len] at hr1 h1 hg
    have hlt := h1.lt
    have q1 : w1.cell? ⟨q, 1, none⟩ = some (.int .i64 l.fl) := h1.cell 1
    have q5 : w1.cell? ⟨q, 5, none⟩ = some (.slice Ar (m.rc.length + 1) cap) := h1.cell 5
    have q8 : w1.cell? ⟨q, 8, none⟩ = some (.int .i64 m.wd) := h1.cell 8
    have H1 := Lib.hid h1
    have HG := Lib.hid hg
    have HW : Hid (∀ x : Later w1, Calls Try.prog 71 #[.pointer (some ⟨q, 0, none⟩)] x.w (Gives (.bool (must l m)) x.w)) := Lib.hid (fun x => Gives.same (hasWidth_any q c1 A1 _ l (putV m) x.w (H1.out.below x.below)))
    clear h1 hg
    go_wp2_with fail
    refine wp_region_later_lit (by kernel_rfl) (by kernel_rfl) ?_
    repeat (go_big_quiet_step (fail))
    refine wpQuiet_nil ?_
    rintro w' ⟨y0, rfl⟩
    go_wp2_with fail
    go_ret
    exact ⟨rfl, A1, c1, _, H1.out.below y0.below, HG.out.below y0.below⟩
  · have d9 : decide (l.fl ≤ ((m.rc.length + 1 : Nat) : Int)) = false := decide_eq_false (by omega)
    have d8 : decide (l.fl ≤ ((m.rc.length : Int) + 1)) = false := decide_eq_false (by omega)
    cases hm : must l m
    · have e : fieldV l m = (putV m, 0) := by unfold fieldV; rw [if_neg e0]; simp [hm]
      rw [e]
      go_enter Try.func63, Try.ntmps63
      go_wp2_with fail
      go_at_call 70
      refine (put_any q c A v l m w H.out hs).mono ?_
      rintro e w1 ⟨rfl, A1, c1, v1, h1, hg⟩
      obtain ⟨Ar, cap, rfl, hr1, hr2⟩ := h1.rec_len
      rw [put_len] at hr1 h1 hg
      have hlt := h1.lt
      have q1 : w1.cell? ⟨q, 1, none⟩ = some (.int .i64 l.fl) := h1.cell 1
      have q5 : w1.cell? ⟨q, 5, none⟩ = some (.slice Ar (m.rc.length + 1) cap) := h1.cell 5
      have q8 : w1.cell? ⟨q, 8, none⟩ = some (.int .i64 m.wd) := h1.cell 8
      have H1 := Lib.hid h1
      have HG := Lib.hid hg
      have HW : Hid (∀ x : Later w1, Calls Try.prog 71 #[.pointer (some ⟨q, 0, none⟩)] x.w (Gives (.bool (must l m)) x.w)) := Lib.hid (fun x => Gives.same (hasWidth_any q c1 A1 _ l (putV m) x.w (H1.out.below x.below)))
      clear h1 hg
      rw [hm] at HW
      go_wp2_with fail
      refine wp_region_later_lit (by kernel_rfl) (by kernel_rfl) ?_
      repeat (go_big_quiet_step (fail))
      refine wpQuiet_nil ?_
      rintro w' ⟨y0, rfl⟩
      go_wp2_with fail
      refine wp_region_anch y0 (by kernel_rfl) (by kernel_rfl) ?_
      repeat (go_big_quiet_step (first | (go_at_call 71; exact later_call _ (HW.out _))))
      refine wpQuiet_nil ?_
      rintro w' ⟨y, rfl⟩
      go_wp2_with fail
      go_ret
      exact ⟨rfl, A1, c1, _, H1.out.below y.below, HG.out.below y.below⟩
    · by_cases e1 : m.rc.length + 1 = m.wd
      · have e : fieldV l m = (putV m, 10) := by unfold fieldV; rw [if_neg e0]; simp [hm, e1]
        rw [e]
        go_enter Try.func63, Try.ntmps63
        go_wp2_with fail
        go_at_call 70
        refine (put_any q c A v l m w H.out hs).mono ?_
        rintro e w1 ⟨rfl, A1, c1, v1, h1, hg⟩
        obtain ⟨Ar, cap, rfl, hr1, hr2⟩ := h1.rec_len
        rw [put_len] at hr1 h1 hg
        have hlt := h1.lt
        have q1 : w1.cell? ⟨q, 1, none⟩ = some (.int .i64 l.fl) := h1.cell 1
        have q5 : w1.cell? ⟨q, 5, none⟩ = some (.slice Ar (m.rc.length + 1) cap) := h1.cell 5
        have q8 : w1.cell? ⟨q, 8, none⟩ = some (.int .i64 m.wd) := h1.cell 8
        have H1 := Lib.hid h1
        have HG := Lib.hid hg
        have HW : Hid (∀ x : Later w1, Calls Try.prog 71 #[.pointer (some ⟨q, 0, none⟩)] x.w (Gives (.bool (must l m)) x.w)) := Lib.hid (fun x => Gives.same (hasWidth_any q c1 A1 _ l (putV m) x.w (H1.out.below x.below)))
        clear h1 hg
        rw [hm] at HW
        have d1 : decide (((m.rc.length + 1 : Nat) : Int) = (m.wd : Int)) = true := decide_eq_true (by omega)
        have d2 : (((m.rc.length + 1 : Nat) : Int) != (m.wd : Int)) = false := by simp; omega
        have d3 : decide (((m.rc.length : Int) + 1) = (m.wd : Int)) = true := decide_eq_true (by omega)
        have d4 : (((m.rc.length : Int) + 1) != (m.wd : Int)) = false := by simp; omega
        have d5 : (((m.rc.length : Int) + 1) == (m.wd : Int)) = true := by simp; omega
        go_wp2_with fail
        refine wp_region_later_lit (by kernel_rfl) (by kernel_rfl) ?_
        repeat (go_big_quiet_step (fail))
        refine wpQuiet_nil ?_
        rintro w' ⟨y0, rfl⟩
        go_wp2_with fail
        refine wp_region_anch y0 (by kernel_rfl) (by kernel_rfl) ?_
        repeat (go_big_quiet_step (first | (go_at_call 71; exact later_call _ (HW.out _))))
        refine wpQuiet_nil ?_
        rintro w' ⟨y, rfl⟩
        go_wp2_with fail
        go_ret
        exact ⟨rfl, A1, c1, _, H1.out.below y.below, HG.out.below y.below⟩
      · have e : fieldV l m = (putV m, 0) := by unfold fieldV; rw [if_neg e0]; simp [hm, e1]
        rw [e]
        go_enter Try.func63, Try.ntmps63
        go_wp2_with fail
        go_at_call 70
        refine (put_any q c A v l m w H.out hs).mono ?_
        rintro e w1 ⟨rfl, A1, c1, v1, h1, hg⟩
        obtain ⟨Ar, cap, rfl, hr1, hr2⟩ := h1.rec_len
        rw [put_len] at hr1 h1 hg
        have hlt := h1.lt
        have q1 : w1.cell? ⟨q, 1, none⟩ = some (.int .i64 l.fl) := h1.cell 1
        have q5 : w1.cell? ⟨q, 5, none⟩ = some (.slice Ar (m.rc.length + 1) cap) := h1.cell 5
        have q8 : w1.cell? ⟨q, 8, none⟩ = some (.int .i64 m.wd) := h1.cell 8
        have H1 := Lib.hid h1
        have HG := Lib.hid hg
        have HW : Hid (∀ x : Later w1, Calls Try.prog 71 #[.pointer (some ⟨q, 0, none⟩)] x.w (Gives (.bool (must l m)) x.w)) := Lib.hid (fun x => Gives.same (hasWidth_any q c1 A1 _ l (putV m) x.w (H1.out.below x.below)))
        clear h1 hg
        rw [hm] at HW
        have d1 : decide (((m.rc.length + 1 : Nat) : Int) = (m.wd : Int)) = false := decide_eq_false (by omega)
        have d2 : (((m.rc.length + 1 : Nat) : Int) != (m.wd : Int)) = true := by simp; omega
        have d3 : decide (((m.rc.length : Int) + 1) = (m.wd : Int)) = false := decide_eq_false (by omega)
        have d4 : (((m.rc.length : Int) + 1) != (m.wd : Int)) = true := by simp; omega
        have d5 : (((m.rc.length : Int) + 1) == (m.wd : Int)) = false := by simp; omega
        go_wp2_with fail
        refine wp_region_later_lit (by kernel_rfl) (by kernel_rfl) ?_
        repeat (go_big_quiet_step (fail))
        refine wpQuiet_nil ?_
        rintro w' ⟨y0, rfl⟩
        go_wp2_with fail
        refine wp_region_anch y0 (by kernel_rfl) (by kernel_rfl) ?_
        repeat (go_big_quiet_step (first | (go_at_call 71; exact later_call _ (HW.out _))))
        refine wpQuiet_nil ?_
        rintro w' ⟨y, rfl⟩
        go_wp2_with fail
        go_ret
        exact ⟨rfl, A1, c1, _, H1.out.below y.below, HG.out.below y.below⟩

end Go.Proofs.Ytdkdbmiafnadmaa
