/-
  Walks: the document's reader: a record is whole; a field is the record's.
-/
import Derived.Test.YtajedohgcepkiaaDoorRows
import Derived.Test.YtajedohgcepkiaaDoorRdP
namespace Go.Proofs.YtajedohgcepkiaaDoor
open Go.RowKit

theorem rec_info : (Tryd.prog.info? 49).map (fun i => (i.zero, i.size, i.bytes)) = some (some (.slice none 0 0), 1, 24) := by kernel_rfl
theorem int_info : (Tryd.prog.info? 3).map (fun i => (i.zero, i.size, i.bytes)) = some (some (.int .i64 0), 1, 8) := by kernel_rfl

/-- The reader, while its record may be one of the whole ones. -/
def RdZ (w : World) (o p q : Nat) (n : Int) (l : Lim) (s : ByteArray) (x : Rd) (vc vr ve : Value) (vs : List Value) : Prop :=
  Box w o 74 (rdcells p q n l s x vc vr ve) ∧ OwnS w (o + 1) vc x.rc ∧ w.ownsRow (o + 1) 49 1 vr x.rs.length vs ∧ w.ownsRow (o + 1) 3 1 ve x.en.length (intC x.en) ∧
    (∀ (k : Nat) (r : Value) (L : List ByteArray), vs[k]? = some r → x.rs[k]? = some L → OwnS w (o + 1) r L) ∧ apart vc vr ∧ apart vc ve ∧ apart vr ve ∧ ∀ r ∈ vs, apart r vr ∧ apart r ve

section
variable {w w1 w2 : World} {o p q : Nat} {n : Int} {l : Lim} {s : ByteArray} {x : Rd} {vc vr ve v2 : Value} {vs : List Value}
theorem RdB.weak (h : RdB w o p q n l s x vc vr ve vs) : RdZ w o p q n l s x vc vr ve vs := by
  obtain ⟨h1, h2, h3, h4, h5, h6, h7, h8, h9⟩ := h
  exact ⟨h1, h2, h3, h4, h5, h6, h7, h8, fun r hr => (h9 r hr).2⟩
theorem RdZ.lt (h : RdZ w o p q n l s x vc vr ve vs) : o < w.heap.size := h.1.lt
theorem RdZ.cell (h : RdZ w o p q n l s x vc vr ve vs) (i : Nat) : w.cell? ⟨o, i, none⟩ = (rdcells p q n l s x vc vr ve)[i]? := h.1.cell i
theorem RdZ.below (h : RdZ w o p q n l s x vc vr ve vs) (hb : Below w.heap.size w w1) : RdZ w1 o p q n l s x vc vr ve vs := by
  obtain ⟨h1, h2, h3, h4, h5, h6⟩ := h
  have k := keeps_below hb (fun _ => False)
  exact ⟨h1.keeps k id, owns_keeps h2 k (fun _ _ => id), owns_keeps h3 k (fun _ _ => id), owns_keeps h4 k (fun _ _ => id), fun i r L hr hL => owns_keeps (h5 i r L hr hL) k (fun _ _ => id), h6⟩
theorem apart_kept {a b : Value} (h : apart a b) : a.ownBlock = none ∨ a.ownBlock ≠ b.ownBlock := by
  cases e : a.ownBlock with
  | none => exact .inl rfl
  | some g => exact .inr (fun hc => h g e hc.symm)
theorem ne_some {b : Nat} {e : TypeId} {size k : Nat} {v : Value} {xs : List Value} (h : w.ownsRow b e size v k xs) {o : Nat} (ho : o < b) : some o ≠ v.ownBlock := fun hc => by have := h.lt o hc.symm; omega
theorem apart_at {b : Nat} {e : TypeId} {size k : Nat} {a v : Value} {xs : List Value} (ha : w1.ownsRow b e size a k xs) (h : apart a v) (hat : v2.ownBlock = v.ownBlock ∨ v2.ownBlock = some w1.heap.size) : apart a v2 := fun g hg hc => by
  rcases hat with e | e
  · exact h g hg (e ▸ hc)
  · rw [e] at hc; injection hc with hc; have := ha.lt g hg; omega

/-- The record is one of the whole ones. -/
theorem RdZ.onTab (h : RdZ w1 o p q n l s x vc vr ve vs) (ho : w2.ownsRow (o + 1) 49 1 v2 (x.rs.length + 1) (vs ++ [vc])) (hg : w1.grownBy w2 vr.ownBlock) (hat : v2.ownBlock = vr.ownBlock ∨ v2.ownBlock = some w1.heap.size) :
    RdZ (w2.setCell ⟨o, 11, none⟩ v2) o p q n l s ⟨x.i, x.bg, x.rc, x.rs ++ [x.rc], x.en, x.kd, x.pl⟩ vc v2 ve (vs ++ [vc]) := by
  obtain ⟨h1, h2, h3, h4, h5, h6, h7, h8, h9⟩ := h
  have hlen : vs.length = x.rs.length := by have := h3.1; omega
  have kset : ∀ {b : Nat} {e : TypeId} {size k : Nat} {v : Value} {xs : List Value}, w2.ownsRow b e size v k xs → o < b → (w2.setCell ⟨o, 11, none⟩ v2).ownsRow b e size v k xs := fun h ho => h.kept (grown_set _ _ _ _) (own_ne h ho)
  refine ⟨(h1.grown hg (ne_some h3 (Nat.lt_succ_self _))).set 11 _, kset (h2.kept hg (apart_kept h6)) (Nat.lt_succ_self _), ?_, kset (h4.kept hg (apart_kept h8.symm)) (Nat.lt_succ_self _), ?_, apart_at h2 h6 hat, h7, (apart_at h4 h8.symm hat).symm, ?_⟩
  · have := kset ho (Nat.lt_succ_self _)
    simpa using this
  · intro k r L hr hL
    refine kset ?_ (Nat.lt_succ_self _)
    by_cases hk : k < vs.length
    · rw [List.getElem?_append_left hk] at hr
      rw [List.getElem?_append_left (by omega)] at hL
      exact (h5 k r L hr hL).kept hg (apart_kept (h9 r (List.mem_of_getElem? hr)).1)
    · rw [List.getElem?_append_right (by omega)] at hr
      rw [List.getElem?_append_right (by omega)] at hL
      have hk0 : k - vs.length = 0 := by
        rcases Nat.eq_zero_or_pos (k - vs.length) with h | h
        · exact h
        · rw [List.getElem?_eq_none (by simp; omega)] at hr; cases hr
      rw [hk0] at hr
      rw [show k - x.rs.length = 0 by omega] at hL
      simp at hr hL
      subst hr hL
      exact h2.kept hg (apart_kept h6)
  · intro r hr
    rcases List.mem_append.1 hr with hr | hr
    · obtain ⟨k, hk⟩ := List.getElem?_of_mem hr
      have hkl : k < vs.length := (List.getElem?_eq_some_iff.1 hk).1
      have hL : x.rs[k]? = some (x.rs[k]'(by omega)) := List.getElem?_eq_getElem (by omega)
      exact ⟨apart_at (h5 k r _ hk hL) (h9 r hr).1 hat, (h9 r hr).2⟩
    · simp at hr
      subst hr
      exact ⟨apart_at h2 h6 hat, h7⟩
theorem intC_snoc (L : List Nat) (a : Nat) : intC (L ++ [a]) = intC L ++ [.int .i64 a] := by unfold intC; simp
/-- .. and where it was so. -/
theorem RdZ.onEnds {a : Nat} (h : RdZ w1 o p q n l s x vc vr ve vs) (ho : w2.ownsRow (o + 1) 3 1 v2 (x.en.length + 1) (intC x.en ++ [.int .i64 a])) (hg : w1.grownBy w2 ve.ownBlock) (hat : v2.ownBlock = ve.ownBlock ∨ v2.ownBlock = some w1.heap.size) :
    RdZ (w2.setCell ⟨o, 12, none⟩ v2) o p q n l s ⟨x.i, x.bg, x.rc, x.rs, x.en ++ [a], x.kd, x.pl⟩ vc vr v2 vs := by
  obtain ⟨h1, h2, h3, h4, h5, h6, h7, h8, h9⟩ := h
  have hlen : vs.length = x.rs.length := by have := h3.1; omega
  have kset : ∀ {b : Nat} {e : TypeId} {size k : Nat} {v : Value} {xs : List Value}, w2.ownsRow b e size v k xs → o < b → (w2.setCell ⟨o, 12, none⟩ v2).ownsRow b e size v k xs := fun h ho => h.kept (grown_set _ _ _ _) (own_ne h ho)
  refine ⟨(h1.grown hg (ne_some h4 (Nat.lt_succ_self _))).set 12 _, kset (h2.kept hg (apart_kept h7)) (Nat.lt_succ_self _), kset (h3.kept hg (apart_kept h8)) (Nat.lt_succ_self _), ?_, ?_, h6, apart_at h2 h7 hat, apart_at h3 h8 hat, ?_⟩
  · have := kset ho (Nat.lt_succ_self _)
    rw [← intC_snoc] at this
    simpa using this
  · intro k r L hr hL
    exact kset ((h5 k r L hr hL).kept hg (apart_kept (h9 r (List.mem_of_getElem? hr)).2)) (Nat.lt_succ_self _)
  · intro r hr
    obtain ⟨k, hk⟩ := List.getElem?_of_mem hr
    have hkl : k < vs.length := (List.getElem?_eq_some_iff.1 hk).1
    have hL : x.rs[k]? = some (x.rs[k]'(by omega)) := List.getElem?_eq_getElem (by omega)
    exact ⟨(h9 r hr).1, apart_at (h5 k r _ hk hL) (h9 r hr).2 hat⟩
theorem RdZ.clear (h : RdZ w1 o p q n l s x vc vr ve vs) : RdB (w1.setCell ⟨o, 10, none⟩ (.slice none 0 0)) o p q n l s ⟨x.i, x.bg, [], x.rs, x.en, x.kd, x.pl⟩ (.slice none 0 0) vr ve vs := by
  obtain ⟨h1, h2, h3, h4, h5, h6, h7, h8, h9⟩ := h
  have kset : ∀ {b : Nat} {e : TypeId} {size k : Nat} {v : Value} {xs : List Value}, w1.ownsRow b e size v k xs → o < b → (w1.setCell ⟨o, 10, none⟩ (.slice none 0 0)).ownsRow b e size v k xs := fun h ho => h.kept (grown_set _ _ _ _) (own_ne h ho)
  exact ⟨h1.set 10 _, World.ownsRow_nil _ _ _ _, kset h3 (Nat.lt_succ_self _), kset h4 (Nat.lt_succ_self _), fun k r L hr hL => kset (h5 k r L hr hL) (Nat.lt_succ_self _), fun g hg => (by cases hg), fun g hg => (by cases hg), h8, fun r hr => ⟨fun g hg hc => (by cases hc), h9 r hr⟩⟩
/-- A field is the record's. -/
theorem RdB.onRec {f : ByteArray} (h : RdB w1 o p q n l s x vc vr ve vs) (ho : w2.ownsRow (o + 1) 9 1 v2 (x.rc.length + 1) (strC x.rc ++ [.string f])) (hg : w1.grownBy w2 vc.ownBlock) (hat : v2.ownBlock = vc.ownBlock ∨ v2.ownBlock = some w1.heap.size) :
    RdB (w2.setCell ⟨o, 10, none⟩ v2) o p q n l s ⟨x.i, x.bg, x.rc ++ [f], x.rs, x.en, x.kd, x.pl⟩ v2 vr ve vs := by
  obtain ⟨h1, h2, h3, h4, h5, h6, h7, h8, h9⟩ := h
  have hlen : vs.length = x.rs.length := by have := h3.1; omega
  have kset : ∀ {b : Nat} {e : TypeId} {size k : Nat} {v : Value} {xs : List Value}, w2.ownsRow b e size v k xs → o < b → (w2.setCell ⟨o, 10, none⟩ v2).ownsRow b e size v k xs := fun h ho => h.kept (grown_set _ _ _ _) (own_ne h ho)
  refine ⟨(h1.grown hg (ne_some h2 (Nat.lt_succ_self _))).set 10 _, ?_, kset (h3.kept hg (apart_kept h6.symm)) (Nat.lt_succ_self _), kset (h4.kept hg (apart_kept h7.symm)) (Nat.lt_succ_self _), ?_, (apart_at h3 h6.symm hat).symm, (apart_at h4 h7.symm hat).symm, h8, ?_⟩
  · have := kset ho (Nat.lt_succ_self _)
    rw [← strC_snoc] at this
    show World.ownsRow _ _ _ _ _ (x.rc ++ [f]).length _
    rw [List.length_append]
    exact this
  · intro k r L hr hL
    exact kset ((h5 k r L hr hL).kept hg (apart_kept (h9 r (List.mem_of_getElem? hr)).1)) (Nat.lt_succ_self _)
  · intro r hr
    obtain ⟨k, hk⟩ := List.getElem?_of_mem hr
    have hkl : k < vs.length := (List.getElem?_eq_some_iff.1 hk).1
    have hL : x.rs[k]? = some (x.rs[k]'(by omega)) := List.getElem?_eq_getElem (by omega)
    exact ⟨apart_at (h5 k r _ hk hL) (h9 r hr).1 hat, (h9 r hr).2⟩
end

def wholeV (a : Nat) (x : Rd) : Rd := ⟨x.i, x.bg, [], x.rs ++ [x.rc], x.en ++ [a], x.kd, x.pl⟩
set_option maxHeartbeats 2000000 in
theorem whole_any (o p q : Nat) (n : Int) (l : Lim) (s : ByteArray) (a : Nat) (x : Rd) (w : World) (h : RdIn w o p q n l s x) (h1 : x.rs.length ≤ 1000000) (h2 : x.en.length ≤ 1000000) :
    Calls Tryd.prog 59 #[.pointer (some ⟨o, 0, none⟩), .int .i64 a] w (fun e w' => e = .returned (.tuple #[]) ∧ RdIn w' o p q n l s (wholeV a x) ∧ Below o w w') := by
  obtain ⟨vc, vr, ve, vs, h⟩ := h
  have hlt := h.lt
  obtain ⟨Av, cv, rfl, _, _⟩ := h.rec_len
  obtain ⟨i0, hi, hz0, hz1, hz2⟩ := info_parts rec_info
  obtain ⟨i1, gi, gz0, gz1, gz2⟩ := info_parts int_info
  have q10 : w.cell? ⟨o, 10, none⟩ = some (.slice Av x.rc.length cv) := h.cell 10
  have q11 : w.cell? ⟨o, 11, none⟩ = some vr := h.cell 11
  have HA := Lib.hid (h.weak.below ((Below.refl _ _).drew.alloc (by simp) (.cells #[.slice Av x.rc.length cv] 49)))
  clear h
  go_enter Tryd.func59, Tryd.ntmps59
  go_wp2_with fail
  go_region_law (refine step_append_lies _ rfl (.tmp 9) (.tmp 14) 45 rfl (o + 1) 49 i0 _ 1 _ Tryd.underlying45 hi hz0 hz1 hz2 rfl (by omega) vr x.rs.length _ rfl HA.out.2.2.1 ⟨w.heap.size, 0, none⟩ 1 1 [.slice Av x.rc.length cv] rfl rfl (cell_one_new w.drew _ _) (by intro u hu; simp at hu; subst hu; rfl) (by omega) (by unfold maxLen; omega) (by omega) (by simp; omega) _ rfl ?_; intro g2 p2 w2 ho2 hg2 hat _hlt2; have H3 := Lib.hid (HA.out.onTab ho2 hg2 (hat.elim (fun h => .inl h.symm) (fun h => .inr (by rw [h]; rfl)))); have KB := HA.out.1.grown hg2 (ne_some HA.out.2.2.1 (Nat.lt_succ_self _)); have k11 : w2.cell? ⟨o, 11, none⟩ = some vr := KB.cell 11; have kf := KB.frozen 11; have HB2 := Lib.hid ((((Below.refl o w).drew.alloc (by simp; omega) (.cells #[.slice Av x.rc.length cv] 49))).grown hg2 (by simp; omega) (fun g hg => by have := HA.out.2.2.1.lt g hg; omega)); clear ho2 hat)
  all_goals
    have h3 := H3.out
    have hb3 := HB2.out.trans (below_set _ _ 11 (.slice (some ⟨g2, 0, none⟩) (x.rs.length + 1) p2))
    clear H3
    generalize w2.setCell ⟨o, 11, none⟩ (.slice (some ⟨g2, 0, none⟩) (x.rs.length + 1) p2) = w3 at h3 hb3 ⊢
    have H3 := Lib.hid h3
    have H4 := Lib.hid hb3
    have k12 : w3.cell? ⟨o, 12, none⟩ = some ve := h3.cell 12
    have kf12 : w3.frozen? ⟨o, 12, none⟩ = false := h3.1.frozen 12
    have hlt3 := h3.lt
    have HE := Lib.hid (h3.below ((Below.refl _ _).alloc (Nat.le_refl _) (.cells #[.int .i64 a] 3)))
    clear h3 hb3 KB k11 kf hg2 HB2
    go_wp2_with (at_builtin; refine wpList_append_own_at _ rfl (.tmp 24) (.tmp 26) 65 rfl (o + 1) 3 i1 _ 1 _ Tryd.underlying65 gi gz0 gz1 gz2 rfl (by omega) ve x.en.length _ rfl HE.out.2.2.2.1 ⟨w3.heap.size, 0, none⟩ 1 1 [.int .i64 a] rfl rfl (cell_one_new w3 _ _) (by intro u hu; simp at hu; subst hu; rfl) (by unfold maxLen; omega) (by omega) (by simp; omega) ?_; intro v4 w4 ho4 hg4 _hn4 hat4; obtain ⟨A4, p4, rfl, _hp⟩ := owns_len ho4; have H5 := Lib.hid (HE.out.onEnds (a := a) ho4 hg4 hat4); have KE := HE.out.1.grown hg4 (ne_some HE.out.2.2.2.1 (Nat.lt_succ_self _)); have j12 : w4.cell? ⟨o, 12, none⟩ = some ve := KE.cell 12; have jf := KE.frozen; have j10 : w4.cell? ⟨o, 10, none⟩ = some (.slice Av x.rc.length cv) := KE.cell 10; have HB4 := Lib.hid (((H4.out.alloc (Nat.le_of_lt hlt3) (.cells #[.int .i64 a] 3))).grown hg4 (by simp; omega) (fun g hg => by have := HE.out.2.2.2.1.lt g hg; omega)); clear ho4 hat4 _hn4 hg4)
    refine bodyPost_end (v := .tuple #[]) (by simp [results, Tryd.results59]) rfl ?_
    exact ⟨rfl, ⟨_, _, _, _, H5.out.clear⟩, (HB4.out.trans (below_set _ _ _ _)).trans (below_set _ _ _ _)⟩

end Go.Proofs.YtajedohgcepkiaaDoor
