/-
  How slices of bytes are opened, and slices of them.
-/
import Derived.Test.YtnmcbilnebfcfaaRows
import Derived.Test.YtnmcbilnebfcfaaOpenA
import Derived.Test.YtnmcbilnebfcfaaMem
import Derived.Deep.Matrix
namespace Go.Proofs.Ytnmcbilnebfcfaa
open Go.ChangeShapes Go.WideShapes Go.ChangeAt Go.RowKit Go.Joins

def textOf (l : List Int) : ByteArray := ⟨(l.map toB).toArray⟩
theorem textOf_size (l : List Int) : (textOf l).size = l.length := by
  show (l.map toB).toArray.size = _
  simp
theorem textOf_byt (l : List Int) (h : ∀ n ∈ l, (Lit.int .u8 n).wf = true) (j : Nat) (hj : j < l.length) : byt (textOf l) j = l.getD j 0 := by
  rw [byt_list]
  unfold textOf
  rw [List.getElem?_map, List.getElem?_eq_getElem hj]
  have hb := bounds_u8 (h l[j] (List.getElem_mem hj))
  simp only [Option.map_some, Option.getD_some]
  rw [toB_toNat _ (by omega) (by omega)]
  simp [List.getD, List.getElem?_eq_getElem hj]

/-- Numbers in a slice as a text. -/
theorem ints_txt {w : World} {a : Addr} {len cap : Nat} {zs : List Int} (hl : len ≤ cap) (hm : cap ≤ maxLen) (hz : zs.length = cap) (hc : ∀ i, i < zs.length → w.cell? (a.add i) = some (.int .u8 (zs.getD i 0))) (hw : ∀ n ∈ zs, (Lit.int .u8 n).wf = true) :
    Txt w w.heap.size (some a) len cap (textOf (zs.take len)) := by
  have hlen : (zs.take len).length = len := by rw [List.length_take]; omega
  refine ⟨by rw [textOf_size, hlen], hl, hm, (fun h => by cases h), fun a' ha h0 => ?_⟩
  cases ha
  refine ⟨?_, fun j hj => ?_⟩
  · have := World.block_lt_of_cell? w _ (hc 0 (by omega))
    rw [add_block] at this
    exact this
  · rw [hc j (by omega), textOf_byt _ (fun n hn => hw n (List.mem_of_mem_take hn)) j (by omega)]
    simp only [List.getD_eq_getElem?_getD, List.getElem?_take, if_pos hj]

theorem weigh_one {H : Type} {enc : TypeId × Value → H} {P : Program} {f : Func} {W : World} {base : Nat} {args : Array Value} {ds : List (DataW H)} {ps : List MemPlace} {t : TypeId}
    (hp : f.params = #[t]) (h : Handed enc P f W base args ds ps) : ∃ v d p, args = #[v] ∧ Value.okWide P W .any base t v ∧ DataW.Trod enc P W 0 (fun _ => true) true t v d p ∧ ∀ n ∈ d.weights P t, n ≤ 140737488351232 := by
  have hr := fun (d : DataW H) => h.reach (j := 0) (t := t) (d := d) (by rw [hp]; rfl)
  obtain ⟨hval, hA, _⟩ := h
  rw [hp] at hA hval
  obtain ⟨v, d, rfl, rfl, h0⟩ := trodAll_one hA
  exact ⟨v, d, ps, rfl, hval 0 t v rfl rfl, h0, hr _ rfl⟩

theorem weigh_two {H : Type} {enc : TypeId × Value → H} {P : Program} {f : Func} {W : World} {base : Nat} {args : Array Value} {ds : List (DataW H)} {ps : List MemPlace} {t t' : TypeId}
    (hp : f.params = #[t, t']) (h : Handed enc P f W base args ds ps) : ∃ v v' d d' p p', args = #[v, v'] ∧ (Value.okWide P W .any base t v ∧ DataW.Trod enc P W 0 (fun _ => true) true t v d p ∧ ∀ n ∈ d.weights P t, n ≤ 140737488351232) ∧
      (Value.okWide P W .any base t' v' ∧ DataW.Trod enc P W 0 (fun _ => true) true t' v' d' p' ∧ ∀ n ∈ d'.weights P t', n ≤ 140737488351232) := by
  have hr := fun (d : DataW H) => h.reach (j := 0) (t := t) (d := d) (by rw [hp]; rfl)
  have hr' := fun (d : DataW H) => h.reach (j := 1) (t := t') (d := d) (by rw [hp]; rfl)
  obtain ⟨hval, hA, _⟩ := h
  rw [hp] at hA hval
  obtain ⟨v0, v1, d0, d1, p0, p1, rfl, rfl, _, h0, h1⟩ := trodAll_two hA
  exact ⟨v0, v1, d0, d1, p0, p1, rfl, ⟨hval 0 t v0 rfl rfl, h0, hr _ rfl⟩, ⟨hval 1 t' v1 rfl rfl, h1, hr' _ rfl⟩⟩

theorem bytes_u8 : Try.prog.bytesOf 5 = 1 := by kernel_rfl

theorem open_bytes {H : Type} {enc : TypeId × Value → H} {W : World} {base : Nat} {v : Value} {d : DataW H} {p : List MemPlace}
    (hv : Value.okWide Try.prog W .any base 31 v) (h : DataW.Trod enc Try.prog W 0 (fun _ => true) true 31 v d p) (hw : ∀ n ∈ d.weights Try.prog 31, n ≤ 140737488351232) :
    ∃ A c s, v = .slice A s.size c ∧ Txt W W.heap.size A s.size c s ∧ c ≤ 140737488351232 := by
  obtain ⟨A, len, cap, rfl⟩ := okWide_slice Try.underlying31 hv
  obtain ⟨fuel, hf⟩ := h
  rcases open_ints Try.underlying31 Try.underlying5 (by kernel_rfl) hf with ⟨hcs, _⟩ | ⟨a, len', cap', zs, hcs, _, hl, hm, hz, hx, hcell, hwz⟩
  · simp [Value.cells] at hcs
    obtain ⟨rfl, rfl, rfl⟩ := hcs
    exact ⟨none, 0, ⟨#[]⟩, rfl, Txt.nil _ _, by omega⟩
  · simp [Value.cells] at hcs
    obtain ⟨rfl, rfl, rfl⟩ := hcs
    simp only [if_true] at hz
    simp only [Prod.mk.injEq] at hx
    have hc : cap ≤ 140737488351232 := by
      have h1 := hw ((lits (H := H) .u8 (zs.take len)).length + (lits (H := H) .u8 (zs.drop len)).length |> (· * Try.prog.bytesOf 5)) (by rw [hx.1]; simp [DataW.weights, Try.underlying31])
      simp only [bytes_u8, lits, List.length_map, List.length_take, List.length_drop] at h1
      omega
    have ht := ints_txt hl hm hz hcell hwz
    have hs := ht.1
    refine ⟨some a, cap, textOf (zs.take len), by rw [← hs], ?_, hc⟩
    rw [← hs]
    exact ht

theorem weightsAll_mem {H : Type} {P : Program} {e : TypeId} : ∀ {l : List (DataW H)} {d : DataW H}, d ∈ l → ∀ n ∈ d.weights P e, n ∈ DataW.weightsAll P e l
  | d' :: r, d, hd, n, hn => by
    simp only [DataW.weightsAll, List.mem_append]
    rcases List.mem_cons.1 hd with rfl | h
    · exact .inl hn
    · exact .inr (weightsAll_mem h n hn)

theorem open_pieces {H : Type} {enc : TypeId × Value → H} {W : World} {base : Nat} {v : Value} {d : DataW H} {p : List MemPlace} (hv : Value.okWide Try.prog W .any base 28 v) (h : DataW.Trod enc Try.prog W 0 (fun _ => true) true 28 v d p) (hw : ∀ n ∈ d.weights Try.prog 28, n ≤ 140737488351232) : ∃ (a : Option Addr) (len cap : Nat) (T : Nat → ByteArray), v = .slice a len cap ∧ len ≤ cap ∧ cap ≤ maxLen ∧ ∀ r, r < len → ∃ ad A c, a = some ad ∧ W.cell? (ad.add r) = some (.slice A (T r).size c) ∧ Txt W W.heap.size A (T r).size c (T r) ∧ c ≤ 140737488351232 := by
  obtain ⟨a, len, cap, rfl⟩ := okWide_slice Try.underlying28 hv
  obtain ⟨fuel, hf⟩ := h
  rcases Go.Deep.open_int_rows Try.underlying28 Try.underlying31 Try.underlying5 (by kernel_rfl) (by kernel_rfl) hf with ⟨hcs, _⟩ | ⟨a', len', cap', A, L, C, Z, hcs, _, hl, hm, hx, hrows⟩
  · simp [Value.cells] at hcs
    obtain ⟨rfl, rfl, rfl⟩ := hcs
    exact ⟨none, 0, 0, fun _ => ⟨#[]⟩, rfl, Nat.le_refl _, Nat.zero_le _, fun r hr => absurd hr (by omega)⟩
  · simp [Value.cells] at hcs
    obtain ⟨rfl, rfl, rfl⟩ := hcs
    simp only [Prod.mk.injEq] at hx
    refine ⟨some a', len, cap, fun r => textOf ((Z r).take (L r)), rfl, hl, hm, fun r hr => ?_⟩
    obtain ⟨h1, h2, h3, h4, h5, h6, h7⟩ := hrows r (by omega)
    have hsz : (textOf ((Z r).take (L r))).size = L r := by rw [textOf_size, List.length_take]; omega
    have hc : C r ≤ 140737488351232 := by
      cases hA : A r with
      | none => rw [h6 hA]; omega
      | some ad =>
        have hmem : Go.Deep.intRow (H := H) .u8 (A r) (L r) (Z r) ∈ (List.range len).map fun r => Go.Deep.intRow (H := H) .u8 (A r) (L r) (Z r) := List.mem_map.2 ⟨r, List.mem_range.2 hr, rfl⟩
        have h8 := weightsAll_mem (P := Try.prog) (e := 31) hmem
        rw [hA] at h8
        have h9 := hw (((lits (H := H) .u8 ((Z r).take (L r))).length + (lits (H := H) .u8 ((Z r).drop (L r))).length) * Try.prog.bytesOf 5) (by
          rw [hx.1]
          simp only [DataW.weights, Try.underlying28, List.mem_cons, List.mem_append]
          exact .inr (.inl (h8 _ (by simp [Go.Deep.intRow, DataW.weights, Try.underlying31]))))
        simp only [bytes_u8, lits, List.length_map, List.length_take, List.length_drop] at h9
        omega
    refine ⟨a', A r, C r, rfl, by rw [hsz]; exact h1, ?_, hc⟩
    rw [hsz]
    cases hA : A r with
    | none => exact ⟨hsz.symm, h2, h3, fun _ => h6 hA, fun _ hx => by cases hx⟩
    | some ad => exact ints_txt h2 h3 h4 (fun i hi => (h7 ad hA).2 i (by omega)) h5
end Go.Proofs.Ytnmcbilnebfcfaa
