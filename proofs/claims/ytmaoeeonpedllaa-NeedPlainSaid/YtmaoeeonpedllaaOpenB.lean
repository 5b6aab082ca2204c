/-
  How slices of bytes are opened, and slices of them.
-/
import Derived.Test.YtmaoeeonpedllaaRows
import Derived.Test.YtmaoeeonpedllaaOpenA
import Derived.Test.YtmaoeeonpedllaaMem
import Derived.Deep.Matrix
namespace Go.Proofs.Ytmaoeeonpedllaa
open Go.ChangeShapes Go.WideShapes Go.ChangeAt Go.RowKit Go.Joins

def textOf (l : List Int) : ByteArray := ⟨(l.map toB).toArray⟩
theorem textOf_size (l : List Int) : (textOf l).size = l.length := by
  show (l.map toB).toArray.size = _
  simp
theorem textOf_byt (l : List Int) (h : ∀ n ∈ l, (Lit.int .u8 n).wf = true) (j : Nat) (hj : j < l.length) : byt (textOf l) j = l.getD j 0 := by
  rw [byt_list]
  unfold textOf
  rw [List.getElem?_map, List.getElem?_eq_getElem hj]
  have hb := bounds_u8 (h l[j] (List.getElem_mem hj))
  simp only [Option.map_some, Option.getD_some]
  rw [toB_toNat _ (by omega) (by omega)]
  simp [List.getD, List.getElem?_eq_getElem hj]

/-- Numbers in a slice as a text. -/
theorem ints_txt {w : World} {a : Addr} {len cap : Nat} {zs : List Int} (hl : len ≤ cap) (hm : cap ≤ maxLen) (hz : zs.length = cap) (hc : ∀ i, i < zs.length → w.cell? (a.add i) = some (.int .u8 (zs.getD i 0))) (hw : ∀ n ∈ zs, (Lit.int .u8 n).wf = true) :
    Txt w w.heap.size (some a) len cap (textOf (zs.take len)) := by
  have hlen : (zs.take len).length = len := by rw [List.length_take]; omega
  refine ⟨by rw [textOf_size, hlen], hl, hm, (fun h => by cases h), fun a' ha h0 => ?_⟩
  cases ha
  refine ⟨?_, fun j hj => ?_⟩
  · have := World.block_lt_of_cell? w _ (hc 0 (by omega))
    rw [add_block] at this
    exact this
  · rw [hc j (by omega), textOf_byt _ (fun n hn => hw n (List.mem_of_mem_take hn)) j (by omega)]
    simp only [List.getD_eq_getElem?_getD, List.getElem?_take, if_pos hj]

theorem weigh_one {H : Type} {enc : TypeId × Value → H} {P : Program} {f : Func} {W : World} {base : Nat} {args : Array Value} {ds : List (DataW H)} {ps : List MemPlace} {t : TypeId}
    (hp : f.params = #[t]) (h : Handed enc P f W base args ds ps) : ∃ v d p, args = #[v] ∧ Value.okWide P W .any base t v ∧ DataW.Trod enc P W 0 (fun _ => true) true t v d p ∧ ∀ n ∈ d.weights P t, n ≤ 140737488351232 := by
  have hr := fun (d : DataW H) => h.reach (j := 0) (t := t) (d := d) (by rw [hp]; rfl)
  obtain ⟨hval, hA, _⟩ := h
  rw [hp] at hA hval
  obtain ⟨v, d, rfl, rfl, h0⟩ := trodAll_one hA
  exact ⟨v, d, ps, rfl, hval 0 t v rfl rfl, h0, hr _ rfl⟩

theorem weigh_two {H : Type} {enc : TypeId × Value → H} {P : Program} {f : Func} {W : World} {base : Nat} {args : Array Value} {ds : List (DataW H)} {ps : List MemPlace} {t t' : TypeId}
    (hp : f.params = #[t, t']) (h : Handed enc P f W base args ds ps) : ∃ v v' d d' p p', args = #[v, v'] ∧ (Value.okWide P W .any base t v ∧ DataW.Trod enc P W 0 (fun _ => true) true t v d p ∧ ∀ n ∈ d.weights P t, n ≤ 140737488351232) ∧
      (Value.okWide P W .any base t' v' ∧ DataW.Trod enc P W 0 (fun _ => true) true t' v' d' p' ∧ ∀ n ∈ d'.weights P t', n ≤ 140737488351232) := by
  have hr := fun (d : DataW H) => h.reach (j := 0) (t := t) (d := d) (by rw [hp]; rfl)
  have hr' := fun (d : DataW H) => h.reach (j := 1) (t := t') (d := d) (by rw [hp]; rfl)
  obtain ⟨hval, hA, _⟩ := h
  rw [hp] at hA hval
  obtain ⟨v0, v1, d0, d1, p0, p1, rfl, rfl, _, h0, h1⟩ := trodAll_two hA
  exact ⟨v0, v1, d0, d1, p0, p1, rfl, ⟨hval 0 t v0 rfl rfl, h0, hr _ rfl⟩, ⟨hval 1 t' v1 rfl rfl, h1, hr' _ rfl⟩⟩

theorem bytes_u8 : Try.prog.bytesOf 5 = 1 := by kernel_rfl

theorem open_bytes {H : Type} {enc : TypeId × Value → H} {W : World} {base : Nat} {v : Value} {d : DataW H} {p : List MemPlace}
    (hv : Value.okWide Try.prog W .any base 40 v) (h : DataW.Trod enc Try.prog W 0 (fun _ => true) true 40 v d p) (hw : ∀ n ∈ d.weights Try.prog 40, n ≤ 140737488351232) :
    ∃ A c s, v = .slice A s.size c ∧ Txt W W.heap.size A s.size c s ∧ c ≤ 140737488351232 := by
  obtain ⟨A, len, cap, rfl⟩ := okWide_slice Try.underlying40 hv
  obtain ⟨fuel, hf⟩ := h
  rcases open_ints Try.underlying40 Try.underlying5 (by kernel_rfl) hf with ⟨hcs, _⟩ | ⟨a, len', cap', zs, hcs, _, hl, hm, hz, hx, hcell, hwz⟩
  · simp [Value.cells] at hcs
    obtain ⟨rfl, rfl, rfl⟩ := hcs
    exact ⟨none, 0, ⟨#[]⟩, rfl, Txt.nil _ _, by omega⟩
  · simp [Value.cells] at hcs
    obtain ⟨rfl, rfl, rfl⟩ := hcs
    simp only [if_true] at hz
    simp only [Prod.mk.injEq] at hx
    have hc : cap ≤ 140737488351232 := by
      have h1 := hw ((lits (H := H) .u8 (zs.take len)).length + (lits (H := H) .u8 (zs.drop len)).length |> (· * Try.prog.bytesOf 5)) (by rw [hx.1]; simp [DataW.weights, Try.underlying40])
      simp only [bytes_u8, lits, List.length_map, List.length_take, List.length_drop] at h1
      omega
    have ht := ints_txt hl hm hz hcell hwz
    have hs := ht.1
    refine ⟨some a, cap, textOf (zs.take len), by rw [← hs], ?_, hc⟩
    rw [← hs]
    exact ht

theorem weightsAll_mem {H : Type} {P : Program} {e : TypeId} : ∀ {l : List (DataW H)} {d : DataW H}, d ∈ l → ∀ n ∈ d.weights P e, n ∈ DataW.weightsAll P e l
  | d' :: r, d, hd, n, hn => by
    simp only [DataW.weightsAll, List.mem_append]
    rcases List.mem_cons.1 hd with rfl | h
    · exact .inl hn
    · exact .inr (weightsAll_mem h n hn)

end Go.Proofs.Ytmaoeeonpedllaa
