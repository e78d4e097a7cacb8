/-
  From a walk to a row: what every law of this seat shares. A law answers true and leaves what was there as it was; its arguments are numbers, bytes and texts. No conditions of its own.
-/
import Derived.Test.YtnbghhdbpjgcjaaMem
import Derived.ProofKit
import Derived.OpenShut
import Derived.Carry
import Derived.SizedLaws
namespace Go.Proofs.Ytnbghhdbpjgcjaa
open Go.ChangeShapes Go.WideShapes Go.ChangeAt Go.RowKit

section
variable {H : Type} {enc : TypeId × Value → H} {P : Program}

theorem trodAll_stays (hl : laidOutB P = true) {W W' : World} (hb : Below W.heap.size W W') :
    ∀ {ts : List TypeId} {vs : List Value} {ds : List (DataW H)} {ps : List MemPlace}, (∀ t ∈ ts, P.readableRec t = true ∧ t < P.types.size) → (∀ x ∈ ps, x.block < W.heap.size) →
      DataW.TrodAll enc P W 0 (fun _ => true) true ts vs ds ps → DataW.TrodAll enc P W' 0 (fun b => decide (b < W.heap.size)) true ts vs ds ps
  | [], vs, ds, ps, _, _, h => by
    obtain ⟨rfl, rfl, rfl⟩ := trodAll_nil h
    exact trodAll_mk0
  | t :: ts, vs, ds, ps, ht, hlt, h => by
    obtain ⟨v, vs', d, ds', p, q, rfl, rfl, rfl, h1, h2⟩ := trodAll_cons h
    have ht0 := ht t (by simp)
    exact trodAll_cons_mk (Below.trod hl ht0.1 ht0.2 h1 hb (fun x hx => hlt x (by simp [hx]))) (trodAll_stays hl hb (fun t h => ht t (by simp [h])) (fun x hx => hlt x (by simp [hx])) h2)

/-- A law's end: true, and the arguments as they were. -/
theorem law_post {f : Func} {s : ChangeSpec} {tb : TypeId} (hvars : s.vars = []) (hres : f.resultTypes = #[tb]) (htb : P.underlying tb = some .bool) (hl : laidOutB P = true) (hread : ∀ t ∈ f.params.toList, P.readableRec t = true ∧ t < P.types.size)
    {W W' : World} {args : Array Value} {ds gs : List (DataW H)} {before : List MemPlace} (hW : DataW.Whole enc P f.params.toList s.vars false W args.toList ds gs before)
    (hfn : s.fn H (ds ++ gs) = { results := [.lit (.bool true)], args := ds }) (hb : Below W.heap.size W W') : s.post enc P f false true false false W args (.bool true) W' := by
  have hlt : ∀ p ∈ before, p.block < W.heap.size := fun p hp => hW.lt p hp
  have hW' := hW
  obtain ⟨p, q, hA, hV, rfl, _, _⟩ := hW
  rw [hvars] at hV
  obtain ⟨rfl, rfl⟩ := trodVars_none hV
  refine ⟨ds, [], _, [], p, [], hW', ?_, ?_, ?_, World.keptBut_mono (fun x hx => ⟨hx, ?_⟩) (hb.frame (· ∈ p ++ [])), fun h => by cases h⟩
  · rw [hfn, hres]
    exact trodAll_cons_mk (shut_bool htb _) trodAll_mk0
  · rw [hfn]
    exact trodAll_stays hl hb hread (fun x hx => hlt x (by simp [hx])) hA
  · rw [hfn, hvars]
    rfl
  · simpa using hx

theorem block_of_cell {w : World} {b o : Nat} {v : Value} (h : w.cell? ⟨b, o, none⟩ = some v) : b < w.heap.size := by
  rcases Nat.lt_or_ge b w.heap.size with hlt | hge
  · exact hlt
  · have hn : w.heap[b]? = none := Array.getElem?_eq_none hge
    simp [World.cell?, hn] at h

/-- An argument of bytes; its capacity. -/
theorem open_bytes_cap {W : World} {t e : TypeId} {v : Value} {d : DataW H} {ps : List MemPlace} (ht : P.underlying t = some (.slice e)) (he : P.underlying e = some (.int .u8)) (hc : P.cellsOf e = 1)
    {r : Reach} {b0 : Nat} (hval : Value.okWide P W r b0 t v) (h : DataW.Trod enc P W 0 (fun _ => true) true t v d ps) :
    ∃ A l c, v = .slice A l.length c ∧ Seen W A l ∧ ((d = .nil ∧ l = []) ∨ ∃ elems spare, d = .slice elems spare ∧ elems.length = l.length) ∧ l.length ≤ c := by
  have hsl : ∀ cs, v.cells.toList = [cs] → v = cs := by
    obtain ⟨a, n, c, rfl⟩ := okWide_slice ht hval
    intro cs h
    simpa [Value.cells] using h
  obtain ⟨fuel, hf⟩ := h
  rcases open_ints ht he hc hf with ⟨h1, h2⟩ | ⟨a, len, cap, zs, h1, _, hlen, _, hz, h2, hcell, hwf⟩
  · obtain rfl := hsl _ h1
    injection h2 with h2 _
    exact ⟨none, [], 0, rfl, .inl rfl, .inl ⟨h2, rfl⟩, Nat.le_refl _⟩
  · obtain rfl := hsl _ h1
    injection h2 with h2 _
    rw [if_pos rfl] at hz
    have hl : ((zs.take len).map fun z => UInt8.ofNat z.toNat).length = len := by simp; omega
    refine ⟨some a, (zs.take len).map fun z => UInt8.ofNat z.toNat, cap, by rw [hl], ?_, .inr ⟨_, _, h2, by simp [lits]⟩, by rw [hl]; exact hlen⟩
    by_cases h0 : len = 0
    · subst h0; exact .inl (by simp)
    · obtain ⟨b, off, rfl, hc'⟩ := ints_at hcell (by omega)
      refine .inr ⟨b, off, rfl, block_of_cell (hc' 0 (by omega)), fun j hj => ?_⟩
      rw [hl] at hj
      rw [hc' j (by omega)]
      have hjz : j < zs.length := by omega
      have hm := hwf zs[j] (List.getElem_mem hjz)
      have hr : 0 ≤ zs[j] ∧ zs[j] ≤ 255 := by simpa [Lit.wf, IntKind.min, IntKind.max, IntKind.signed, IntKind.bits] using hm
      have e : (List.map (fun z : Int => UInt8.ofNat z.toNat) (zs.take len))[j]'(by rw [hl]; exact hj) = UInt8.ofNat zs[j].toNat := by simp
      rw [e, List.getD_eq_getElem?_getD, List.getElem?_eq_getElem hjz]
      show some (Value.int .u8 zs[j]) = _
      rw [UInt8.toNat_ofNat']
      congr 2
      omega

/-- An argument of bytes. -/
theorem open_bytes {W : World} {t e : TypeId} {v : Value} {d : DataW H} {ps : List MemPlace} (ht : P.underlying t = some (.slice e)) (he : P.underlying e = some (.int .u8)) (hc : P.cellsOf e = 1)
    {r : Reach} {b0 : Nat} (hval : Value.okWide P W r b0 t v) (h : DataW.Trod enc P W 0 (fun _ => true) true t v d ps) :
    ∃ A l c, v = .slice A l.length c ∧ Seen W A l ∧ ((d = .nil ∧ l = []) ∨ ∃ elems spare, d = .slice elems spare ∧ elems.length = l.length) := by
  obtain ⟨A, l, c, h1, h2, h3, _⟩ := open_bytes_cap ht he hc hval h
  exact ⟨A, l, c, h1, h2, h3⟩

/-- An argument of bytes takes at most as many bytes as the form's own reach says. -/
theorem bytes_reach {ts : List TypeId} {ds : List (DataW H)} {j : Nat} {t e : TypeId} {l : List UInt8} {d : DataW H} (h : (DataW.weightsEach P ts ds).all (· ≤ reachBytes) = true) (ht : ts[j]? = some t) (hd : ds[j]? = some d) (hu : P.underlying t = some (.slice e)) (hby : P.bytesOf e = 1)
    (hl : (d = .nil ∧ l = []) ∨ ∃ elems spare, d = .slice elems spare ∧ elems.length = l.length) : l.length ≤ 140737488351232 := by
  rcases hl with ⟨_, rfl⟩ | ⟨elems, spare, rfl, he⟩
  · simp
  · have := sized_slice h ht hd hu
    rw [hby] at this
    have e : reachBytes = 140737488351232 := by decide
    omega
end
end Go.Proofs.Ytnbghhdbpjgcjaa
