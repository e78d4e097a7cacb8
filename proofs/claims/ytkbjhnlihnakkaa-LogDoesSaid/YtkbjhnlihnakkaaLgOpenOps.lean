/-
  An argument that is a list of lists of bytes. No conditions.
  An argument that is a list of numbers. No conditions.
  An argument that is a list of calls of this layer. No conditions.
-/
import Derived.Test.YtkbjhnlihnakkaaSeenAll
import Derived.Test.YtkbjhnlihnakkaaClose
import Derived.Deep.Matrix
import Derived.Test.YtkbjhnlihnakkaaFlat
import Derived.Test.YtkbjhnlihnakkaaLgTwo
import Derived.Test.YtkbjhnlihnakkaaChecked
import Derived.Lib.SmallJoins
namespace Go.Proofs.Ytkbjhnlihnakkaa
open Go.ChangeShapes Go.WideShapes Go.ChangeAt Go.RowKit

section
variable {H : Type} {enc : TypeId × Value → H} {P : Program}

def rowBytes (zs : List Int) (n : Nat) : List UInt8 := (zs.take n).map fun z => UInt8.ofNat z.toNat
theorem length_rowBytes {zs : List Int} {n : Nat} (h : n ≤ zs.length) : (rowBytes zs n).length = n := by simp [rowBytes]; omega
theorem row_seen {W : World} {a : Addr} {zs : List Int} {n : Nat} (hn : n ≤ zs.length) (hcell : ∀ i, i < zs.length → W.cell? (a.add i) = some (.int .u8 (zs.getD i 0))) (hwf : ∀ z ∈ zs, (Lit.int .u8 z).wf = true) : Seen W (some a) (rowBytes zs n) := by
  by_cases h0 : n = 0
  · subst h0; exact .inl (by simp [rowBytes])
  · obtain ⟨b, off, rfl, hc'⟩ := ints_at hcell (by omega)
    refine .inr ⟨b, off, rfl, block_of_cell (hc' 0 (by omega)), fun j hj => ?_⟩
    rw [length_rowBytes hn] at hj
    rw [hc' j (by omega)]
    have hjz : j < zs.length := by omega
    have hm := hwf zs[j] (List.getElem_mem hjz)
    have hr : 0 ≤ zs[j] ∧ zs[j] ≤ 255 := by simpa [Lit.wf, IntKind.min, IntKind.max, IntKind.signed, IntKind.bits] using hm
    have e : (rowBytes zs n)[j]'(by rw [length_rowBytes hn]; exact hj) = UInt8.ofNat zs[j].toNat := by simp [rowBytes]
    rw [e, List.getD_eq_getElem?_getD, List.getElem?_eq_getElem hjz]
    show some (Value.int .u8 zs[j]) = _
    rw [UInt8.toNat_ofNat']
    congr 2
    omega

/-- with its capacity -/
theorem open_pieces_cap {W : World} {t e q : TypeId} {v : Value} {d : DataW H} {ps : List MemPlace} (ht : P.underlying t = some (.slice e)) (he : P.underlying e = some (.slice q)) (hq : P.underlying q = some (.int .u8)) (ce : P.cellsOf e = 1) (cq : P.cellsOf q = 1)
    {r : Reach} {b0 : Nat} (hval : Value.okWide P W r b0 t v) (h : DataW.Trod enc P W 0 (fun _ => true) true t v d ps) :
    ∃ (A : Option Addr) (l : List Piece) (c : Nat), v = .slice A l.length c ∧ SeenAll W A l ∧ l.length ≤ 9223372036854775807 ∧ l.length ≤ c := by
  have hsl : ∀ cs, v.cells.toList = [cs] → v = cs := by
    obtain ⟨a, n, c, rfl⟩ := okWide_slice ht hval
    intro cs h
    simpa [Value.cells] using h
  obtain ⟨fuel, hf⟩ := h
  rcases Go.Deep.open_int_rows ht he hq ce cq hf with ⟨h1, _⟩ | ⟨a, len, cap, A, L, C, Z, h1, _, hlc, hcm, _, hrow⟩
  · obtain rfl := hsl _ h1
    exact ⟨none, [], 0, rfl, .inl rfl, by simp, by simp⟩
  · obtain rfl := hsl _ h1
    have hl : ((List.range len).map fun j => ((A j, rowBytes (Z j) (L j), C j) : Piece)).length = len := by simp
    refine ⟨some a, (List.range len).map fun j => ((A j, rowBytes (Z j) (L j), C j) : Piece), cap, by rw [hl], ?_, by rw [hl]; unfold maxLen at hcm; omega, by rw [hl]; exact hlc⟩
    by_cases h0 : len = 0
    · subst h0; exact .inl rfl
    · obtain ⟨b, off, spot⟩ := a
      have hspot : spot = none := by simpa [Addr.add] using World.cell?_spot (hrow 0 (by omega)).1
      subst hspot
      refine .inr ⟨b, off, rfl, block_of_cell (o := off) (by have := (hrow 0 (by omega)).1; rw [add_plain] at this; exact this), fun j hj => ?_⟩
      rw [hl] at hj
      obtain ⟨hc, hLC, hCm, hZ, hwf, hnone, hsome⟩ := hrow j (by omega)
      have hLZ : L j ≤ (Z j).length := by omega
      simp only [List.getElem_map, List.getElem_range]
      rw [length_rowBytes hLZ]
      rw [add_plain] at hc
      refine ⟨hc, ?_, hLC, by unfold maxLen at hCm; omega⟩
      cases hA : A j with
      | none =>
        have := hnone hA
        exact .inl (List.eq_nil_of_length_eq_zero (by rw [length_rowBytes hLZ]; omega))
      | some a' =>
        refine row_seen hLZ (fun i hi => ?_) hwf
        exact (hsome a' hA).2 i (by omega)
theorem open_pieces {W : World} {t e q : TypeId} {v : Value} {d : DataW H} {ps : List MemPlace} (ht : P.underlying t = some (.slice e)) (he : P.underlying e = some (.slice q)) (hq : P.underlying q = some (.int .u8)) (ce : P.cellsOf e = 1) (cq : P.cellsOf q = 1)
    {r : Reach} {b0 : Nat} (hval : Value.okWide P W r b0 t v) (h : DataW.Trod enc P W 0 (fun _ => true) true t v d ps) :
    ∃ (A : Option Addr) (l : List Piece) (c : Nat), v = .slice A l.length c ∧ SeenAll W A l ∧ l.length ≤ 9223372036854775807 := by
  obtain ⟨A, l, c, h1, h2, h3, _⟩ := open_pieces_cap ht he hq ce cq hval h
  exact ⟨A, l, c, h1, h2, h3⟩
end
end Go.Proofs.Ytkbjhnlihnakkaa

namespace Go.Proofs.Ytkbjhnlihnakkaa
open Go.ChangeShapes Go.WideShapes Go.ChangeAt Go.RowKit

theorem open_int_list {H : Type} {enc : TypeId × Value → H} {P : Program} {W : World} {t e : TypeId} {v : Value} {d : DataW H} {ps : List MemPlace} (ht : P.underlying t = some (.slice e)) (he : P.underlying e = some (.int .i64)) (hc : P.cellsOf e = 1)
    {r : Reach} {b0 : Nat} (hval : Value.okWide P W r b0 t v) (h : DataW.Trod enc P W 0 (fun _ => true) true t v d ps) :
    ∃ (A : Option Addr) (l : List Int) (c : Nat), v = .slice A l.length c ∧ Ints W A l ∧ l.length ≤ 9223372036854775807 ∧ ∀ x ∈ l, -9223372036854775808 ≤ x ∧ x ≤ 9223372036854775807 := by
  have hsl : ∀ cs, v.cells.toList = [cs] → v = cs := by
    obtain ⟨a, n, c, rfl⟩ := okWide_slice ht hval
    intro cs h
    simpa [Value.cells] using h
  obtain ⟨fuel, hf⟩ := h
  rcases open_ints ht he hc hf with ⟨h1, h2⟩ | ⟨a, len, cap, zs, h1, hx1, hlen, hx2, hz, h2, hcell, hwf⟩
  · obtain rfl := hsl _ h1
    exact ⟨none, [], 0, rfl, .inl rfl, by simp, by simp⟩
  · obtain rfl := hsl _ h1
    rw [if_pos rfl] at hz
    have hl : (zs.take len).length = len := by simp; omega
    refine ⟨some a, zs.take len, cap, by rw [hl], ?_, ?_, fun x hx => ?_⟩
    · by_cases h0 : len = 0
      · subst h0; exact .inl (by simp)
      · obtain ⟨b, off, rfl, hc'⟩ := ints_at hcell (by omega)
        refine .inr ⟨b, off, rfl, block_of_cell (hc' 0 (by omega)), fun j hj => ?_⟩
        rw [hl] at hj
        have hjz : j < zs.length := by omega
        rw [hc' j (by omega), List.getD_eq_getElem?_getD, List.getElem?_eq_getElem hjz, List.getElem_take]
        rfl
    · rw [hl]; unfold maxLen at *; omega
    · have hm := hwf x (List.mem_of_mem_take hx)
      simpa [Lit.wf, IntKind.min, IntKind.max, IntKind.signed, IntKind.bits] using hm
end Go.Proofs.Ytkbjhnlihnakkaa

namespace Go.Proofs.Ytkbjhnlihnakkaa
open Go.ChangeShapes Go.WideShapes Go.ChangeAt Go.RowKit

theorem ints_of_row {W : World} {a : Addr} {zs : List Int} {len : Nat} (hn : len ≤ zs.length) (hcell : ∀ i, i < zs.length → W.cell? (a.add i) = some (.int .i64 (zs.getD i 0))) : Ints W (some a) (zs.take len) := by
  have hl : (zs.take len).length = len := by simp; omega
  by_cases h0 : len = 0
  · subst h0; exact .inl (by simp)
  · obtain ⟨b, off, rfl, hc'⟩ := ints_at hcell (by omega)
    refine .inr ⟨b, off, rfl, block_of_cell (hc' 0 (by omega)), fun j hj => ?_⟩
    rw [hl] at hj
    have hjz : j < zs.length := by omega
    rw [hc' j (by omega), List.getD_eq_getElem?_getD, List.getElem?_eq_getElem hjz, List.getElem_take]
    rfl
theorem six_of {α : Type} {cs : List α} (h : cs.length = 6) : ∃ a b c d e f, cs = [a, b, c, d, e, f] := by
  match cs, h with
  | [a, b, c, d, e, f], _ => exact ⟨a, b, c, d, e, f, rfl⟩

section
variable {H : Type} {enc : TypeId × Value → H} {W : World}
theorem trod_struct6 {P : Program} {w : World} {base : Nat} {spare : Nat → Bool} {held : Bool} {t : TypeId} {f0 f1 f2 f3 f4 f5 : Field} {fuel : Nat} {cs : List Value} {x : DataW H × List MemPlace} (ht : P.underlying t = some (.struct #[f0, f1, f2, f3, f4, f5])) (h : DataW.trod enc P w base spare held fuel t cs = some x) :
    ∃ y0 y1 y2 y3 y4 y5 n, cs.length = P.cellsOf t ∧ DataW.trod enc P w base spare held n f0.type ((cs.drop f0.offset).take (P.cellsOf f0.type)) = some y0 ∧
      DataW.trod enc P w base spare held n f1.type ((cs.drop f1.offset).take (P.cellsOf f1.type)) = some y1 ∧ DataW.trod enc P w base spare held n f2.type ((cs.drop f2.offset).take (P.cellsOf f2.type)) = some y2 ∧
      DataW.trod enc P w base spare held n f3.type ((cs.drop f3.offset).take (P.cellsOf f3.type)) = some y3 ∧ DataW.trod enc P w base spare held n f4.type ((cs.drop f4.offset).take (P.cellsOf f4.type)) = some y4 ∧
      DataW.trod enc P w base spare held n f5.type ((cs.drop f5.offset).take (P.cellsOf f5.type)) = some y5 := by
  obtain ⟨xs, n, _, rfl, hl, hlen, hf⟩ := DataW.trod_struct ht h
  obtain ⟨y0, y1, y2, y3, y4, y5, rfl⟩ := six_of hlen
  exact ⟨y0, y1, y2, y3, y4, y5, n, hl, by simpa using hf 0 f0 rfl, by simpa using hf 1 f1 rfl, by simpa using hf 2 f2 rfl, by simpa using hf 3 f3 rfl, by simpa using hf 4 f4 rfl, by simpa using hf 5 f5 rfl⟩
theorem int_of_trod {n : Nat} {v : Value} {y : DataW H × List MemPlace} (h : DataW.trod enc Try.prog W 0 (fun _ => true) true n 3 [v] = some y) : ∃ z : Int, v = .int .i64 z ∧ IntOk z := by
  obtain ⟨z, hz, _, wz⟩ := DataW.trod_int Try.underlying3 h
  injection hz with hz _
  exact ⟨z, hz, by simpa [IntOk, Lit.wf, IntKind.min, IntKind.max, IntKind.signed, IntKind.bits] using wz⟩
/-- one call -/
theorem open_qop {n : Nat} {cs : List Value} {y : DataW H × List MemPlace} (h : DataW.trod enc Try.prog W 0 (fun _ => true) true n 36 cs = some y) :
    ∃ o : QOp, cs = qcells o ∧ QOk W o := by
  obtain ⟨y0, y1, y2, y3, y4, y5, m, hl, h0, h1, h2, h3, h4, h5⟩ := trod_struct6 Try.underlying36 h
  have hl6 : cs.length = 6 := by rw [hl]; kernel_rfl
  obtain ⟨v0, v1, v2, v3, v4, v5, rfl⟩ := six_of hl6
  have ci : Try.prog.cellsOf 3 = 1 := by kernel_rfl
  have cb : Try.prog.cellsOf 22 = 1 := by kernel_rfl
  have cp : Try.prog.cellsOf 34 = 1 := by kernel_rfl
  have c8 : Try.prog.cellsOf 5 = 1 := by kernel_rfl
  simp only [ci, cb, cp, List.drop_zero, List.take_succ_cons, List.take_zero, List.drop_succ_cons] at h0 h1 h2 h3 h4 h5
  obtain ⟨z0, rfl, b0⟩ := int_of_trod h0
  obtain ⟨z1, rfl, b1⟩ := int_of_trod h1
  obtain ⟨z2, rfl, b2⟩ := int_of_trod h2
  obtain ⟨z3, rfl, b3⟩ := int_of_trod h3
  obtain ⟨q, hq1, hq2, hq3⟩ : ∃ q : Piece, v4 = pv q ∧ Seen W q.1 q.2.1 ∧ q.2.1.length ≤ 9223372036854775807 := by
    rcases open_ints Try.underlying22 Try.underlying5 c8 h4 with ⟨e, _⟩ | ⟨a, len, cap, zs, e, _, hlen, hcm, hzl, _, hcell, hwf⟩
    · injection e with e _
      exact ⟨(none, [], 0), e, .inl rfl, by simp⟩
    · injection e with e _
      rw [if_pos rfl] at hzl
      have hn : len ≤ zs.length := by omega
      have hlr := length_rowBytes hn
      refine ⟨(some a, rowBytes zs len, cap), ?_, row_seen hn hcell hwf, ?_⟩
      · unfold pv; rw [hlr]; exact e
      · show (rowBytes zs len).length ≤ _; rw [hlr]; unfold maxLen at hcm; omega
  obtain ⟨A3, l3, c3, e3, s3, n3, b5⟩ : ∃ (A : Option Addr) (l : List Int) (c : Nat), v5 = .slice A l.length c ∧ Ints W A l ∧ l.length ≤ 9223372036854775807 ∧ ∀ x ∈ l, IntOk x := by
    rcases open_ints Try.underlying34 Try.underlying3 ci h5 with ⟨e, _⟩ | ⟨a, len, cap, zs, e, _, hlen, hcm, hzl, _, hcell, hwf⟩
    · injection e with e _
      exact ⟨none, [], 0, e, .inl rfl, by simp, by simp⟩
    · injection e with e _
      rw [if_pos rfl] at hzl
      have hn : len ≤ zs.length := by omega
      have hl : (zs.take len).length = len := by simp; omega
      refine ⟨some a, zs.take len, cap, by rw [hl]; exact e, ints_of_row hn hcell, by rw [hl]; unfold maxLen at hcm; omega, fun x hx => ?_⟩
      have hm := hwf x (List.mem_of_mem_take hx)
      simpa [IntOk, Lit.wf, IntKind.min, IntKind.max, IntKind.signed, IntKind.bits] using hm
  exact ⟨(z0, z1, z2, z3, q, A3, l3, c3), by rw [hq1, e3]; rfl, ⟨b0, b1, b2, b3⟩, ⟨hq2, hq3⟩, s3, n3, b5⟩

set_option maxRecDepth 100000 in
theorem open_qops {v : Value} {d : DataW H} {ps : List MemPlace} {r : Reach} {b0 : Nat} (hval : Value.okWide Try.prog W r b0 23 v) (h : DataW.Trod enc Try.prog W 0 (fun _ => true) true 23 v d ps) :
    ∃ (A : Option Addr) (l : List QOp) (c : Nat), v = .slice A l.length c ∧ QsSeen W A l ∧ l.length ≤ 9223372036854775807 := by
  have hsl : ∀ cs, v.cells.toList = [cs] → v = cs := by
    obtain ⟨a, n, c, rfl⟩ := okWide_slice Try.underlying23 hval
    intro cs h
    simpa [Value.cells] using h
  obtain ⟨fuel, hf⟩ := h
  have c6 : Try.prog.cellsOf 36 = 6 := by kernel_rfl
  rcases DataW.trod_slice Try.underlying23 hf with ⟨h1, _⟩ | ⟨a, len, cap, elems, rest, n, _, h1, _, _, hlc, hcm, hlen, hel, _⟩
  · obtain rfl := hsl _ h1
    exact ⟨none, [], 0, rfl, .inl rfl, by simp⟩
  · obtain rfl := hsl _ h1
    have each : ∀ i, i < len → ∃ o : QOp, W.cells? 0 (a.add (i * 6)) 6 = some (qcells o) ∧ QOk W o := by
      intro i hi
      have := hel i hi
      rw [c6, List.getElem?_eq_getElem (by omega)] at this
      obtain ⟨cs, hcs, hy⟩ := Option.bind_eq_some_iff.1 this
      obtain ⟨o, rfl, ho⟩ := open_qop hy
      exact ⟨o, hcs, ho⟩
    obtain ⟨f, hfo⟩ := Go.Deep.choose_lt each
    have hl : ((List.range len).map f).length = len := by simp
    refine ⟨some a, (List.range len).map f, cap, by rw [hl], ?_, by rw [hl]; unfold maxLen at hcm; omega⟩
    by_cases h0 : len = 0
    · subst h0; exact .inl rfl
    · obtain ⟨b, off, spot⟩ := a
      have hspot : spot = none := by
        have := (World.cells?_some (hfo 0 (by omega)).1).2.2 0 (by decide)
        simpa [Addr.add, qcells] using World.cell?_spot this
      subst hspot
      have hc : ∀ i, i < len → ∀ j, j < 6 → W.cell? ⟨b, off + i * 6 + j, none⟩ = (qcells (f i))[j]? := fun i hi j hj => by
        have := (World.cells?_some (hfo i hi).1).2.2 j hj
        rwa [add_plain, add_plain] at this
      refine .inr ⟨b, off, rfl, block_of_cell (o := off + 0 * 6 + 0) (hc 0 (by omega) 0 (by decide)), fun j hj => ?_⟩
      rw [hl] at hj
      simp only [List.getElem_map, List.getElem_range]
      exact ⟨fun i hi => hc j hj i hi, (hfo j hj).2⟩
end
end Go.Proofs.Ytkbjhnlihnakkaa
