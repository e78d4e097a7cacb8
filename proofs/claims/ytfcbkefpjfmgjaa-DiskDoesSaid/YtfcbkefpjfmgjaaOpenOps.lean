/-
  An argument that is a list of calls. No conditions.
-/
import Derived.Test.YtfcbkefpjfmgjaaOps
import Derived.Test.YtfcbkefpjfmgjaaChecked
import Derived.Test.YtfcbkefpjfmgjaaOpenInts
import Derived.Test.YtfcbkefpjfmgjaaOpenPieces
import Derived.Lib.SmallJoins
namespace Go.Proofs.Ytfcbkefpjfmgjaa
open Go.ChangeShapes Go.WideShapes Go.ChangeAt Go.RowKit

theorem ints_of_row {W : World} {a : Addr} {zs : List Int} {len : Nat} (hn : len ≤ zs.length) (hcell : ∀ i, i < zs.length → W.cell? (a.add i) = some (.int .i64 (zs.getD i 0))) : Ints W (some a) (zs.take len) := by
  have hl : (zs.take len).length = len := by simp; omega
  by_cases h0 : len = 0
  · subst h0; exact .inl (by simp)
  · obtain ⟨b, off, rfl, hc'⟩ := ints_at hcell (by omega)
    refine .inr ⟨b, off, rfl, block_of_cell (hc' 0 (by omega)), fun j hj => ?_⟩
    rw [hl] at hj
    have hjz : j < zs.length := by omega
    rw [hc' j (by omega), List.getD_eq_getElem?_getD, List.getElem?_eq_getElem hjz, List.getElem_take]
    rfl

section
variable {H : Type} {enc : TypeId × Value → H} {W : World}
/-- one call -/
theorem open_op {n : Nat} {cs : List Value} {y : DataW H × List MemPlace} (h : DataW.trod enc Try.prog W 0 (fun _ => true) true n 37 cs = some y) :
    ∃ o : POp, cs = [.int .i64 o.1, .int .i64 o.2.1, pv o.2.2.1, .slice o.2.2.2.1 o.2.2.2.2.1.length o.2.2.2.2.2] ∧ OpOk W o := by
  obtain ⟨y0, y1, y2, y3, m, _, hl, h0, h1, h2, h3⟩ := Go.Joins.trod_struct4 Try.underlying37 h
  have hl4 : cs.length = 4 := by rw [hl]; kernel_rfl
  obtain ⟨v0, v1, v2, v3, rfl⟩ : ∃ v0 v1 v2 v3, cs = [v0, v1, v2, v3] := by
    match cs, hl4 with
    | [a, b, c, d], _ => exact ⟨a, b, c, d, rfl⟩
  have ci : Try.prog.cellsOf 3 = 1 := by kernel_rfl
  have cb : Try.prog.cellsOf 22 = 1 := by kernel_rfl
  have cp : Try.prog.cellsOf 35 = 1 := by kernel_rfl
  have c8 : Try.prog.cellsOf 5 = 1 := by kernel_rfl
  simp only [ci, cb, cp, List.drop_zero, List.take_succ_cons, List.take_zero, List.drop_succ_cons] at h0 h1 h2 h3
  obtain ⟨z, hz, _, wz⟩ := DataW.trod_int Try.underlying3 h0
  obtain ⟨i, hi, _, wi⟩ := DataW.trod_int Try.underlying3 h1
  injection hz with hz _
  injection hi with hi _
  subst hz hi
  have bz : -9223372036854775808 ≤ z ∧ z ≤ 9223372036854775807 := by simpa [Lit.wf, IntKind.min, IntKind.max, IntKind.signed, IntKind.bits] using wz
  have bi : -9223372036854775808 ≤ i ∧ i ≤ 9223372036854775807 := by simpa [Lit.wf, IntKind.min, IntKind.max, IntKind.signed, IntKind.bits] using wi
  obtain ⟨q, hq1, hq2, hq3⟩ : ∃ q : Piece, v2 = pv q ∧ Seen W q.1 q.2.1 ∧ q.2.1.length ≤ 9223372036854775807 := by
    rcases open_ints Try.underlying22 Try.underlying5 c8 h2 with ⟨e, _⟩ | ⟨a, len, cap, zs, e, _, hlen, hcm, hzl, _, hcell, hwf⟩
    · injection e with e _
      exact ⟨(none, [], 0), e, .inl rfl, by simp⟩
    · injection e with e _
      rw [if_pos rfl] at hzl
      have hn : len ≤ zs.length := by omega
      have hlr := length_rowBytes hn
      refine ⟨(some a, rowBytes zs len, cap), ?_, row_seen hn hcell hwf, ?_⟩
      · unfold pv; rw [hlr]; exact e
      · show (rowBytes zs len).length ≤ _; rw [hlr]; unfold maxLen at hcm; omega
  obtain ⟨A3, l3, c3, e3, s3, n3, b3⟩ : ∃ (A : Option Addr) (l : List Int) (c : Nat), v3 = .slice A l.length c ∧ Ints W A l ∧ l.length ≤ 9223372036854775807 ∧ ∀ x ∈ l, -9223372036854775808 ≤ x ∧ x ≤ 9223372036854775807 := by
    rcases open_ints Try.underlying35 Try.underlying3 ci h3 with ⟨e, _⟩ | ⟨a, len, cap, zs, e, _, hlen, hcm, hzl, _, hcell, hwf⟩
    · injection e with e _
      exact ⟨none, [], 0, e, .inl rfl, by simp, by simp⟩
    · injection e with e _
      rw [if_pos rfl] at hzl
      have hn : len ≤ zs.length := by omega
      have hl : (zs.take len).length = len := by simp; omega
      refine ⟨some a, zs.take len, cap, by rw [hl]; exact e, ints_of_row hn hcell, by rw [hl]; unfold maxLen at hcm; omega, fun x hx => ?_⟩
      have hm := hwf x (List.mem_of_mem_take hx)
      simpa [Lit.wf, IntKind.min, IntKind.max, IntKind.signed, IntKind.bits] using hm
  exact ⟨(z, i, q, A3, l3, c3), by rw [hq1, e3], bz, bi, ⟨hq2, hq3⟩, s3, n3, b3⟩

theorem open_ops {v : Value} {d : DataW H} {ps : List MemPlace} {r : Reach} {b0 : Nat} (hval : Value.okWide Try.prog W r b0 32 v) (h : DataW.Trod enc Try.prog W 0 (fun _ => true) true 32 v d ps) :
    ∃ (A : Option Addr) (l : List POp) (c : Nat), v = .slice A l.length c ∧ OpsSeen W A l ∧ l.length ≤ 9223372036854775807 := by
  have hsl : ∀ cs, v.cells.toList = [cs] → v = cs := by
    obtain ⟨a, n, c, rfl⟩ := okWide_slice Try.underlying32 hval
    intro cs h
    simpa [Value.cells] using h
  obtain ⟨fuel, hf⟩ := h
  have c4 : Try.prog.cellsOf 37 = 4 := by kernel_rfl
  rcases DataW.trod_slice Try.underlying32 hf with ⟨h1, _⟩ | ⟨a, len, cap, elems, rest, n, _, h1, _, _, hlc, hcm, hlen, hel, _⟩
  · obtain rfl := hsl _ h1
    exact ⟨none, [], 0, rfl, .inl rfl, by simp⟩
  · obtain rfl := hsl _ h1
    have each : ∀ i, i < len → ∃ o : POp, W.cells? 0 (a.add (i * 4)) 4 = some [.int .i64 o.1, .int .i64 o.2.1, pv o.2.2.1, .slice o.2.2.2.1 o.2.2.2.2.1.length o.2.2.2.2.2] ∧ OpOk W o := by
      intro i hi
      have := hel i hi
      rw [c4, List.getElem?_eq_getElem (by omega)] at this
      obtain ⟨cs, hcs, hy⟩ := Option.bind_eq_some_iff.1 this
      obtain ⟨o, rfl, ho⟩ := open_op hy
      exact ⟨o, hcs, ho⟩
    obtain ⟨f, hfo⟩ := Go.Deep.choose_lt each
    have hl : ((List.range len).map f).length = len := by simp
    refine ⟨some a, (List.range len).map f, cap, by rw [hl], ?_, by rw [hl]; unfold maxLen at hcm; omega⟩
    by_cases h0 : len = 0
    · subst h0; exact .inl rfl
    · obtain ⟨b, off, spot⟩ := a
      have hspot : spot = none := by
        have := (World.cells?_some (hfo 0 (by omega)).1).2.2 0 (by decide)
        simpa [Addr.add] using World.cell?_spot this
      subst hspot
      have hc : ∀ i, i < len → ∀ j, j < 4 → W.cell? ⟨b, off + i * 4 + j, none⟩ = [Value.int .i64 (f i).1, .int .i64 (f i).2.1, pv (f i).2.2.1, .slice (f i).2.2.2.1 (f i).2.2.2.2.1.length (f i).2.2.2.2.2][j]? := fun i hi j hj => by
        have := (World.cells?_some (hfo i hi).1).2.2 j hj
        rwa [add_plain, add_plain] at this
      refine .inr ⟨b, off, rfl, block_of_cell (o := off + 0 * 4 + 0) (hc 0 (by omega) 0 (by decide)), fun j hj => ?_⟩
      rw [hl] at hj
      simp only [List.getElem_map, List.getElem_range]
      exact ⟨hc j hj 0 (by decide), hc j hj 1 (by decide), hc j hj 2 (by decide), hc j hj 3 (by decide), (hfo j hj).2⟩
end
end Go.Proofs.Ytfcbkefpjfmgjaa
