/-
  Arguments of this layer: a frame, a list of puts. No conditions.
-/
import Derived.Test.YtmngcfmlmdhpbaaPuts
import Derived.Test.YtmngcfmlmdhpbaaChecked
import Derived.Test.YtmngcfmlmdhpbaaOpenPieces
import Derived.Lib.SmallJoins
namespace Go.Proofs.Ytmngcfmlmdhpbaa
open Go.ChangeShapes Go.WideShapes Go.ChangeAt Go.RowKit

section
variable {H : Type} {enc : TypeId × Value → H} {W : World}
/-- bytes as a field -/
theorem open_field {n : Nat} {v : Value} {y : DataW H × List MemPlace} (h : DataW.trod enc Try.prog W 0 (fun _ => true) true n 22 [v] = some y) :
    ∃ q : Piece, v = pv q ∧ Seen W q.1 q.2.1 ∧ q.2.1.length ≤ 9223372036854775807 := by
  have c8 : Try.prog.cellsOf 5 = 1 := by kernel_rfl
  rcases open_ints Try.underlying22 Try.underlying5 c8 h with ⟨e, _⟩ | ⟨a, len, cap, zs, e, _, hlen, hcm, hzl, _, hcell, hwf⟩
  · injection e with e _
    exact ⟨(none, [], 0), e, .inl rfl, by simp⟩
  · injection e with e _
    rw [if_pos rfl] at hzl
    have hn : len ≤ zs.length := by omega
    have hlr := length_rowBytes hn
    refine ⟨(some a, rowBytes zs len, cap), ?_, row_seen hn hcell hwf, ?_⟩
    · unfold pv; rw [hlr]; exact e
    · show (rowBytes zs len).length ≤ _; rw [hlr]; unfold maxLen at hcm; omega
theorem int_field {n : Nat} {v : Value} {y : DataW H × List MemPlace} (h : DataW.trod enc Try.prog W 0 (fun _ => true) true n 3 [v] = some y) :
    ∃ z : Int, v = .int .i64 z ∧ -9223372036854775808 ≤ z ∧ z ≤ 9223372036854775807 := by
  obtain ⟨z, hz, _, wz⟩ := DataW.trod_int Try.underlying3 h
  injection hz with hz _
  exact ⟨z, hz, by simpa [Lit.wf, IntKind.min, IntKind.max, IntKind.signed, IntKind.bits] using wz⟩

theorem open_frame {v : Value} {d : DataW H} {ps : List MemPlace} {r : Reach} {b0 : Nat} (hval : Value.okWide Try.prog W r b0 24 v) (h : DataW.Trod enc Try.prog W 0 (fun _ => true) true 24 v d ps) :
    ∃ (g s : Int) (A : Option Addr) (l : List UInt8) (c : Nat), v = .agg #[.int .i64 g, .int .i64 s, .slice A l.length c] ∧ (-9223372036854775808 ≤ g ∧ g ≤ 9223372036854775807) ∧ (-9223372036854775808 ≤ s ∧ s ≤ 9223372036854775807) ∧ l.length ≤ 9223372036854775807 ∧ Seen W A l := by
  obtain ⟨v0, v1, v2, y0, y1, y2, n, rfl, _, _, h0, h1, h2⟩ := Go.Joins.open_agg3 Try.underlying24 (by kernel_rfl) (by kernel_rfl) hval h
  obtain ⟨g, rfl, hg⟩ := int_field h0
  obtain ⟨s, rfl, hs⟩ := int_field h1
  obtain ⟨⟨A, l, c⟩, rfl, hq, hl⟩ := open_field h2
  exact ⟨g, s, A, l, c, rfl, hg, hs, hl, hq⟩

/-- one put -/
theorem open_put {n : Nat} {cs : List Value} {y : DataW H × List MemPlace} (h : DataW.trod enc Try.prog W 0 (fun _ => true) true n 45 cs = some y) :
    ∃ q : PPut, cs = pcells q ∧ PutOk W q := by
  obtain ⟨y0, y1, y2, m, _, hl, h0, h1, h2⟩ := Go.Deep.trod_struct3 Try.underlying45 h
  have hl3 : cs.length = 3 := by rw [hl]; kernel_rfl
  obtain ⟨v0, v1, v2, rfl⟩ : ∃ v0 v1 v2, cs = [v0, v1, v2] := by
    match cs, hl3 with
    | [a, b, c], _ => exact ⟨a, b, c, rfl⟩
  have cb : Try.prog.cellsOf 22 = 1 := by kernel_rfl
  have cl : Try.prog.cellsOf 4 = 1 := by kernel_rfl
  simp only [cb, cl, List.drop_zero, List.take_succ_cons, List.take_zero, List.drop_succ_cons] at h0 h1 h2
  obtain ⟨q, rfl, hq⟩ := open_field h0
  obtain ⟨u, rfl, hu⟩ := open_field h1
  obtain ⟨g, hg, _⟩ := DataW.trod_bool Try.underlying4 h2
  injection hg with hg _
  subst hg
  exact ⟨(q, u, g), rfl, hq, hu⟩

theorem open_puts {v : Value} {d : DataW H} {ps : List MemPlace} {r : Reach} {b0 : Nat} (hval : Value.okWide Try.prog W r b0 35 v) (h : DataW.Trod enc Try.prog W 0 (fun _ => true) true 35 v d ps) :
    ∃ (A : Option Addr) (l : List PPut) (c : Nat), v = .slice A l.length c ∧ PutsSeen W A l ∧ l.length ≤ 9223372036854775807 := by
  have hsl : ∀ cs, v.cells.toList = [cs] → v = cs := by
    obtain ⟨a, n, c, rfl⟩ := okWide_slice Try.underlying35 hval
    intro cs h
    simpa [Value.cells] using h
  obtain ⟨fuel, hf⟩ := h
  have c3 : Try.prog.cellsOf 45 = 3 := by kernel_rfl
  rcases DataW.trod_slice Try.underlying35 hf with ⟨h1, _⟩ | ⟨a, len, cap, elems, rest, n, _, h1, _, _, hlc, hcm, hlen, hel, _⟩
  · obtain rfl := hsl _ h1
    exact ⟨none, [], 0, rfl, .inl rfl, by simp⟩
  · obtain rfl := hsl _ h1
    have each : ∀ i, i < len → ∃ q : PPut, W.cells? 0 (a.add (i * 3)) 3 = some (pcells q) ∧ PutOk W q := by
      intro i hi
      have := hel i hi
      rw [c3, List.getElem?_eq_getElem (by omega)] at this
      obtain ⟨cs, hcs, hy⟩ := Option.bind_eq_some_iff.1 this
      obtain ⟨q, rfl, hq⟩ := open_put hy
      exact ⟨q, hcs, hq⟩
    obtain ⟨f, hfo⟩ := Go.Deep.choose_lt each
    have hl : ((List.range len).map f).length = len := by simp
    refine ⟨some a, (List.range len).map f, cap, by rw [hl], ?_, by rw [hl]; unfold maxLen at hcm; omega⟩
    by_cases h0 : len = 0
    · subst h0; exact .inl rfl
    · obtain ⟨b, off, spot⟩ := a
      have hspot : spot = none := by
        have := (World.cells?_some (hfo 0 (by omega)).1).2.2 0 (by decide)
        simpa [Addr.add] using World.cell?_spot this
      subst hspot
      have hc : ∀ i, i < len → ∀ j, j < 3 → W.cell? ⟨b, off + i * 3 + j, none⟩ = (pcells (f i))[j]? := fun i hi j hj => by
        have := (World.cells?_some (hfo i hi).1).2.2 j hj
        rwa [add_plain, add_plain] at this
      refine .inr ⟨b, off, rfl, block_of_cell (o := off + 0 * 3 + 0) (hc 0 (by omega) 0 (by decide)), fun j hj => ?_⟩
      rw [hl] at hj
      simp only [List.getElem_map, List.getElem_range]
      exact ⟨hc j hj 0 (by decide), hc j hj 1 (by decide), hc j hj 2 (by decide), (hfo j hj).2⟩
end
end Go.Proofs.Ytmngcfmlmdhpbaa
