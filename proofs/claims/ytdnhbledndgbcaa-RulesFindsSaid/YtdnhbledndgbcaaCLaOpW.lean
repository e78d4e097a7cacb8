/-
  Arguments of this layer: an expression, a schema. No conditions.
  A schema as an argument, and how long its texts are. No conditions.
-/
import Derived.Test.YtdnhbledndgbcaaCNmRefN
import Derived.Test.YtdnhbledndgbcaaCClose
import Derived.Lib.SmallJoins
import Derived.Test.YtdnhbledndgbcaaCRoCr
namespace Go.Proofs.Ytdnhbledndgbcaa
open Go.ChangeShapes Go.WideShapes Go.ChangeAt Go.RowKit
set_option maxRecDepth 100000
section
variable {H : Type} {enc : TypeId × Value → H} {W : World}
abbrev noF : Nat → Prop := fun _ => False
theorem open_row {α : Type} {P : Program} {t e : TypeId} {k fuel : Nat} {R : World → (Nat → Prop) → α → List Value → Prop} {cs : List Value} {y : DataW H × List MemPlace} (ht : P.underlying t = some (.slice e)) (hk : P.cellsOf e = k) (hk0 : 0 < k)
    (hR : ∀ m, m < fuel → ∀ cs y, DataW.trod enc P W 0 (fun _ => true) true m e cs = some y → ∃ x, R W noF x cs) (h : DataW.trod enc P W 0 (fun _ => true) true fuel t cs = some y) :
    ∃ (A : Option Addr) (l : List α) (c : Nat), cs = [.slice A l.length c] ∧ RowAt k R W noF A l ∧ (l.length ≤ c ∧ l.length ≤ 9223372036854775807) := by
  rcases DataW.trod_slice ht h with ⟨h1, _⟩ | ⟨a, len, cap, elems, rest, n, hn, h1, _, _, hlc, hcm, hlen, hel, _⟩
  · exact ⟨none, [], 0, h1, .inl rfl, by simp, by simp⟩
  · subst h1
    have each : ∀ i, i < len → ∃ p : α × List Value, W.cells? 0 (a.add (i * k)) k = some p.2 ∧ R W noF p.1 p.2 := by
      intro i hi
      have := hel i hi
      rw [hk, List.getElem?_eq_getElem (by omega)] at this
      obtain ⟨cs, hcs, hy⟩ := Option.bind_eq_some_iff.1 this
      obtain ⟨x, hx⟩ := hR n (by omega) cs _ hy
      exact ⟨(x, cs), hcs, hx⟩
    by_cases h0 : len = 0
    · subst h0; exact ⟨some a, [], cap, rfl, .inl rfl, by simp, by simp⟩
    haveI : Inhabited (α × List Value) := ⟨(each 0 (by omega)).choose⟩
    obtain ⟨f, hfo⟩ := Go.Deep.choose_lt each
    have hl : ((List.range len).map (fun i => (f i).1)).length = len := by simp
    refine ⟨some a, (List.range len).map (fun i => (f i).1), cap, by rw [hl], ?_, by rw [hl]; exact hlc, by rw [hl]; unfold maxLen at hcm; omega⟩
    · obtain ⟨b, off, spot⟩ := a
      have hspot : spot = none := by
        have h2 := (World.cells?_some (hfo 0 (by omega)).1).2.2 0 hk0
        have h3 := (World.cells?_some (hfo 0 (by omega)).1).2.1
        rw [List.getElem?_eq_getElem (by omega)] at h2
        simpa [Addr.add] using World.cell?_spot h2
      subst hspot
      have hc : ∀ i, i < len → ∀ j, j < k → W.cell? ⟨b, off + i * k + j, none⟩ = (f i).2[j]? := fun i hi j hj => by
        have := (World.cells?_some (hfo i hi).1).2.2 j hj
        rwa [add_plain, add_plain] at this
      have hb : b < W.heap.size := by
        have h2 := hc 0 (by omega) 0 hk0
        have h3 := (World.cells?_some (hfo 0 (by omega)).1).2.1
        rw [List.getElem?_eq_getElem (by omega)] at h2
        exact World.block_lt_of_cell? W _ h2
      refine .inr ⟨b, off, rfl, hb, fun h => h, fun j hj => ?_⟩
      rw [hl] at hj
      simp only [List.getElem_map, List.getElem_range]
      exact ⟨(f j).2, (hfo j hj).2, fun i hi => hc j hj i hi⟩
theorem struct2f {P : Program} {t : TypeId} {f0 f1 : Field} {fuel : Nat} {cs : List Value} {y : DataW H × List MemPlace} (ht : P.underlying t = some (.struct #[f0, f1])) (h : DataW.trod enc P W 0 (fun _ => true) true fuel t cs = some y) :
    ∃ y0 y1 n, fuel = n + 1 ∧ cs.length = P.cellsOf t ∧ DataW.trod enc P W 0 (fun _ => true) true n f0.type ((cs.drop f0.offset).take (P.cellsOf f0.type)) = some y0 ∧ DataW.trod enc P W 0 (fun _ => true) true n f1.type ((cs.drop f1.offset).take (P.cellsOf f1.type)) = some y1 := by
  obtain ⟨xs, n, hn, rfl, hl, hlen, hf⟩ := DataW.trod_struct ht h
  match xs, hlen with
  | [y0, y1], _ => exact ⟨y0, y1, n, hn, hl, by simpa using hf 0 f0 rfl, by simpa using hf 1 f1 rfl⟩
theorem struct3f {P : Program} {t : TypeId} {f0 f1 f2 : Field} {fuel : Nat} {cs : List Value} {y : DataW H × List MemPlace} (ht : P.underlying t = some (.struct #[f0, f1, f2])) (h : DataW.trod enc P W 0 (fun _ => true) true fuel t cs = some y) :
    ∃ y0 y1 y2 n, fuel = n + 1 ∧ cs.length = P.cellsOf t ∧ DataW.trod enc P W 0 (fun _ => true) true n f0.type ((cs.drop f0.offset).take (P.cellsOf f0.type)) = some y0 ∧ DataW.trod enc P W 0 (fun _ => true) true n f1.type ((cs.drop f1.offset).take (P.cellsOf f1.type)) = some y1 ∧
      DataW.trod enc P W 0 (fun _ => true) true n f2.type ((cs.drop f2.offset).take (P.cellsOf f2.type)) = some y2 := by
  obtain ⟨xs, n, hn, rfl, hl, hlen, hf⟩ := DataW.trod_struct ht h
  match xs, hlen with
  | [y0, y1, y2], _ => exact ⟨y0, y1, y2, n, hn, hl, by simpa using hf 0 f0 rfl, by simpa using hf 1 f1 rfl, by simpa using hf 2 f2 rfl⟩
theorem struct4f {P : Program} {t : TypeId} {f0 f1 f2 f3 : Field} {fuel : Nat} {cs : List Value} {y : DataW H × List MemPlace} (ht : P.underlying t = some (.struct #[f0, f1, f2, f3])) (h : DataW.trod enc P W 0 (fun _ => true) true fuel t cs = some y) :
    ∃ y0 y1 y2 y3 n, fuel = n + 1 ∧ cs.length = P.cellsOf t ∧ DataW.trod enc P W 0 (fun _ => true) true n f0.type ((cs.drop f0.offset).take (P.cellsOf f0.type)) = some y0 ∧ DataW.trod enc P W 0 (fun _ => true) true n f1.type ((cs.drop f1.offset).take (P.cellsOf f1.type)) = some y1 ∧
      DataW.trod enc P W 0 (fun _ => true) true n f2.type ((cs.drop f2.offset).take (P.cellsOf f2.type)) = some y2 ∧ DataW.trod enc P W 0 (fun _ => true) true n f3.type ((cs.drop f3.offset).take (P.cellsOf f3.type)) = some y3 := by
  obtain ⟨xs, n, hn, rfl, hl, hlen, hf⟩ := DataW.trod_struct ht h
  match xs, hlen with
  | [y0, y1, y2, y3], _ => exact ⟨y0, y1, y2, y3, n, hn, hl, by simpa using hf 0 f0 rfl, by simpa using hf 1 f1 rfl, by simpa using hf 2 f2 rfl, by simpa using hf 3 f3 rfl⟩
theorem open_txt {n : Nat} {cs : List Value} {y : DataW H × List MemPlace} (h : DataW.trod enc Try.prog W 0 (fun _ => true) true n 9 cs = some y) : ∃ l : Txt, cs = [strV l] ∧ small l := by
  obtain ⟨s, hs, _, hm⟩ := DataW.trod_string Try.underlying9 h
  refine ⟨s.data.toList, hs, ?_⟩
  unfold maxLen at hm
  unfold small
  rw [size_list]; exact hm
theorem open_fit {n : Nat} {cs : List Value} {y : DataW H × List MemPlace} (h : DataW.trod enc Try.prog W 0 (fun _ => true) true n 3 cs = some y) : ∃ z : Int, cs = [.int .i64 z] ∧ fitsI z := by
  obtain ⟨z, hz, _, wz⟩ := DataW.trod_int Try.underlying3 h
  exact ⟨z, hz, by unfold fitsI; simpa [Lit.wf, IntKind.min, IntKind.max, IntKind.signed, IntKind.bits] using wz⟩
theorem open_ex : ∀ (n : Nat) (cs : List Value) (y : DataW H × List MemPlace), DataW.trod enc Try.prog W 0 (fun _ => true) true n 36 cs = some y → ∃ e : Ex, ExAt W noF e cs := by
  intro n
  induction n using Nat.strongRecOn with
  | _ n ih =>
    intro cs y h
    have ci : Try.prog.cellsOf 3 = 1 := by kernel_rfl
    have cs1 : Try.prog.cellsOf 9 = 1 := by kernel_rfl
    have ck : Try.prog.cellsOf 34 = 1 := by kernel_rfl
    obtain ⟨y0, y1, y2, y3, m, hm, hl, h0, h1, h2, h3⟩ := struct4f Try.underlying36 h
    have hl4 : cs.length = 4 := by rw [hl]; kernel_rfl
    obtain ⟨v0, v1, v2, v3, rfl⟩ : ∃ v0 v1 v2 v3, cs = [v0, v1, v2, v3] := by
      match cs, hl4 with
      | [a, b, c, d], _ => exact ⟨a, b, c, d, rfl⟩
    simp only [ci, cs1, ck, List.drop_zero, List.take_succ_cons, List.take_zero, List.drop_succ_cons] at h0 h1 h2 h3
    obtain ⟨z, e0, b0⟩ := open_fit h0
    obtain ⟨a, e1, b1⟩ := open_txt h1
    obtain ⟨o, e2, b2⟩ := open_txt h2
    obtain ⟨A, ks, c, e3, hr, b3⟩ := open_row (k := 4) (R := ExAt) Try.underlying34 (by kernel_rfl) (by decide) (fun j hj cs y hy => ih j (by omega) cs y hy) h3
    injection e0 with e0 _
    injection e1 with e1 _
    injection e2 with e2 _
    injection e3 with e3 _
    subst e0 e1 e2 e3
    exact ⟨.mk z a o ks, ExAt.of_row ⟨b0, b1, b2, b3.2⟩ hr⟩
theorem open_rf (n : Nat) (cs : List Value) (y : DataW H × List MemPlace) (h : DataW.trod enc Try.prog W 0 (fun _ => true) true n 51 cs = some y) : ∃ x : Rf, RfAt W noF x cs := by
  have cs1 : Try.prog.cellsOf 9 = 1 := by kernel_rfl
  obtain ⟨y0, y1, m, hm, hl, h0, h1⟩ := struct2f Try.underlying51 h
  have hl2 : cs.length = 2 := by rw [hl]; kernel_rfl
  obtain ⟨v0, v1, rfl⟩ : ∃ v0 v1, cs = [v0, v1] := by
    match cs, hl2 with
    | [a, b], _ => exact ⟨a, b, rfl⟩
  simp only [cs1, List.drop_zero, List.take_succ_cons, List.take_zero, List.drop_succ_cons] at h0 h1
  obtain ⟨a, e0, b0⟩ := open_txt h0
  obtain ⟨b, e1, b1⟩ := open_txt h1
  injection e0 with e0 _
  injection e1 with e1 _
  subst e0 e1
  exact ⟨(a, b), rfl, b0, b1⟩
theorem open_rl (n : Nat) (cs : List Value) (y : DataW H × List MemPlace) (h : DataW.trod enc Try.prog W 0 (fun _ => true) true n 38 cs = some y) : ∃ x : Rl, RlAt W noF x cs := by
  have cs1 : Try.prog.cellsOf 9 = 1 := by kernel_rfl
  have cr : Try.prog.cellsOf 33 = 1 := by kernel_rfl
  have ce : Try.prog.cellsOf 36 = 4 := by kernel_rfl
  obtain ⟨y0, y1, y2, m, hm, hl, h0, h1, h2⟩ := struct3f Try.underlying38 h
  have hl6 : cs.length = 6 := by rw [hl]; kernel_rfl
  obtain ⟨v0, v1, v2, v3, v4, v5, rfl⟩ : ∃ v0 v1 v2 v3 v4 v5, cs = [v0, v1, v2, v3, v4, v5] := by
    match cs, hl6 with
    | [a, b, c, d, e, f], _ => exact ⟨a, b, c, d, e, f, rfl⟩
  simp only [cs1, cr, ce, List.drop_zero, List.take_succ_cons, List.take_zero, List.drop_succ_cons] at h0 h1 h2
  obtain ⟨a, e0, b0⟩ := open_txt h0
  obtain ⟨A, rs, c, e1, hr, b1⟩ := open_row (k := 2) (R := RfAt) Try.underlying33 (by kernel_rfl) (by decide) (fun j _ cs y hy => open_rf j cs y hy) h1
  obtain ⟨e, he⟩ := open_ex _ _ _ h2
  injection e0 with e0 _
  injection e1 with e1 _
  subst e0 e1
  exact ⟨⟨a, rs, e⟩, A, c, _, rfl, ⟨b0, b1.2⟩, hr, he⟩
theorem open_ty (n : Nat) (cs : List Value) (y : DataW H × List MemPlace) (h : DataW.trod enc Try.prog W 0 (fun _ => true) true n 49 cs = some y) : ∃ x : Ty, TyAt W noF x cs := by
  have cs1 : Try.prog.cellsOf 9 = 1 := by kernel_rfl
  have cr : Try.prog.cellsOf 47 = 1 := by kernel_rfl
  obtain ⟨y0, y1, m, hm, hl, h0, h1⟩ := struct2f Try.underlying49 h
  have hl2 : cs.length = 2 := by rw [hl]; kernel_rfl
  obtain ⟨v0, v1, rfl⟩ : ∃ v0 v1, cs = [v0, v1] := by
    match cs, hl2 with
    | [a, b], _ => exact ⟨a, b, rfl⟩
  simp only [cs1, cr, List.drop_zero, List.take_succ_cons, List.take_zero, List.drop_succ_cons] at h0 h1
  obtain ⟨a, e0, b0⟩ := open_txt h0
  obtain ⟨A, rs, c, e1, hr, b1⟩ := open_row (k := 6) (R := RlAt) Try.underlying47 (by kernel_rfl) (by decide) (fun j _ cs y hy => open_rl j cs y hy) h1
  injection e0 with e0 _
  injection e1 with e1 _
  subst e0 e1
  exact ⟨⟨a, rs⟩, A, c, rfl, ⟨⟨b0, b1.1⟩, b1.2⟩, hr⟩
theorem open_schema {v : Value} {d : DataW H} {ps : List MemPlace} {r : Reach} {b0 : Nat} (hval : Value.okWide Try.prog W r b0 25 v) (h : DataW.Trod enc Try.prog W 0 (fun _ => true) true 25 v d ps) :
    ∃ (A : Option Addr) (s : Sc) (c : Nat), v = .agg #[.slice A s.length c] ∧ ScAt W noF A s ∧ s.length ≤ 9223372036854775807 ∧ s.length ≤ c := by
  obtain ⟨cs, rfl, hsz⟩ := okWide_struct Try.underlying25 hval
  obtain ⟨fuel, hf⟩ := h
  have hf' : DataW.trod enc Try.prog W 0 (fun _ => true) true fuel 25 cs.toList = some (d, ps) := by simpa [Value.cells] using hf
  have hl1 : cs.toList.length = 1 := by rw [Array.length_toList, hsz]; kernel_rfl
  obtain ⟨v0, hcs⟩ : ∃ v0, cs.toList = [v0] := by
    match cs.toList, hl1 with
    | [a], _ => exact ⟨a, rfl⟩
  have ecs : cs = #[v0] := Array.toList_inj.1 hcs
  subst ecs
  obtain ⟨y0, n, _, _, h0⟩ := trod_struct1 Try.underlying25 hf'
  have ct : Try.prog.cellsOf 23 = 1 := by kernel_rfl
  simp only [ct, List.drop_zero, List.take_succ_cons, List.take_zero] at h0
  obtain ⟨A, s, c, e0, hr, b⟩ := open_row (k := 2) (R := TyAt) Try.underlying23 (by kernel_rfl) (by decide) (fun j _ cs y hy => open_ty j cs y hy) h0
  injection e0 with e0 _
  subst e0
  exact ⟨A, s, c, rfl, hr, b.2, b.1⟩
end
end Go.Proofs.Ytdnhbledndgbcaa
namespace Go.Proofs.Ytdnhbledndgbcaa
open Go.ChangeShapes Go.WideShapes Go.ChangeAt Go.RowKit
set_option maxRecDepth 100000

mutual
def txE : Ex → List Txt
  | .mk _ n o ks => n :: o :: txL ks
def txL : List Ex → List Txt
  | [] => []
  | x :: r => txE x ++ txL r
end
def txF (x : Rf) : List Txt := [x.1, x.2]
def txR (x : Rl) : List Txt := x.name :: (x.refs.flatMap txF ++ txE x.expr)
def txT (t : Ty) : List Txt := t.name :: t.rels.flatMap txR
def txS (s : Sc) : List Txt := s.flatMap txT
theorem txL_mem {u : Txt} : ∀ {ks : List Ex}, u ∈ txL ks ↔ ∃ x ∈ ks, u ∈ txE x
  | [] => by unfold txL; simp
  | x :: r => by
    unfold txL
    rw [List.mem_append, txL_mem]
    simp
section
variable {H : Type} {enc : TypeId × Value → H} {W : World}
theorem weights_all {P : Program} {e : TypeId} : ∀ {l : List (DataW H)} {d : DataW H}, d ∈ l → ∀ n ∈ d.weights P e, n ∈ DataW.weightsAll P e l
  | d' :: r, d, hd, n, hn => by
    simp only [DataW.weightsAll, List.mem_append]
    rcases List.mem_cons.1 hd with rfl | h
    · exact Or.inl hn
    · exact Or.inr (weights_all h n hn)
def InW (P : Program) (t : TypeId) (l : List Txt) (d : DataW H) : Prop := ∀ u ∈ l, u.length ∈ d.weights P t
theorem InW.nil {P : Program} {t : TypeId} {d : DataW H} : InW P t [] d := fun u hu => by cases hu
theorem InW.slice {α : Type} {P : Program} {t e : TypeId} (ht : P.underlying t = some (.slice e)) {f : α → List Txt} {l : List α} {d : DataW H} (h : l = [] ∨ ∃ elems spare, d = .slice elems spare ∧ ∀ x ∈ l, ∃ y ∈ elems, InW P e (f x) y) : InW P t (l.flatMap f) d := by
  rcases h with rfl | ⟨elems, spare, rfl, h⟩
  · exact InW.nil
  · intro u hu
    obtain ⟨x, hx, hu⟩ := List.mem_flatMap.1 hu
    obtain ⟨y, hy, hw⟩ := h x hx
    simp only [DataW.weights, ht, List.mem_cons, List.mem_append]
    exact .inr (.inl (weights_all hy _ (hw u hu)))
theorem open_row_w {α : Type} {P : Program} {t e : TypeId} {k fuel : Nat} {R : World → (Nat → Prop) → α → List Value → Prop} {T : α → DataW H → Prop} {cs : List Value} {y : DataW H × List MemPlace} (ht : P.underlying t = some (.slice e)) (hk : P.cellsOf e = k) (hk0 : 0 < k)
    (hR : ∀ m, m < fuel → ∀ cs y, DataW.trod enc P W 0 (fun _ => true) true m e cs = some y → ∃ x, R W noF x cs ∧ T x y.1) (h : DataW.trod enc P W 0 (fun _ => true) true fuel t cs = some y) :
    ∃ (A : Option Addr) (l : List α) (c : Nat), cs = [.slice A l.length c] ∧ RowAt k R W noF A l ∧ (l.length ≤ c ∧ l.length ≤ 9223372036854775807) ∧ (l = [] ∨ ∃ elems spare, y.1 = .slice elems spare ∧ ∀ x ∈ l, ∃ d ∈ elems, T x d) := by
  rcases DataW.trod_slice ht h with ⟨h1, _⟩ | ⟨a, len, cap, elems, rest, n, hn, h1, hy, _, hlc, hcm, hlen, hel, _⟩
  · exact ⟨none, [], 0, h1, .inl rfl, by simp, .inl rfl⟩
  · subst h1
    have each : ∀ i, i < len → ∃ p : α × List Value, W.cells? 0 (a.add (i * k)) k = some p.2 ∧ R W noF p.1 p.2 ∧ ∃ d ∈ elems.map (·.1), T p.1 d := by
      intro i hi
      have := hel i hi
      rw [hk, List.getElem?_eq_getElem (by omega)] at this
      obtain ⟨cs, hcs, hy⟩ := Option.bind_eq_some_iff.1 this
      obtain ⟨x, hx, hT⟩ := hR n (by omega) cs _ hy
      exact ⟨(x, cs), hcs, hx, _, List.mem_map.2 ⟨_, List.getElem_mem _, rfl⟩, hT⟩
    by_cases h0 : len = 0
    · subst h0; exact ⟨some a, [], cap, rfl, .inl rfl, by simp, .inl rfl⟩
    haveI : Inhabited (α × List Value) := ⟨(each 0 (by omega)).choose⟩
    obtain ⟨f, hfo⟩ := Go.Deep.choose_lt each
    have hl : ((List.range len).map (fun i => (f i).1)).length = len := by simp
    refine ⟨some a, (List.range len).map (fun i => (f i).1), cap, by rw [hl], ?_, ⟨by rw [hl]; exact hlc, by rw [hl]; unfold maxLen at hcm; omega⟩, .inr ⟨_, _, by rw [hy], fun x hx => ?_⟩⟩
    · obtain ⟨b, off, spot⟩ := a
      have hspot : spot = none := by
        have h2 := (World.cells?_some (hfo 0 (by omega)).1).2.2 0 hk0
        have h3 := (World.cells?_some (hfo 0 (by omega)).1).2.1
        rw [List.getElem?_eq_getElem (by omega)] at h2
        simpa [Addr.add] using World.cell?_spot h2
      subst hspot
      have hc : ∀ i, i < len → ∀ j, j < k → W.cell? ⟨b, off + i * k + j, none⟩ = (f i).2[j]? := fun i hi j hj => by
        have := (World.cells?_some (hfo i hi).1).2.2 j hj
        rwa [add_plain, add_plain] at this
      have hb : b < W.heap.size := by
        have h2 := hc 0 (by omega) 0 hk0
        have h3 := (World.cells?_some (hfo 0 (by omega)).1).2.1
        rw [List.getElem?_eq_getElem (by omega)] at h2
        exact World.block_lt_of_cell? W _ h2
      refine .inr ⟨b, off, rfl, hb, fun h => h, fun j hj => ?_⟩
      rw [hl] at hj
      simp only [List.getElem_map, List.getElem_range]
      exact ⟨(f j).2, (hfo j hj).2.1, fun i hi => hc j hj i hi⟩
    · obtain ⟨i, hi, rfl⟩ := List.mem_map.1 hx
      exact (hfo i (List.mem_range.1 hi)).2.2
theorem struct1w {P : Program} {t : TypeId} {f0 : Field} {fuel : Nat} {cs : List Value} {y : DataW H × List MemPlace} (ht : P.underlying t = some (.struct #[f0])) (h : DataW.trod enc P W 0 (fun _ => true) true fuel t cs = some y) :
    ∃ y0 n, fuel = n + 1 ∧ cs.length = P.cellsOf t ∧ DataW.trod enc P W 0 (fun _ => true) true n f0.type ((cs.drop f0.offset).take (P.cellsOf f0.type)) = some y0 ∧ ∀ l : List Txt, (∀ u ∈ l, u.length ∈ y0.1.weights P f0.type) → InW P t l y.1 := by
  obtain ⟨xs, n, hn, rfl, hl, hlen, hf⟩ := DataW.trod_struct ht h
  match xs, hlen with
  | [y0], _ =>
    refine ⟨y0, n, hn, hl, by simpa using hf 0 f0 rfl, fun l hl u hu => ?_⟩
    have hu := hl u hu
    simp only [DataW.weights, ht, List.map_cons, List.map_nil, DataW.weightsEach, List.mem_append]
    simpa using hu
theorem struct2w {P : Program} {t : TypeId} {f0 f1 : Field} {fuel : Nat} {cs : List Value} {y : DataW H × List MemPlace} (ht : P.underlying t = some (.struct #[f0, f1])) (h : DataW.trod enc P W 0 (fun _ => true) true fuel t cs = some y) :
    ∃ y0 y1 n, fuel = n + 1 ∧ cs.length = P.cellsOf t ∧ DataW.trod enc P W 0 (fun _ => true) true n f0.type ((cs.drop f0.offset).take (P.cellsOf f0.type)) = some y0 ∧ DataW.trod enc P W 0 (fun _ => true) true n f1.type ((cs.drop f1.offset).take (P.cellsOf f1.type)) = some y1 ∧ ∀ l : List Txt, (∀ u ∈ l, u.length ∈ y0.1.weights P f0.type ∨ u.length ∈ y1.1.weights P f1.type) → InW P t l y.1 := by
  obtain ⟨xs, n, hn, rfl, hl, hlen, hf⟩ := DataW.trod_struct ht h
  match xs, hlen with
  | [y0, y1], _ =>
    refine ⟨y0, y1, n, hn, hl, by simpa using hf 0 f0 rfl, by simpa using hf 1 f1 rfl, fun l hl u hu => ?_⟩
    have hu := hl u hu
    simp only [DataW.weights, ht, List.map_cons, List.map_nil, DataW.weightsEach, List.mem_append]
    simpa using hu
theorem struct3w {P : Program} {t : TypeId} {f0 f1 f2 : Field} {fuel : Nat} {cs : List Value} {y : DataW H × List MemPlace} (ht : P.underlying t = some (.struct #[f0, f1, f2])) (h : DataW.trod enc P W 0 (fun _ => true) true fuel t cs = some y) :
    ∃ y0 y1 y2 n, fuel = n + 1 ∧ cs.length = P.cellsOf t ∧ DataW.trod enc P W 0 (fun _ => true) true n f0.type ((cs.drop f0.offset).take (P.cellsOf f0.type)) = some y0 ∧ DataW.trod enc P W 0 (fun _ => true) true n f1.type ((cs.drop f1.offset).take (P.cellsOf f1.type)) = some y1 ∧ DataW.trod enc P W 0 (fun _ => true) true n f2.type ((cs.drop f2.offset).take (P.cellsOf f2.type)) = some y2 ∧ ∀ l : List Txt, (∀ u ∈ l, u.length ∈ y0.1.weights P f0.type ∨ u.length ∈ y1.1.weights P f1.type ∨ u.length ∈ y2.1.weights P f2.type) → InW P t l y.1 := by
  obtain ⟨xs, n, hn, rfl, hl, hlen, hf⟩ := DataW.trod_struct ht h
  match xs, hlen with
  | [y0, y1, y2], _ =>
    refine ⟨y0, y1, y2, n, hn, hl, by simpa using hf 0 f0 rfl, by simpa using hf 1 f1 rfl, by simpa using hf 2 f2 rfl, fun l hl u hu => ?_⟩
    have hu := hl u hu
    simp only [DataW.weights, ht, List.map_cons, List.map_nil, DataW.weightsEach, List.mem_append]
    simpa using hu
theorem struct4w {P : Program} {t : TypeId} {f0 f1 f2 f3 : Field} {fuel : Nat} {cs : List Value} {y : DataW H × List MemPlace} (ht : P.underlying t = some (.struct #[f0, f1, f2, f3])) (h : DataW.trod enc P W 0 (fun _ => true) true fuel t cs = some y) :
    ∃ y0 y1 y2 y3 n, fuel = n + 1 ∧ cs.length = P.cellsOf t ∧ DataW.trod enc P W 0 (fun _ => true) true n f0.type ((cs.drop f0.offset).take (P.cellsOf f0.type)) = some y0 ∧ DataW.trod enc P W 0 (fun _ => true) true n f1.type ((cs.drop f1.offset).take (P.cellsOf f1.type)) = some y1 ∧ DataW.trod enc P W 0 (fun _ => true) true n f2.type ((cs.drop f2.offset).take (P.cellsOf f2.type)) = some y2 ∧ DataW.trod enc P W 0 (fun _ => true) true n f3.type ((cs.drop f3.offset).take (P.cellsOf f3.type)) = some y3 ∧ ∀ l : List Txt, (∀ u ∈ l, u.length ∈ y0.1.weights P f0.type ∨ u.length ∈ y1.1.weights P f1.type ∨ u.length ∈ y2.1.weights P f2.type ∨ u.length ∈ y3.1.weights P f3.type) → InW P t l y.1 := by
  obtain ⟨xs, n, hn, rfl, hl, hlen, hf⟩ := DataW.trod_struct ht h
  match xs, hlen with
  | [y0, y1, y2, y3], _ =>
    refine ⟨y0, y1, y2, y3, n, hn, hl, by simpa using hf 0 f0 rfl, by simpa using hf 1 f1 rfl, by simpa using hf 2 f2 rfl, by simpa using hf 3 f3 rfl, fun l hl u hu => ?_⟩
    have hu := hl u hu
    simp only [DataW.weights, ht, List.map_cons, List.map_nil, DataW.weightsEach, List.mem_append]
    simpa using hu
theorem open_txt_w {n : Nat} {cs : List Value} {y : DataW H × List MemPlace} (h : DataW.trod enc Try.prog W 0 (fun _ => true) true n 9 cs = some y) : ∃ l : Txt, cs = [strV l] ∧ small l ∧ l.length ∈ y.1.weights Try.prog 9 := by
  obtain ⟨s, hs, hy, hm⟩ := DataW.trod_string Try.underlying9 h
  refine ⟨s.data.toList, hs, ?_, ?_⟩
  · unfold maxLen at hm
    unfold small
    rw [size_list]; exact hm
  · rw [hy]
    simp [DataW.weights]
theorem open_ex_w : ∀ (n : Nat) (cs : List Value) (y : DataW H × List MemPlace), DataW.trod enc Try.prog W 0 (fun _ => true) true n 36 cs = some y → ∃ e : Ex, ExAt W noF e cs ∧ InW Try.prog 36 (txE e) y.1 := by
  intro n
  induction n using Nat.strongRecOn with
  | _ n ih =>
    intro cs y h
    have ci : Try.prog.cellsOf 3 = 1 := by kernel_rfl
    have cs1 : Try.prog.cellsOf 9 = 1 := by kernel_rfl
    have ck : Try.prog.cellsOf 34 = 1 := by kernel_rfl
    obtain ⟨y0, y1, y2, y3, m, hm, hl, h0, h1, h2, h3, hw⟩ := struct4w Try.underlying36 h
    have hl4 : cs.length = 4 := by rw [hl]; kernel_rfl
    obtain ⟨v0, v1, v2, v3, rfl⟩ : ∃ v0 v1 v2 v3, cs = [v0, v1, v2, v3] := by
      match cs, hl4 with
      | [a, b, c, d], _ => exact ⟨a, b, c, d, rfl⟩
    simp only [ci, cs1, ck, List.drop_zero, List.take_succ_cons, List.take_zero, List.drop_succ_cons] at h0 h1 h2 h3
    obtain ⟨z, e0, b0⟩ := open_fit h0
    obtain ⟨a, e1, b1, w1⟩ := open_txt_w h1
    obtain ⟨o, e2, b2, w2⟩ := open_txt_w h2
    obtain ⟨A, ks, c, e3, hr, b3, w3⟩ := open_row_w (k := 4) (R := ExAt) (T := fun e d => InW Try.prog 36 (txE e) d) Try.underlying34 (by kernel_rfl) (by decide) (fun j hj cs y hy => ih j (by omega) cs y hy) h3
    injection e0 with e0 _
    injection e1 with e1 _
    injection e2 with e2 _
    injection e3 with e3 _
    subst e0 e1 e2 e3
    refine ⟨.mk z a o ks, ExAt.of_row ⟨b0, b1, b2, b3.2⟩ hr, hw _ (fun u hu => ?_)⟩
    unfold txE at hu
    rcases List.mem_cons.1 hu with rfl | hu
    · exact .inr (.inl w1)
    rcases List.mem_cons.1 hu with rfl | hu
    · exact .inr (.inr (.inl w2))
    · refine .inr (.inr (.inr (InW.slice Try.underlying34 (f := txE) w3 u ?_)))
      obtain ⟨x, hx, hu⟩ := txL_mem.1 hu
      exact List.mem_flatMap.2 ⟨x, hx, hu⟩
theorem open_rf_w (n : Nat) (cs : List Value) (y : DataW H × List MemPlace) (h : DataW.trod enc Try.prog W 0 (fun _ => true) true n 51 cs = some y) : ∃ x : Rf, RfAt W noF x cs ∧ InW Try.prog 51 (txF x) y.1 := by
  have cs1 : Try.prog.cellsOf 9 = 1 := by kernel_rfl
  obtain ⟨y0, y1, m, hm, hl, h0, h1, hw⟩ := struct2w Try.underlying51 h
  have hl2 : cs.length = 2 := by rw [hl]; kernel_rfl
  obtain ⟨v0, v1, rfl⟩ : ∃ v0 v1, cs = [v0, v1] := by
    match cs, hl2 with
    | [a, b], _ => exact ⟨a, b, rfl⟩
  simp only [cs1, List.drop_zero, List.take_succ_cons, List.take_zero, List.drop_succ_cons] at h0 h1
  obtain ⟨a, e0, b0, w0⟩ := open_txt_w h0
  obtain ⟨b, e1, b1, w1⟩ := open_txt_w h1
  injection e0 with e0 _
  injection e1 with e1 _
  subst e0 e1
  refine ⟨(a, b), ⟨rfl, b0, b1⟩, hw _ (fun u hu => ?_)⟩
  unfold txF at hu
  rcases List.mem_cons.1 hu with rfl | hu
  · exact .inl w0
  · rw [List.mem_singleton.1 hu]
    exact .inr w1
theorem open_rl_w (n : Nat) (cs : List Value) (y : DataW H × List MemPlace) (h : DataW.trod enc Try.prog W 0 (fun _ => true) true n 38 cs = some y) : ∃ x : Rl, RlAt W noF x cs ∧ InW Try.prog 38 (txR x) y.1 := by
  have cs1 : Try.prog.cellsOf 9 = 1 := by kernel_rfl
  have cr : Try.prog.cellsOf 33 = 1 := by kernel_rfl
  have ce : Try.prog.cellsOf 36 = 4 := by kernel_rfl
  obtain ⟨y0, y1, y2, m, hm, hl, h0, h1, h2, hw⟩ := struct3w Try.underlying38 h
  have hl6 : cs.length = 6 := by rw [hl]; kernel_rfl
  obtain ⟨v0, v1, v2, v3, v4, v5, rfl⟩ : ∃ v0 v1 v2 v3 v4 v5, cs = [v0, v1, v2, v3, v4, v5] := by
    match cs, hl6 with
    | [a, b, c, d, e, f], _ => exact ⟨a, b, c, d, e, f, rfl⟩
  simp only [cs1, cr, ce, List.drop_zero, List.take_succ_cons, List.take_zero, List.drop_succ_cons] at h0 h1 h2
  obtain ⟨a, e0, b0, w0⟩ := open_txt_w h0
  obtain ⟨A, rs, c, e1, hr, b1, w1⟩ := open_row_w (k := 2) (R := RfAt) (T := fun x d => InW Try.prog 51 (txF x) d) Try.underlying33 (by kernel_rfl) (by decide) (fun j _ cs y hy => open_rf_w j cs y hy) h1
  obtain ⟨e, he, w2⟩ := open_ex_w _ _ _ h2
  injection e0 with e0 _
  injection e1 with e1 _
  subst e0 e1
  refine ⟨⟨a, rs, e⟩, ⟨A, c, _, rfl, ⟨b0, b1.2⟩, hr, he⟩, hw _ (fun u hu => ?_)⟩
  unfold txR at hu
  rcases List.mem_cons.1 hu with rfl | hu
  · exact .inl w0
  rcases List.mem_append.1 hu with hu | hu
  · exact .inr (.inl (InW.slice Try.underlying33 (f := txF) w1 u hu))
  · exact .inr (.inr (w2 u hu))
theorem open_ty_w (n : Nat) (cs : List Value) (y : DataW H × List MemPlace) (h : DataW.trod enc Try.prog W 0 (fun _ => true) true n 49 cs = some y) : ∃ x : Ty, TyAt W noF x cs ∧ InW Try.prog 49 (txT x) y.1 := by
  have cs1 : Try.prog.cellsOf 9 = 1 := by kernel_rfl
  have cr : Try.prog.cellsOf 47 = 1 := by kernel_rfl
  obtain ⟨y0, y1, m, hm, hl, h0, h1, hw⟩ := struct2w Try.underlying49 h
  have hl2 : cs.length = 2 := by rw [hl]; kernel_rfl
  obtain ⟨v0, v1, rfl⟩ : ∃ v0 v1, cs = [v0, v1] := by
    match cs, hl2 with
    | [a, b], _ => exact ⟨a, b, rfl⟩
  simp only [cs1, cr, List.drop_zero, List.take_succ_cons, List.take_zero, List.drop_succ_cons] at h0 h1
  obtain ⟨a, e0, b0, w0⟩ := open_txt_w h0
  obtain ⟨A, rs, c, e1, hr, b1, w1⟩ := open_row_w (k := 6) (R := RlAt) (T := fun x d => InW Try.prog 38 (txR x) d) Try.underlying47 (by kernel_rfl) (by decide) (fun j _ cs y hy => open_rl_w j cs y hy) h1
  injection e0 with e0 _
  injection e1 with e1 _
  subst e0 e1
  refine ⟨⟨a, rs⟩, ⟨A, c, rfl, ⟨⟨b0, b1.1⟩, b1.2⟩, hr⟩, hw _ (fun u hu => ?_)⟩
  unfold txT at hu
  rcases List.mem_cons.1 hu with rfl | hu
  · exact .inl w0
  · exact .inr (InW.slice Try.underlying47 (f := txR) w1 u hu)
theorem open_schema_w {v : Value} {d : DataW H} {ps : List MemPlace} {r : Reach} {b0 : Nat} (hval : Value.okWide Try.prog W r b0 25 v) (h : DataW.Trod enc Try.prog W 0 (fun _ => true) true 25 v d ps) :
    ∃ (A : Option Addr) (s : Sc) (c : Nat), v = .agg #[.slice A s.length c] ∧ ScAt W noF A s ∧ (s.length ≤ 9223372036854775807 ∧ s.length ≤ c) ∧ InW Try.prog 25 (txS s) d := by
  obtain ⟨cs, rfl, hsz⟩ := okWide_struct Try.underlying25 hval
  obtain ⟨fuel, hf⟩ := h
  have hf' : DataW.trod enc Try.prog W 0 (fun _ => true) true fuel 25 cs.toList = some (d, ps) := by simpa [Value.cells] using hf
  have hl1 : cs.toList.length = 1 := by rw [Array.length_toList, hsz]; kernel_rfl
  obtain ⟨v0, hcs⟩ : ∃ v0, cs.toList = [v0] := by
    match cs.toList, hl1 with
    | [a], _ => exact ⟨a, rfl⟩
  have ecs : cs = #[v0] := Array.toList_inj.1 hcs
  subst ecs
  obtain ⟨y0, n, _, _, h0, hw⟩ := struct1w Try.underlying25 hf'
  have ct : Try.prog.cellsOf 23 = 1 := by kernel_rfl
  simp only [ct, List.drop_zero, List.take_succ_cons, List.take_zero] at h0
  obtain ⟨A, s, c, e0, hr, b, w0⟩ := open_row_w (k := 2) (R := TyAt) (T := fun x d => InW Try.prog 49 (txT x) d) Try.underlying23 (by kernel_rfl) (by decide) (fun j _ cs y hy => open_ty_w j cs y hy) h0
  injection e0 with e0 _
  subst e0
  exact ⟨A, s, c, rfl, hr, ⟨b.2, b.1⟩, hw _ (fun u hu => InW.slice Try.underlying23 (f := txT) w0 u hu)⟩
theorem texts_reach {ts : List TypeId} {ds : List (DataW H)} {j : Nat} {l : List Txt} {d : DataW H} (h : (DataW.weightsEach Try.prog ts ds).all (· ≤ reachBytes) = true) (ht : ts[j]? = some 25) (hd : ds[j]? = some d) (hw : InW Try.prog 25 l d) :
    ∀ u ∈ l, u.length ≤ 140737488351232 := fun u hu => by
  have h1 := List.all_eq_true.1 h _ (DataW.weights_mem_each ht hd _ (hw u hu))
  have e : reachBytes = 140737488351232 := by decide
  have h2 := of_decide_eq_true h1
  omega
end
end Go.Proofs.Ytdnhbledndgbcaa
