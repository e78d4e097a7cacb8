/-
  From a walk to a row: what every law of this seat shares. A law answers true and leaves what was there as it was; its arguments are numbers, bytes and texts. No conditions of its own.
  Arguments of this layer: an expression, a schema. No conditions.
  A schema as an argument, and how long its texts are. No conditions.
  Arguments of this layer: a tuple by value (an object, a relation, a subject: six texts). No conditions.
  Arguments of this layer: a list of tuples, an object by value. No conditions.
-/
import Derived.Test.YtehabjiacgibpaaGreatCFlat
import Derived.ProofKit
import Derived.OpenShut
import Derived.Carry
import Derived.SizedLaws
import Derived.Test.YtehabjiacgibpaaGreatCNmSub
import Derived.Lib.SmallJoins
import Derived.Test.YtehabjiacgibpaaGreatCRoCr
import Derived.Test.YtehabjiacgibpaaGreatCTuE
namespace Go.Proofs.YtehabjiacgibpaaGreat
open Go.ChangeShapes Go.WideShapes Go.ChangeAt Go.RowKit
section
variable {H : Type} {enc : TypeId × Value → H} {P : Program}
theorem trodAll_stays (hl : laidOutB P = true) {W W' : World} (hb : Below W.heap.size W W') :
    ∀ {ts : List TypeId} {vs : List Value} {ds : List (DataW H)} {ps : List MemPlace}, (∀ t ∈ ts, P.readableRec t = true ∧ t < P.types.size) → (∀ x ∈ ps, x.block < W.heap.size) →
      DataW.TrodAll enc P W 0 (fun _ => true) true ts vs ds ps → DataW.TrodAll enc P W' 0 (fun b => decide (b < W.heap.size)) true ts vs ds ps
  | [], vs, ds, ps, _, _, h => by
    obtain ⟨rfl, rfl, rfl⟩ := trodAll_nil h
    exact trodAll_mk0
  | t :: ts, vs, ds, ps, ht, hlt, h => by
    obtain ⟨v, vs', d, ds', p, q, rfl, rfl, rfl, h1, h2⟩ := trodAll_cons h
    have ht0 := ht t (by simp)
    exact trodAll_cons_mk (Below.trod hl ht0.1 ht0.2 h1 hb (fun x hx => hlt x (by simp [hx]))) (trodAll_stays hl hb (fun t h => ht t (by simp [h])) (fun x hx => hlt x (by simp [hx])) h2)
theorem law_post {f : Func} {s : ChangeSpec} {tb : TypeId} (hvars : s.vars = []) (hres : f.resultTypes = #[tb]) (htb : P.underlying tb = some .bool) (hl : laidOutB P = true) (hread : ∀ t ∈ f.params.toList, P.readableRec t = true ∧ t < P.types.size)
    {W W' : World} {args : Array Value} {ds gs : List (DataW H)} {before : List MemPlace} (hW : DataW.Whole enc P f.params.toList s.vars false W args.toList ds gs before)
    (hfn : s.fn H (ds ++ gs) = { results := [.lit (.bool true)], args := ds }) (hb : Below W.heap.size W W') : s.post enc P f false true false false W args (.bool true) W' := by
  have hlt : ∀ p ∈ before, p.block < W.heap.size := fun p hp => hW.lt p hp
  have hW' := hW
  obtain ⟨p, q, hA, hV, rfl, _, _⟩ := hW
  rw [hvars] at hV
  obtain ⟨rfl, rfl⟩ := trodVars_none hV
  refine ⟨ds, [], _, [], p, [], hW', ?_, ?_, ?_, World.keptBut_mono (fun x hx => ⟨hx, ?_⟩) (hb.frame (· ∈ p ++ [])), fun h => by cases h⟩
  · rw [hfn, hres]
    exact trodAll_cons_mk (shut_bool htb _) trodAll_mk0
  · rw [hfn]
    exact trodAll_stays hl hb hread (fun x hx => hlt x (by simp [hx])) hA
  · rw [hfn, hvars]
    rfl
  · simpa using hx
end
end Go.Proofs.YtehabjiacgibpaaGreat
namespace Go.Proofs.YtehabjiacgibpaaGreat
open Go.ChangeShapes Go.WideShapes Go.ChangeAt Go.RowKit
set_option maxRecDepth 100000
section
variable {H : Type} {enc : TypeId × Value → H} {W : World}
abbrev noF : Nat → Prop := fun _ => False
end
end Go.Proofs.YtehabjiacgibpaaGreat
namespace Go.Proofs.YtehabjiacgibpaaGreat
open Go.ChangeShapes Go.WideShapes Go.ChangeAt Go.RowKit
set_option maxRecDepth 100000
section
variable {H : Type} {enc : TypeId × Value → H} {W : World}
theorem weights_all {P : Program} {e : TypeId} : ∀ {l : List (DataW H)} {d : DataW H}, d ∈ l → ∀ n ∈ d.weights P e, n ∈ DataW.weightsAll P e l
  | d' :: r, d, hd, n, hn => by
    simp only [DataW.weightsAll, List.mem_append]
    rcases List.mem_cons.1 hd with rfl | h
    · exact Or.inl hn
    · exact Or.inr (weights_all h n hn)
def InW (P : Program) (t : TypeId) (l : List Txt) (d : DataW H) : Prop := ∀ u ∈ l, u.length ∈ d.weights P t
theorem InW.nil {P : Program} {t : TypeId} {d : DataW H} : InW P t [] d := fun u hu => by cases hu
theorem InW.slice {α : Type} {P : Program} {t e : TypeId} (ht : P.underlying t = some (.slice e)) {f : α → List Txt} {l : List α} {d : DataW H} (h : l = [] ∨ ∃ elems spare, d = .slice elems spare ∧ ∀ x ∈ l, ∃ y ∈ elems, InW P e (f x) y) : InW P t (l.flatMap f) d := by
  rcases h with rfl | ⟨elems, spare, rfl, h⟩
  · exact InW.nil
  · intro u hu
    obtain ⟨x, hx, hu⟩ := List.mem_flatMap.1 hu
    obtain ⟨y, hy, hw⟩ := h x hx
    simp only [DataW.weights, ht, List.mem_cons, List.mem_append]
    exact .inr (.inl (weights_all hy _ (hw u hu)))
theorem open_row_w {α : Type} {P : Program} {t e : TypeId} {k fuel : Nat} {R : World → (Nat → Prop) → α → List Value → Prop} {T : α → DataW H → Prop} {cs : List Value} {y : DataW H × List MemPlace} (ht : P.underlying t = some (.slice e)) (hk : P.cellsOf e = k) (hk0 : 0 < k)
    (hR : ∀ m, m < fuel → ∀ cs y, DataW.trod enc P W 0 (fun _ => true) true m e cs = some y → ∃ x, R W noF x cs ∧ T x y.1) (h : DataW.trod enc P W 0 (fun _ => true) true fuel t cs = some y) :
    ∃ (A : Option Addr) (l : List α) (c : Nat), cs = [.slice A l.length c] ∧ RowAt k R W noF A l ∧ (l.length ≤ c ∧ l.length ≤ 9223372036854775807) ∧ (l = [] ∨ ∃ elems spare, y.1 = .slice elems spare ∧ ∀ x ∈ l, ∃ d ∈ elems, T x d) := by
  rcases DataW.trod_slice ht h with ⟨h1, _⟩ | ⟨a, len, cap, elems, rest, n, hn, h1, hy, _, hlc, hcm, hlen, hel, _⟩
  · exact ⟨none, [], 0, h1, .inl rfl, by simp, .inl rfl⟩
  · subst h1
    have each : ∀ i, i < len → ∃ p : α × List Value, W.cells? 0 (a.add (i * k)) k = some p.2 ∧ R W noF p.1 p.2 ∧ ∃ d ∈ elems.map (·.1), T p.1 d := by
      intro i hi
      have := hel i hi
      rw [hk, List.getElem?_eq_getElem (by omega)] at this
      obtain ⟨cs, hcs, hy⟩ := Option.bind_eq_some_iff.1 this
      obtain ⟨x, hx, hT⟩ := hR n (by omega) cs _ hy
      exact ⟨(x, cs), hcs, hx, _, List.mem_map.2 ⟨_, List.getElem_mem _, rfl⟩, hT⟩
    by_cases h0 : len = 0
    · subst h0; exact ⟨some a, [], cap, rfl, .inl rfl, by simp, .inl rfl⟩
    haveI : Inhabited (α × List Value) := ⟨(each 0 (by omega)).choose⟩
    obtain ⟨f, hfo⟩ := Go.Deep.choose_lt each
    have hl : ((List.range len).map (fun i => (f i).1)).length = len := by simp
    refine ⟨some a, (List.range len).map (fun i => (f i).1), cap, by rw [hl], ?_, ⟨by rw [hl]; exact hlc, by rw [hl]; unfold maxLen at hcm; omega⟩, .inr ⟨_, _, by rw [hy], fun x hx => ?_⟩⟩
    · obtain ⟨b, off, spot⟩ := a
      have hspot : spot = none := by
        have h2 := (World.cells?_some (hfo 0 (by omega)).1).2.2 0 hk0
        have h3 := (World.cells?_some (hfo 0 (by omega)).1).2.1
        rw [List.getElem?_eq_getElem (by omega)] at h2
        simpa [Addr.add] using World.cell?_spot h2
      subst hspot
      have hc : ∀ i, i < len → ∀ j, j < k → W.cell? ⟨b, off + i * k + j, none⟩ = (f i).2[j]? := fun i hi j hj => by
        have := (World.cells?_some (hfo i hi).1).2.2 j hj
        rwa [add_plain, add_plain] at this
      have hb : b < W.heap.size := by
        have h2 := hc 0 (by omega) 0 hk0
        have h3 := (World.cells?_some (hfo 0 (by omega)).1).2.1
        rw [List.getElem?_eq_getElem (by omega)] at h2
        exact World.block_lt_of_cell? W _ h2
      refine .inr ⟨b, off, rfl, hb, fun h => h, fun j hj => ?_⟩
      rw [hl] at hj
      simp only [List.getElem_map, List.getElem_range]
      exact ⟨(f j).2, (hfo j hj).2.1, fun i hi => hc j hj i hi⟩
    · obtain ⟨i, hi, rfl⟩ := List.mem_map.1 hx
      exact (hfo i (List.mem_range.1 hi)).2.2
theorem struct2w {P : Program} {t : TypeId} {f0 f1 : Field} {fuel : Nat} {cs : List Value} {y : DataW H × List MemPlace} (ht : P.underlying t = some (.struct #[f0, f1])) (h : DataW.trod enc P W 0 (fun _ => true) true fuel t cs = some y) :
    ∃ y0 y1 n, fuel = n + 1 ∧ cs.length = P.cellsOf t ∧ DataW.trod enc P W 0 (fun _ => true) true n f0.type ((cs.drop f0.offset).take (P.cellsOf f0.type)) = some y0 ∧ DataW.trod enc P W 0 (fun _ => true) true n f1.type ((cs.drop f1.offset).take (P.cellsOf f1.type)) = some y1 ∧ ∀ l : List Txt, (∀ u ∈ l, u.length ∈ y0.1.weights P f0.type ∨ u.length ∈ y1.1.weights P f1.type) → InW P t l y.1 := by
  obtain ⟨xs, n, hn, rfl, hl, hlen, hf⟩ := DataW.trod_struct ht h
  match xs, hlen with
  | [y0, y1], _ =>
    refine ⟨y0, y1, n, hn, hl, by simpa using hf 0 f0 rfl, by simpa using hf 1 f1 rfl, fun l hl u hu => ?_⟩
    have hu := hl u hu
    simp only [DataW.weights, ht, List.map_cons, List.map_nil, DataW.weightsEach, List.mem_append]
    simpa using hu
theorem struct3w {P : Program} {t : TypeId} {f0 f1 f2 : Field} {fuel : Nat} {cs : List Value} {y : DataW H × List MemPlace} (ht : P.underlying t = some (.struct #[f0, f1, f2])) (h : DataW.trod enc P W 0 (fun _ => true) true fuel t cs = some y) :
    ∃ y0 y1 y2 n, fuel = n + 1 ∧ cs.length = P.cellsOf t ∧ DataW.trod enc P W 0 (fun _ => true) true n f0.type ((cs.drop f0.offset).take (P.cellsOf f0.type)) = some y0 ∧ DataW.trod enc P W 0 (fun _ => true) true n f1.type ((cs.drop f1.offset).take (P.cellsOf f1.type)) = some y1 ∧ DataW.trod enc P W 0 (fun _ => true) true n f2.type ((cs.drop f2.offset).take (P.cellsOf f2.type)) = some y2 ∧ ∀ l : List Txt, (∀ u ∈ l, u.length ∈ y0.1.weights P f0.type ∨ u.length ∈ y1.1.weights P f1.type ∨ u.length ∈ y2.1.weights P f2.type) → InW P t l y.1 := by
  obtain ⟨xs, n, hn, rfl, hl, hlen, hf⟩ := DataW.trod_struct ht h
  match xs, hlen with
  | [y0, y1, y2], _ =>
    refine ⟨y0, y1, y2, n, hn, hl, by simpa using hf 0 f0 rfl, by simpa using hf 1 f1 rfl, by simpa using hf 2 f2 rfl, fun l hl u hu => ?_⟩
    have hu := hl u hu
    simp only [DataW.weights, ht, List.map_cons, List.map_nil, DataW.weightsEach, List.mem_append]
    simpa using hu
theorem open_txt_w {n : Nat} {cs : List Value} {y : DataW H × List MemPlace} (h : DataW.trod enc Tryz.prog W 0 (fun _ => true) true n 9 cs = some y) : ∃ l : Txt, cs = [strV l] ∧ small l ∧ l.length ∈ y.1.weights Tryz.prog 9 := by
  obtain ⟨s, hs, hy, hm⟩ := DataW.trod_string Tryz.underlying9 h
  refine ⟨s.data.toList, hs, ?_, ?_⟩
  · unfold maxLen at hm
    unfold small
    rw [size_list]; exact hm
  · rw [hy]
    simp [DataW.weights]
end
end Go.Proofs.YtehabjiacgibpaaGreat
namespace Go.Proofs.YtehabjiacgibpaaGreat
open Go.ChangeShapes Go.WideShapes Go.ChangeAt Go.RowKit
section
variable {H : Type} {enc : TypeId × Value → H} {W : World}
set_option maxRecDepth 100000 in
theorem txt_field {n : Nat} {v : Value} {y : DataW H × List MemPlace} (h : DataW.trod enc Tryz.prog W 0 (fun _ => true) true n 9 [v] = some y) : ∃ l : Txt, v = strV l ∧ l.length ≤ 9223372036854775807 := by
  obtain ⟨s, hs, _, hm⟩ := DataW.trod_string Tryz.underlying9 h
  injection hs with hs _
  refine ⟨s.data.toList, hs, ?_⟩
  unfold maxLen at hm
  rw [size_list]; exact hm
set_option maxRecDepth 100000 in
theorem open_tuple {v : Value} {d : DataW H} {ps : List MemPlace} {r : Reach} {b0 : Nat} (hval : Value.okWide Tryz.prog W r b0 34 v) (h : DataW.Trod enc Tryz.prog W 0 (fun _ => true) true 34 v d ps) :
    ∃ a b c e f g : Txt, v = .agg #[strV a, strV b, strV c, strV e, strV f, strV g] ∧ (a.length ≤ 9223372036854775807 ∧ b.length ≤ 9223372036854775807 ∧ c.length ≤ 9223372036854775807) ∧ e.length ≤ 9223372036854775807 ∧ f.length ≤ 9223372036854775807 ∧ g.length ≤ 9223372036854775807 := by
  obtain ⟨cs, rfl, hsz⟩ := okWide_struct Tryz.underlying34 hval
  have h6 : cs.toList.length = 6 := by rw [Array.length_toList, hsz]; kernel_rfl
  obtain ⟨fuel, hf⟩ := h
  have hf' : DataW.trod enc Tryz.prog W 0 (fun _ => true) true fuel 34 cs.toList = some (d, ps) := by simpa [Value.cells] using hf
  obtain ⟨v0, v1, v2, v3, v4, v5, hcs⟩ : ∃ v0 v1 v2 v3 v4 v5, cs.toList = [v0, v1, v2, v3, v4, v5] := by
    match cs.toList, h6 with
    | [a, b, c, d, e, f], _ => exact ⟨a, b, c, d, e, f, rfl⟩
  have ecs : cs = #[v0, v1, v2, v3, v4, v5] := Array.toList_inj.1 hcs
  subst ecs
  have c1 : Tryz.prog.cellsOf 9 = 1 := by kernel_rfl
  have c2 : Tryz.prog.cellsOf 24 = 2 := by kernel_rfl
  have c3 : Tryz.prog.cellsOf 32 = 3 := by kernel_rfl
  obtain ⟨y0, y1, y2, n, _, _, k0, k1, k2⟩ := Go.Deep.trod_struct3 Tryz.underlying34 hf'
  simp only [c1, c2, c3, List.drop_zero, List.take_succ_cons, List.take_zero, List.drop_succ_cons] at k0 k1 k2
  obtain ⟨z0, z1, n0, _, _, m0, m1⟩ := trod_struct2 Tryz.underlying24 k0
  simp only [c1, List.drop_zero, List.take_succ_cons, List.take_zero, List.drop_succ_cons] at m0 m1
  obtain ⟨z2, z3, n1, _, _, m2, m3⟩ := trod_struct2 Tryz.underlying32 k2
  simp only [c1, c2, List.drop_zero, List.take_succ_cons, List.take_zero, List.drop_succ_cons] at m2 m3
  obtain ⟨z4, z5, n2, _, _, m4, m5⟩ := trod_struct2 Tryz.underlying24 m2
  simp only [c1, List.drop_zero, List.take_succ_cons, List.take_zero, List.drop_succ_cons] at m4 m5
  obtain ⟨a, rfl, ha⟩ := txt_field m0
  obtain ⟨b, rfl, hb⟩ := txt_field m1
  obtain ⟨c, rfl, hc⟩ := txt_field k1
  obtain ⟨e, rfl, he⟩ := txt_field m4
  obtain ⟨f, rfl, hf1⟩ := txt_field m5
  obtain ⟨g, rfl, hg⟩ := txt_field m3
  exact ⟨a, b, c, e, f, g, rfl, ⟨ha, hb, hc⟩, he, hf1, hg⟩
end
end Go.Proofs.YtehabjiacgibpaaGreat
namespace Go.Proofs.YtehabjiacgibpaaGreat
open Go.ChangeShapes Go.WideShapes Go.ChangeAt Go.RowKit
set_option maxRecDepth 100000
section
variable {H : Type} {enc : TypeId × Value → H} {W : World}
def TuAt0 (_ : World) (_ : Nat → Prop) (t : Tup) (cs : List Value) : Prop := cs = encT t
theorem open_tu_w (n : Nat) (cs : List Value) (y : DataW H × List MemPlace) (hf' : DataW.trod enc Tryz.prog W 0 (fun _ => true) true n 34 cs = some y) : ∃ x : Tup, TuAt0 W noF x cs ∧ InW Tryz.prog 34 (six x) y.1 := by
  have c1 : Tryz.prog.cellsOf 9 = 1 := by kernel_rfl
  have c2 : Tryz.prog.cellsOf 24 = 2 := by kernel_rfl
  have c3 : Tryz.prog.cellsOf 32 = 3 := by kernel_rfl
  obtain ⟨y0, y1, y2, m, _, hl, k0, k1, k2, hw⟩ := struct3w Tryz.underlying34 hf'
  have hl6 : cs.length = 6 := by rw [hl]; kernel_rfl
  obtain ⟨v0, v1, v2, v3, v4, v5, rfl⟩ : ∃ v0 v1 v2 v3 v4 v5, cs = [v0, v1, v2, v3, v4, v5] := by
    match cs, hl6 with
    | [a, b, c, d, e, f], _ => exact ⟨a, b, c, d, e, f, rfl⟩
  simp only [c1, c2, c3, List.drop_zero, List.take_succ_cons, List.take_zero, List.drop_succ_cons] at k0 k1 k2
  obtain ⟨z0, z1, m0, _, _, a0, a1, hw0⟩ := struct2w Tryz.underlying24 k0
  simp only [c1, List.drop_zero, List.take_succ_cons, List.take_zero, List.drop_succ_cons] at a0 a1
  obtain ⟨z2, z3, m1, _, _, a2, a3, hw1⟩ := struct2w Tryz.underlying32 k2
  simp only [c1, c2, List.drop_zero, List.take_succ_cons, List.take_zero, List.drop_succ_cons] at a2 a3
  obtain ⟨z4, z5, m2, _, _, a4, a5, hw2⟩ := struct2w Tryz.underlying24 a2
  simp only [c1, List.drop_zero, List.take_succ_cons, List.take_zero, List.drop_succ_cons] at a4 a5
  obtain ⟨q0, e0, _, w0⟩ := open_txt_w a0
  obtain ⟨q1, e1, _, w1⟩ := open_txt_w a1
  obtain ⟨q2, e2, _, w2⟩ := open_txt_w k1
  obtain ⟨q3, e3, _, w3⟩ := open_txt_w a4
  obtain ⟨q4, e4, _, w4⟩ := open_txt_w a5
  obtain ⟨q5, e5, _, w5⟩ := open_txt_w a3
  injection e0 with e0 _
  injection e1 with e1 _
  injection e2 with e2 _
  injection e3 with e3 _
  injection e4 with e4 _
  injection e5 with e5 _
  subst e0 e1 e2 e3 e4 e5
  have hO := hw0 [q0, q1] (fun u hu => by
    rcases List.mem_cons.1 hu with rfl | hu
    · exact .inl w0
    · rw [List.mem_singleton.1 hu]; exact .inr w1)
  have hO2 := hw2 [q3, q4] (fun u hu => by
    rcases List.mem_cons.1 hu with rfl | hu
    · exact .inl w3
    · rw [List.mem_singleton.1 hu]; exact .inr w4)
  have hS := hw1 [q3, q4, q5] (fun u hu => by
    rcases List.mem_cons.1 hu with rfl | hu
    · exact .inl (hO2 _ (by simp))
    rcases List.mem_cons.1 hu with rfl | hu
    · exact .inl (hO2 _ (by simp))
    · rw [List.mem_singleton.1 hu]; exact .inr w5)
  refine ⟨(q0, q1, q2, q3, q4, q5), rfl, hw _ (fun u hu => ?_)⟩
  simp only [six, List.mem_cons, List.not_mem_nil, or_false] at hu
  rcases hu with rfl | rfl | rfl | rfl | rfl | rfl
  · exact .inl (hO _ (by simp))
  · exact .inl (hO _ (by simp))
  · exact .inr (.inl w2)
  · exact .inr (.inr (hS _ (by simp)))
  · exact .inr (.inr (hS _ (by simp)))
  · exact .inr (.inr (hS _ (by simp)))
theorem open_tups {v : Value} {d : DataW H} {ps : List MemPlace} {r : Reach} {b0 : Nat} (hval : Value.okWide Tryz.prog W r b0 22 v) (h : DataW.Trod enc Tryz.prog W 0 (fun _ => true) true 22 v d ps) :
    ∃ (A : Option Addr) (l : List Tup) (c : Nat), v = .slice A l.length c ∧ RowAt 6 TuAt0 W noF A l ∧ l.length ≤ 9223372036854775807 ∧ InW Tryz.prog 22 (l.flatMap six) d := by
  have hsl : ∀ cs, v.cells.toList = [cs] → v = cs := by
    obtain ⟨a, n, c, rfl⟩ := okWide_slice Tryz.underlying22 hval
    intro cs h
    simpa [Value.cells] using h
  obtain ⟨fuel, hf⟩ := h
  obtain ⟨A, l, c, e0, hr, b, w0⟩ := open_row_w (k := 6) (R := TuAt0) (T := fun x d => InW Tryz.prog 34 (six x) d) Tryz.underlying22 (by kernel_rfl) (by decide) (fun j _ cs y hy => open_tu_w j cs y hy) hf
  exact ⟨A, l, c, hsl _ e0, hr, b.2, InW.slice Tryz.underlying22 (f := six) w0⟩
theorem tups_reach {ts : List TypeId} {ds : List (DataW H)} {j : Nat} {A : Option Addr} {l : List Tup} {d : DataW H} (h : (DataW.weightsEach Tryz.prog ts ds).all (· ≤ reachBytes) = true) (ht : ts[j]? = some 22) (hd : ds[j]? = some d) (hw : InW Tryz.prog 22 (l.flatMap six) d) (hr : RowAt 6 TuAt0 W noF A l) : TuR W A l := by
  have hu : ∀ t ∈ l, okT t := fun t ht2 u hu => by
    have h1 := List.all_eq_true.1 h _ (DataW.weights_mem_each ht hd _ (hw u (List.mem_flatMap.2 ⟨t, ht2, hu⟩)))
    have e : reachBytes = 140737488351232 := by decide
    have h2 := of_decide_eq_true h1
    omega
  rcases hr with hr | ⟨b, off, rfl, hb, hF, hk⟩
  · exact .inl hr
  · refine .inr ⟨b, off, rfl, hb, hF, fun j hj => ?_⟩
    obtain ⟨cs, h1, h2⟩ := hk j hj
    exact ⟨cs, ⟨h1, hu _ (List.getElem_mem hj)⟩, h2⟩
theorem open_obj {v : Value} {d : DataW H} {ps : List MemPlace} {r : Reach} {b0 : Nat} (hval : Value.okWide Tryz.prog W r b0 24 v) (h : DataW.Trod enc Tryz.prog W 0 (fun _ => true) true 24 v d ps) :
    ∃ a b : Txt, v = .agg #[strV a, strV b] ∧ a.length ≤ 9223372036854775807 ∧ b.length ≤ 9223372036854775807 := by
  obtain ⟨cs, rfl, hsz⟩ := okWide_struct Tryz.underlying24 hval
  have h2 : cs.toList.length = 2 := by rw [Array.length_toList, hsz]; kernel_rfl
  obtain ⟨fuel, hf⟩ := h
  have hf' : DataW.trod enc Tryz.prog W 0 (fun _ => true) true fuel 24 cs.toList = some (d, ps) := by simpa [Value.cells] using hf
  obtain ⟨v0, v1, hcs⟩ : ∃ v0 v1, cs.toList = [v0, v1] := by
    match cs.toList, h2 with
    | [a, b], _ => exact ⟨a, b, rfl⟩
  have ecs : cs = #[v0, v1] := Array.toList_inj.1 hcs
  subst ecs
  have c1 : Tryz.prog.cellsOf 9 = 1 := by kernel_rfl
  obtain ⟨z0, z1, n0, _, _, m0, m1, _⟩ := struct2w Tryz.underlying24 hf'
  simp only [c1, List.drop_zero, List.take_succ_cons, List.take_zero, List.drop_succ_cons] at m0 m1
  obtain ⟨a, e0, s0, _⟩ := open_txt_w m0
  obtain ⟨b, e1, s1, _⟩ := open_txt_w m1
  injection e0 with e0 _
  injection e1 with e1 _
  subst e0 e1
  exact ⟨a, b, rfl, s0, s1⟩
end
end Go.Proofs.YtehabjiacgibpaaGreat
