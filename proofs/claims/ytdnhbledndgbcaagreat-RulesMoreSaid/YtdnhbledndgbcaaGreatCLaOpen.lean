/-
  The document's Levels, walked. Conditions: the schema is there; no relation leans on too many.
  From a walk to a row: what every law of this seat shares. A law answers true and leaves what was there as it was; its arguments are numbers, bytes and texts. No conditions of its own.
  Arguments of this layer: an expression, a schema. No conditions.
-/
import Derived.Test.YtdnhbledndgbcaaGreatCRkRd
import Derived.Test.YtdnhbledndgbcaaGreatCNmRefN
import Derived.ProofKit
import Derived.OpenShut
import Derived.Carry
import Derived.SizedLaws
import Derived.Lib.SmallJoins
namespace Go.Proofs.YtdnhbledndgbcaaGreat
open Go.RowKit
def DlAre (W : World) (s : Sc) (e : Ending) (w' : World) : Prop := ∃ A n c, e = .returned (.tuple #[.slice A n c, .bool (decide ((docC s).2.2 = 0))]) ∧ Below W.heap.size W w' ∧ (((docC s).2.2 = 0 ∧ n = s.length ∧ IlAt w' (fun k => k < W.heap.size) A (levS s)) ∨ ((docC s).2.2 ≠ 0 ∧ A = none ∧ n = 0 ∧ c = 0))
set_option maxRecDepth 100000 in
set_option maxHeartbeats 4000000 in
theorem rlevels2_any (s : Sc) (A : Option Addr) (c : Nat) (hl : s.length ≤ 9223372036854775807) (hf : FewLn s) (F : Nat → Prop) (W : World) (hs : ScAt W F A s) :
    Calls Tryz.prog 8 #[.agg #[.slice A s.length c]] W (DlAre W s) := by
  obtain ⟨W1, hW⟩ : ∃ W1, W1 = W.alloc (.cells #[.slice A s.length c] 24) := ⟨_, rfl⟩
  have HKA : Hid (Blk W1 W.heap.size [.slice A s.length c] 24) := by rw [hW]; exact Lib.hid (Blk.new W _ _)
  have HB0 : Hid (Below W.heap.size W W1) := by rw [hW]; exact Lib.hid ((Below.refl _ _).alloc (Nat.le_refl _) _)
  have HW := Lib.hid hW
  have HX : Hid (∀ w, Below W1.heap.size W1 w → w.cell? ⟨W.heap.size, 0, none⟩ = some (.slice A s.length c)) := Lib.hid (fun w hw => (HKA.out.below hw HKA.out.lt).cell (i := 0) (by simp))
  have HF : Hid (∀ w, Below W1.heap.size W1 w → Below W.heap.size W w) := Lib.hid (fun w hw => HB0.out.trans (hw.mono HB0.out.size))
  have HS : Hid (∀ w, Below W1.heap.size W1 w → ScAt w F A s) := Lib.hid (fun w hw => hs.below (HF.out w hw))
  have HP := Lib.hid (rcheck_any s A c hl hf F W1 (HS.out W1 (Below.refl _ _)))
  have HRO : Hid ((docC s).2.2 = 0 → RwOk s) := Lib.hid (fun h => RwOk.of_plain (by
    unfold docC at h
    by_cases hp : (plainN s).2.2 = 0
    · exact hp
    · rw [if_pos hp] at h; exact h) hf)
  have hx0 := HX.out W1 (Below.refl _ _)
  rw [HW.out] at hx0
  clear hW hs hf
  unfold DlAre
  generalize docC s = pl at *
  obtain ⟨p1, p2, p3⟩ := pl
  by_cases hp : p3 = 0
  · subst hp
    have HK := Lib.hid (HRO.out rfl)
    clear HRO
    go_enter Tryz.func8, Tryz.ntmps8
    go_wp2_with (first
      | (go_at_call 11; rw [← HW.out]; (refine HP.out.mono ?_); rintro r w2 ⟨rfl, hb2⟩; clear hx0; have HB3 := Lib.hid (hb2.alloc hb2.size (.cells #[.int .i64 p1, .int .i64 p2, .int .i64 0] 33)); have y2 := (Blk.new w2 [.int .i64 p1, .int .i64 p2, .int .i64 0] 33).cell (i := 2) (by simp); have x0 := HX.out _ HB3.out; have HLV := Lib.hid (rlevels_any s A c HK.out F _ (HS.out _ HB3.out)); clear hb2)
      | (go_at_call 16; (with_reducible refine HLV.out.mono ?_); rintro r w4 ⟨A4, c4, rfl, hil, hb4⟩; have HB4 := Lib.hid (HB3.out.trans (hb4.mono HB3.out.size)); have HIL := Lib.hid hil; clear hil hb4))
    go_ret2
    exact ⟨A4, s.length, c4, rfl, HF.out w4 HB4.out, .inl ⟨by first | rfl | trivial, rfl, HIL.out.moved (Spared.refl _ _) (fun i hi => .inl (by have := HB3.out.size; have := HB0.out.size; have hi : i < W.heap.size := hi; omega)) (fun _ _ _ h => keeps_ir _ _ _ _ (Spared.refl _ _) (fun i hi => .inl (by have := HB3.out.size; have := HB0.out.size; have hi : i < W.heap.size := hi; omega)) _ _ h)⟩⟩
  · have q1 : ¬ (p3 : Int) = 0 := by omega
    have q2 : ((p3 : Int) != 0) = true := bne_iff_ne.2 q1
    have HD : Hid (decide (p3 = 0) = false) := Lib.hid (decide_eq_false hp)
    have HP3 := Lib.hid hp
    clear hp HRO
    go_enter Tryz.func8, Tryz.ntmps8
    go_wp2_with (go_at_call 11; rw [← HW.out]; (refine HP.out.mono ?_); rintro r w2 ⟨rfl, hb2⟩; clear hx0; have HB3 := Lib.hid (hb2.alloc hb2.size (.cells #[.int .i64 p1, .int .i64 p2, .int .i64 (p3 : Int)] 33)); have y2 := (Blk.new w2 [.int .i64 p1, .int .i64 p2, .int .i64 (p3 : Int)] 33).cell (i := 2) (by simp); simp only [List.getElem_cons_zero, List.getElem_cons_succ] at y2; clear hb2)
    go_ret2
    exact ⟨none, 0, 0, by rw [HD.out]; rfl, HF.out _ HB3.out, .inr ⟨HP3.out, rfl, rfl, rfl⟩⟩
end Go.Proofs.YtdnhbledndgbcaaGreat
namespace Go.Proofs.YtdnhbledndgbcaaGreat
open Go.ChangeShapes Go.WideShapes Go.ChangeAt Go.RowKit
section
variable {H : Type} {enc : TypeId × Value → H} {P : Program}
theorem trodAll_stays (hl : laidOutB P = true) {W W' : World} (hb : Below W.heap.size W W') :
    ∀ {ts : List TypeId} {vs : List Value} {ds : List (DataW H)} {ps : List MemPlace}, (∀ t ∈ ts, P.readableRec t = true ∧ t < P.types.size) → (∀ x ∈ ps, x.block < W.heap.size) →
      DataW.TrodAll enc P W 0 (fun _ => true) true ts vs ds ps → DataW.TrodAll enc P W' 0 (fun b => decide (b < W.heap.size)) true ts vs ds ps
  | [], vs, ds, ps, _, _, h => by
    obtain ⟨rfl, rfl, rfl⟩ := trodAll_nil h
    exact trodAll_mk0
  | t :: ts, vs, ds, ps, ht, hlt, h => by
    obtain ⟨v, vs', d, ds', p, q, rfl, rfl, rfl, h1, h2⟩ := trodAll_cons h
    have ht0 := ht t (by simp)
    exact trodAll_cons_mk (Below.trod hl ht0.1 ht0.2 h1 hb (fun x hx => hlt x (by simp [hx]))) (trodAll_stays hl hb (fun t h => ht t (by simp [h])) (fun x hx => hlt x (by simp [hx])) h2)
theorem law_post {f : Func} {s : ChangeSpec} {tb : TypeId} (hvars : s.vars = []) (hres : f.resultTypes = #[tb]) (htb : P.underlying tb = some .bool) (hl : laidOutB P = true) (hread : ∀ t ∈ f.params.toList, P.readableRec t = true ∧ t < P.types.size)
    {W W' : World} {args : Array Value} {ds gs : List (DataW H)} {before : List MemPlace} (hW : DataW.Whole enc P f.params.toList s.vars false W args.toList ds gs before)
    (hfn : s.fn H (ds ++ gs) = { results := [.lit (.bool true)], args := ds }) (hb : Below W.heap.size W W') : s.post enc P f false true false false W args (.bool true) W' := by
  have hlt : ∀ p ∈ before, p.block < W.heap.size := fun p hp => hW.lt p hp
  have hW' := hW
  obtain ⟨p, q, hA, hV, rfl, _, _⟩ := hW
  rw [hvars] at hV
  obtain ⟨rfl, rfl⟩ := trodVars_none hV
  refine ⟨ds, [], _, [], p, [], hW', ?_, ?_, ?_, World.keptBut_mono (fun x hx => ⟨hx, ?_⟩) (hb.frame (· ∈ p ++ [])), fun h => by cases h⟩
  · rw [hfn, hres]
    exact trodAll_cons_mk (shut_bool htb _) trodAll_mk0
  · rw [hfn]
    exact trodAll_stays hl hb hread (fun x hx => hlt x (by simp [hx])) hA
  · rw [hfn, hvars]
    rfl
  · simpa using hx
end
end Go.Proofs.YtdnhbledndgbcaaGreat
namespace Go.Proofs.YtdnhbledndgbcaaGreat
open Go.ChangeShapes Go.WideShapes Go.ChangeAt Go.RowKit
set_option maxRecDepth 100000
section
variable {H : Type} {enc : TypeId × Value → H} {W : World}
abbrev noF : Nat → Prop := fun _ => False
theorem open_row {α : Type} {P : Program} {t e : TypeId} {k fuel : Nat} {R : World → (Nat → Prop) → α → List Value → Prop} {cs : List Value} {y : DataW H × List MemPlace} (ht : P.underlying t = some (.slice e)) (hk : P.cellsOf e = k) (hk0 : 0 < k)
    (hR : ∀ m, m < fuel → ∀ cs y, DataW.trod enc P W 0 (fun _ => true) true m e cs = some y → ∃ x, R W noF x cs) (h : DataW.trod enc P W 0 (fun _ => true) true fuel t cs = some y) :
    ∃ (A : Option Addr) (l : List α) (c : Nat), cs = [.slice A l.length c] ∧ RowAt k R W noF A l ∧ (l.length ≤ c ∧ l.length ≤ 9223372036854775807) := by
  rcases DataW.trod_slice ht h with ⟨h1, _⟩ | ⟨a, len, cap, elems, rest, n, hn, h1, _, _, hlc, hcm, hlen, hel, _⟩
  · exact ⟨none, [], 0, h1, .inl rfl, by simp, by simp⟩
  · subst h1
    have each : ∀ i, i < len → ∃ p : α × List Value, W.cells? 0 (a.add (i * k)) k = some p.2 ∧ R W noF p.1 p.2 := by
      intro i hi
      have := hel i hi
      rw [hk, List.getElem?_eq_getElem (by omega)] at this
      obtain ⟨cs, hcs, hy⟩ := Option.bind_eq_some_iff.1 this
      obtain ⟨x, hx⟩ := hR n (by omega) cs _ hy
      exact ⟨(x, cs), hcs, hx⟩
    by_cases h0 : len = 0
    · subst h0; exact ⟨some a, [], cap, rfl, .inl rfl, by simp, by simp⟩
    haveI : Inhabited (α × List Value) := ⟨(each 0 (by omega)).choose⟩
    obtain ⟨f, hfo⟩ := Go.Deep.choose_lt each
    have hl : ((List.range len).map (fun i => (f i).1)).length = len := by simp
    refine ⟨some a, (List.range len).map (fun i => (f i).1), cap, by rw [hl], ?_, by rw [hl]; exact hlc, by rw [hl]; unfold maxLen at hcm; omega⟩
    · obtain ⟨b, off, spot⟩ := a
      have hspot : spot = none := by
        have h2 := (World.cells?_some (hfo 0 (by omega)).1).2.2 0 hk0
        have h3 := (World.cells?_some (hfo 0 (by omega)).1).2.1
        rw [List.getElem?_eq_getElem (by omega)] at h2
        simpa [Addr.add] using World.cell?_spot h2
      subst hspot
      have hc : ∀ i, i < len → ∀ j, j < k → W.cell? ⟨b, off + i * k + j, none⟩ = (f i).2[j]? := fun i hi j hj => by
        have := (World.cells?_some (hfo i hi).1).2.2 j hj
        rwa [add_plain, add_plain] at this
      have hb : b < W.heap.size := by
        have h2 := hc 0 (by omega) 0 hk0
        have h3 := (World.cells?_some (hfo 0 (by omega)).1).2.1
        rw [List.getElem?_eq_getElem (by omega)] at h2
        exact World.block_lt_of_cell? W _ h2
      refine .inr ⟨b, off, rfl, hb, fun h => h, fun j hj => ?_⟩
      rw [hl] at hj
      simp only [List.getElem_map, List.getElem_range]
      exact ⟨(f j).2, (hfo j hj).2, fun i hi => hc j hj i hi⟩
theorem struct2f {P : Program} {t : TypeId} {f0 f1 : Field} {fuel : Nat} {cs : List Value} {y : DataW H × List MemPlace} (ht : P.underlying t = some (.struct #[f0, f1])) (h : DataW.trod enc P W 0 (fun _ => true) true fuel t cs = some y) :
    ∃ y0 y1 n, fuel = n + 1 ∧ cs.length = P.cellsOf t ∧ DataW.trod enc P W 0 (fun _ => true) true n f0.type ((cs.drop f0.offset).take (P.cellsOf f0.type)) = some y0 ∧ DataW.trod enc P W 0 (fun _ => true) true n f1.type ((cs.drop f1.offset).take (P.cellsOf f1.type)) = some y1 := by
  obtain ⟨xs, n, hn, rfl, hl, hlen, hf⟩ := DataW.trod_struct ht h
  match xs, hlen with
  | [y0, y1], _ => exact ⟨y0, y1, n, hn, hl, by simpa using hf 0 f0 rfl, by simpa using hf 1 f1 rfl⟩
theorem struct3f {P : Program} {t : TypeId} {f0 f1 f2 : Field} {fuel : Nat} {cs : List Value} {y : DataW H × List MemPlace} (ht : P.underlying t = some (.struct #[f0, f1, f2])) (h : DataW.trod enc P W 0 (fun _ => true) true fuel t cs = some y) :
    ∃ y0 y1 y2 n, fuel = n + 1 ∧ cs.length = P.cellsOf t ∧ DataW.trod enc P W 0 (fun _ => true) true n f0.type ((cs.drop f0.offset).take (P.cellsOf f0.type)) = some y0 ∧ DataW.trod enc P W 0 (fun _ => true) true n f1.type ((cs.drop f1.offset).take (P.cellsOf f1.type)) = some y1 ∧
      DataW.trod enc P W 0 (fun _ => true) true n f2.type ((cs.drop f2.offset).take (P.cellsOf f2.type)) = some y2 := by
  obtain ⟨xs, n, hn, rfl, hl, hlen, hf⟩ := DataW.trod_struct ht h
  match xs, hlen with
  | [y0, y1, y2], _ => exact ⟨y0, y1, y2, n, hn, hl, by simpa using hf 0 f0 rfl, by simpa using hf 1 f1 rfl, by simpa using hf 2 f2 rfl⟩
theorem struct4f {P : Program} {t : TypeId} {f0 f1 f2 f3 : Field} {fuel : Nat} {cs : List Value} {y : DataW H × List MemPlace} (ht : P.underlying t = some (.struct #[f0, f1, f2, f3])) (h : DataW.trod enc P W 0 (fun _ => true) true fuel t cs = some y) :
    ∃ y0 y1 y2 y3 n, fuel = n + 1 ∧ cs.length = P.cellsOf t ∧ DataW.trod enc P W 0 (fun _ => true) true n f0.type ((cs.drop f0.offset).take (P.cellsOf f0.type)) = some y0 ∧ DataW.trod enc P W 0 (fun _ => true) true n f1.type ((cs.drop f1.offset).take (P.cellsOf f1.type)) = some y1 ∧
      DataW.trod enc P W 0 (fun _ => true) true n f2.type ((cs.drop f2.offset).take (P.cellsOf f2.type)) = some y2 ∧ DataW.trod enc P W 0 (fun _ => true) true n f3.type ((cs.drop f3.offset).take (P.cellsOf f3.type)) = some y3 := by
  obtain ⟨xs, n, hn, rfl, hl, hlen, hf⟩ := DataW.trod_struct ht h
  match xs, hlen with
  | [y0, y1, y2, y3], _ => exact ⟨y0, y1, y2, y3, n, hn, hl, by simpa using hf 0 f0 rfl, by simpa using hf 1 f1 rfl, by simpa using hf 2 f2 rfl, by simpa using hf 3 f3 rfl⟩
theorem open_txt {n : Nat} {cs : List Value} {y : DataW H × List MemPlace} (h : DataW.trod enc Tryz.prog W 0 (fun _ => true) true n 9 cs = some y) : ∃ l : Txt, cs = [strV l] ∧ small l := by
  obtain ⟨s, hs, _, hm⟩ := DataW.trod_string Tryz.underlying9 h
  refine ⟨s.data.toList, hs, ?_⟩
  unfold maxLen at hm
  unfold small
  rw [size_list]; exact hm
theorem open_fit {n : Nat} {cs : List Value} {y : DataW H × List MemPlace} (h : DataW.trod enc Tryz.prog W 0 (fun _ => true) true n 3 cs = some y) : ∃ z : Int, cs = [.int .i64 z] ∧ fitsI z := by
  obtain ⟨z, hz, _, wz⟩ := DataW.trod_int Tryz.underlying3 h
  exact ⟨z, hz, by unfold fitsI; simpa [Lit.wf, IntKind.min, IntKind.max, IntKind.signed, IntKind.bits] using wz⟩
theorem open_ex : ∀ (n : Nat) (cs : List Value) (y : DataW H × List MemPlace), DataW.trod enc Tryz.prog W 0 (fun _ => true) true n 44 cs = some y → ∃ e : Ex, ExAt W noF e cs := by
  intro n
  induction n using Nat.strongRecOn with
  | _ n ih =>
    intro cs y h
    have ci : Tryz.prog.cellsOf 3 = 1 := by kernel_rfl
    have cs1 : Tryz.prog.cellsOf 9 = 1 := by kernel_rfl
    have ck : Tryz.prog.cellsOf 42 = 1 := by kernel_rfl
    obtain ⟨y0, y1, y2, y3, m, hm, hl, h0, h1, h2, h3⟩ := struct4f Tryz.underlying44 h
    have hl4 : cs.length = 4 := by rw [hl]; kernel_rfl
    obtain ⟨v0, v1, v2, v3, rfl⟩ : ∃ v0 v1 v2 v3, cs = [v0, v1, v2, v3] := by
      match cs, hl4 with
      | [a, b, c, d], _ => exact ⟨a, b, c, d, rfl⟩
    simp only [ci, cs1, ck, List.drop_zero, List.take_succ_cons, List.take_zero, List.drop_succ_cons] at h0 h1 h2 h3
    obtain ⟨z, e0, b0⟩ := open_fit h0
    obtain ⟨a, e1, b1⟩ := open_txt h1
    obtain ⟨o, e2, b2⟩ := open_txt h2
    obtain ⟨A, ks, c, e3, hr, b3⟩ := open_row (k := 4) (R := ExAt) Tryz.underlying42 (by kernel_rfl) (by decide) (fun j hj cs y hy => ih j (by omega) cs y hy) h3
    injection e0 with e0 _
    injection e1 with e1 _
    injection e2 with e2 _
    injection e3 with e3 _
    subst e0 e1 e2 e3
    exact ⟨.mk z a o ks, ExAt.of_row ⟨b0, b1, b2, b3.2⟩ hr⟩
theorem open_rf (n : Nat) (cs : List Value) (y : DataW H × List MemPlace) (h : DataW.trod enc Tryz.prog W 0 (fun _ => true) true n 40 cs = some y) : ∃ x : Rf, RfAt W noF x cs := by
  have cs1 : Tryz.prog.cellsOf 9 = 1 := by kernel_rfl
  obtain ⟨y0, y1, m, hm, hl, h0, h1⟩ := struct2f Tryz.underlying40 h
  have hl2 : cs.length = 2 := by rw [hl]; kernel_rfl
  obtain ⟨v0, v1, rfl⟩ : ∃ v0 v1, cs = [v0, v1] := by
    match cs, hl2 with
    | [a, b], _ => exact ⟨a, b, rfl⟩
  simp only [cs1, List.drop_zero, List.take_succ_cons, List.take_zero, List.drop_succ_cons] at h0 h1
  obtain ⟨a, e0, b0⟩ := open_txt h0
  obtain ⟨b, e1, b1⟩ := open_txt h1
  injection e0 with e0 _
  injection e1 with e1 _
  subst e0 e1
  exact ⟨(a, b), rfl, b0, b1⟩
theorem open_rl (n : Nat) (cs : List Value) (y : DataW H × List MemPlace) (h : DataW.trod enc Tryz.prog W 0 (fun _ => true) true n 46 cs = some y) : ∃ x : Rl, RlAt W noF x cs := by
  have cs1 : Tryz.prog.cellsOf 9 = 1 := by kernel_rfl
  have cr : Tryz.prog.cellsOf 41 = 1 := by kernel_rfl
  have ce : Tryz.prog.cellsOf 44 = 4 := by kernel_rfl
  obtain ⟨y0, y1, y2, m, hm, hl, h0, h1, h2⟩ := struct3f Tryz.underlying46 h
  have hl6 : cs.length = 6 := by rw [hl]; kernel_rfl
  obtain ⟨v0, v1, v2, v3, v4, v5, rfl⟩ : ∃ v0 v1 v2 v3 v4 v5, cs = [v0, v1, v2, v3, v4, v5] := by
    match cs, hl6 with
    | [a, b, c, d, e, f], _ => exact ⟨a, b, c, d, e, f, rfl⟩
  simp only [cs1, cr, ce, List.drop_zero, List.take_succ_cons, List.take_zero, List.drop_succ_cons] at h0 h1 h2
  obtain ⟨a, e0, b0⟩ := open_txt h0
  obtain ⟨A, rs, c, e1, hr, b1⟩ := open_row (k := 2) (R := RfAt) Tryz.underlying41 (by kernel_rfl) (by decide) (fun j _ cs y hy => open_rf j cs y hy) h1
  obtain ⟨e, he⟩ := open_ex _ _ _ h2
  injection e0 with e0 _
  injection e1 with e1 _
  subst e0 e1
  exact ⟨⟨a, rs, e⟩, A, c, _, rfl, ⟨b0, b1.2⟩, hr, he⟩
theorem open_ty (n : Nat) (cs : List Value) (y : DataW H × List MemPlace) (h : DataW.trod enc Tryz.prog W 0 (fun _ => true) true n 38 cs = some y) : ∃ x : Ty, TyAt W noF x cs := by
  have cs1 : Tryz.prog.cellsOf 9 = 1 := by kernel_rfl
  have cr : Tryz.prog.cellsOf 36 = 1 := by kernel_rfl
  obtain ⟨y0, y1, m, hm, hl, h0, h1⟩ := struct2f Tryz.underlying38 h
  have hl2 : cs.length = 2 := by rw [hl]; kernel_rfl
  obtain ⟨v0, v1, rfl⟩ : ∃ v0 v1, cs = [v0, v1] := by
    match cs, hl2 with
    | [a, b], _ => exact ⟨a, b, rfl⟩
  simp only [cs1, cr, List.drop_zero, List.take_succ_cons, List.take_zero, List.drop_succ_cons] at h0 h1
  obtain ⟨a, e0, b0⟩ := open_txt h0
  obtain ⟨A, rs, c, e1, hr, b1⟩ := open_row (k := 6) (R := RlAt) Tryz.underlying36 (by kernel_rfl) (by decide) (fun j _ cs y hy => open_rl j cs y hy) h1
  injection e0 with e0 _
  injection e1 with e1 _
  subst e0 e1
  exact ⟨⟨a, rs⟩, A, c, rfl, ⟨⟨b0, b1.1⟩, b1.2⟩, hr⟩
theorem open_schema {v : Value} {d : DataW H} {ps : List MemPlace} {r : Reach} {b0 : Nat} (hval : Value.okWide Tryz.prog W r b0 24 v) (h : DataW.Trod enc Tryz.prog W 0 (fun _ => true) true 24 v d ps) :
    ∃ (A : Option Addr) (s : Sc) (c : Nat), v = .agg #[.slice A s.length c] ∧ ScAt W noF A s ∧ s.length ≤ 9223372036854775807 ∧ s.length ≤ c := by
  obtain ⟨cs, rfl, hsz⟩ := okWide_struct Tryz.underlying24 hval
  obtain ⟨fuel, hf⟩ := h
  have hf' : DataW.trod enc Tryz.prog W 0 (fun _ => true) true fuel 24 cs.toList = some (d, ps) := by simpa [Value.cells] using hf
  have hl1 : cs.toList.length = 1 := by rw [Array.length_toList, hsz]; kernel_rfl
  obtain ⟨v0, hcs⟩ : ∃ v0, cs.toList = [v0] := by
    match cs.toList, hl1 with
    | [a], _ => exact ⟨a, rfl⟩
  have ecs : cs = #[v0] := Array.toList_inj.1 hcs
  subst ecs
  obtain ⟨y0, n, _, _, h0⟩ := trod_struct1 Tryz.underlying24 hf'
  have ct : Tryz.prog.cellsOf 22 = 1 := by kernel_rfl
  simp only [ct, List.drop_zero, List.take_succ_cons, List.take_zero] at h0
  obtain ⟨A, s, c, e0, hr, b⟩ := open_row (k := 2) (R := TyAt) Tryz.underlying22 (by kernel_rfl) (by decide) (fun j _ cs y hy => open_ty j cs y hy) h0
  injection e0 with e0 _
  subst e0
  exact ⟨A, s, c, rfl, hr, b.2, b.1⟩
end
end Go.Proofs.YtdnhbledndgbcaaGreat
