/-
  The program's index of a schema: its relations and its types by their names. Condition: the schema is there.
  Is a node in the index? What stands in a relation's refs, at a relation's name of theirs. Condition: the index is there.
  What is wrong with a leaf of an expression, by the index; the leaves of an expression, passed on one by one. Conditions: the index and the expression are there.
-/
import Derived.Test.YtdnhbledndgbcaaGreatCRuF0
import Derived.Test.YtdnhbledndgbcaaGreatCMpR
import Derived.Test.YtdnhbledndgbcaaGreatCRowT
import Derived.Test.YtdnhbledndgbcaaGreatCRlTy
namespace Go.Proofs.YtdnhbledndgbcaaGreat
open Go.RowKit
abbrev Kn := Nk → Option Rl
def knU (f : Kn) (x : Nk) (r : Rl) : Kn := fun y => if y = x then some r else f y
def knRels (n : Txt) (rs : List Rl) (f : Kn) : Kn := rs.foldl (fun f r => knU f (n, r.name) r) f
def knTy (f : Kn) (t : Ty) : Kn := knRels t.name t.rels (knU f (t.name, []) noRel)
def knS (s : Sc) : Kn := s.foldl knTy (fun _ => none)
structure KnAt (W : World) (F : Nat → Prop) (b : Nat) (L : List (Nk × Value)) (kn : Kn) : Prop where
  map : MapAt W b L
  no : ∀ x, kn x = none → lookK L x = none
  yes : ∀ x r, kn x = some r → ∃ cs, lookK L x = some (.agg cs.toArray) ∧ RlAt W F r cs
theorem KnAt.spared {W W' : World} {F : Nat → Prop} {b : Nat} {L : List (Nk × Value)} {kn : Kn} (h : KnAt W F b L kn) {G : Nat → Prop} (hs : Spared W W' G) (hG : ∀ i, G i → F i) (hb : ¬ G b) : KnAt W' F b L kn :=
  ⟨h.map.spared hs hb, h.no, fun x r hx => by
    obtain ⟨cs, h1, h2⟩ := h.yes x r hx
    exact ⟨cs, h1, h2.moved (F := F) (hs.mono hG) (fun _ h => .inl h)⟩⟩
theorem KnAt.below {W W' : World} {F : Nat → Prop} {b : Nat} {L : List (Nk × Value)} {kn : Kn} (h : KnAt W F b L kn) (hb : Below W.heap.size W W') : KnAt W' F b L kn :=
  h.spared (Spared.of_below hb (fun _ => False)) (fun _ h => h.elim) (fun h => h)
theorem KnAt.put {w w' : World} {G : Nat → Prop} {b : Nat} {L : List (Nk × Value)} {kn : Kn} (h : KnAt w G b L kn) (hb : G b) {x : Nk} {r : Rl} {cs : List Value} (hr : RlAt w G r cs) (hm : MapAt w' b (putK L x (.agg cs.toArray))) (hg : w.grownBy w' (some b)) : KnAt w' G b (putK L x (.agg cs.toArray)) (knU kn x r) := by
  have hs : Spared w w' G := Spared.of_grown hg (fun k e _ => by injection e with e; exact e ▸ hb)
  have hn := h.map.keys
  refine ⟨hm, fun y hy => ?_, fun y q hy => ?_⟩
  · unfold knU at hy
    rw [lookK_put hn]
    split at hy
    · cases hy
    · rename_i e
      rw [if_neg e]
      exact h.no y hy
  · unfold knU at hy
    rw [lookK_put hn]
    split at hy
    · rename_i e
      injection hy with hy
      subst hy
      rw [if_pos e]
      exact ⟨cs, rfl, hr.moved hs (fun _ h => .inl h)⟩
    · rename_i e
      rw [if_neg e]
      obtain ⟨cs', h1, h2⟩ := h.yes y q hy
      exact ⟨cs', h1, h2.moved hs (fun _ h => .inl h)⟩
theorem knS_drop {s : Sc} {j : Nat} {f : Kn} (h : j < s.length) : (s.drop j).foldl knTy f = (s.drop (j + 1)).foldl knTy (knTy f s[j]) := by
  rw [List.drop_eq_getElem_cons h, List.foldl_cons]
theorem knRels_drop {n : Txt} {rs : List Rl} {j : Nat} {f : Kn} (h : j < rs.length) : knRels n (rs.drop j) f = knRels n (rs.drop (j + 1)) (knU f (n, rs[j].name) rs[j]) := by
  unfold knRels
  rw [List.drop_eq_getElem_cons h, List.foldl_cons]
set_option maxRecDepth 100000 in
set_option maxHeartbeats 4000000 in
theorem index_any (s : Sc) (F : Nat → Prop) (A : Option Addr) (c : Nat) (hl : s.length ≤ 9223372036854775807) (W : World) (hs : ScAt W F A s) :
    Calls Tryz.prog 26 #[.agg #[.slice A s.length c]] W fun r w' => ∃ b L, r = .returned (.map (some b)) ∧ W.heap.size ≤ b ∧ KnAt w' (fun x => F x ∨ W.heap.size ≤ x) b L (knS s) ∧ Below W.heap.size W w' := by
  obtain ⟨KS, hKS⟩ : ∃ KS, KS = knS s := ⟨_, rfl⟩
  rw [← hKS]
  have hmm := @run_makeMap Tryz.prog
  obtain ⟨W1, hW1⟩ : ∃ W1, W1 = (W.alloc (.cells #[.slice A s.length c] 24)).alloc (.map #[] 0) := ⟨_, rfl⟩
  have HKA : Hid (Blk W1 W.heap.size [.slice A s.length c] 24) := by rw [hW1]; exact Lib.hid ((Blk.new W _ _).alloc _)
  have HM0 : Hid (MapAt W1 (W.heap.size + 1) []) := by
    rw [hW1]
    have := MapAt.made (W.alloc (.cells #[.slice A s.length c] 24))
    rw [World.size_alloc] at this
    exact Lib.hid this
  have HB0 : Hid (Below W.heap.size W W1) := by rw [hW1]; exact Lib.hid (((Below.refl _ _).alloc (Nat.le_refl _) _).alloc (by simp) _)
  have HW1 := Lib.hid hW1
  have HZ1 : Hid (W1.heap.size = W.heap.size + 1 + 1) := by rw [hW1]; exact Lib.hid (by simp)
  obtain ⟨G, hG⟩ : ∃ G : Nat → Prop, G = fun x => F x ∨ W.heap.size ≤ x := ⟨_, rfl⟩
  rw [← hG]
  have HG := Lib.hid hG
  have hs1 : ScAt W1 G A s := hs.moved (Spared.of_below HB0.out F) (fun i hi => by rw [hG] at hi; exact hi)
  have HS : Hid (∀ w, Spared W1 w (fun x => x = W.heap.size + 1) → ScAt w G A s) := Lib.hid (fun w hw => ScAt.moved (F := G) (hw.mono (fun k hk => by rw [hG]; exact .inr (by omega))) (fun _ h => .inl h) hs1)
  have HR1 : Hid (RowAt 2 TyAt W1 G A s) := Lib.hid hs1
  have HX : Hid (∀ w, Spared W1 w (fun x => x = W.heap.size + 1) → w.cell? ⟨W.heap.size, 0, none⟩ = some (.slice A s.length c)) := Lib.hid (fun w hw => (hw.blk HKA.out (by omega)).cell (i := 0) (by simp))
  have HGB : Hid (G (W.heap.size + 1)) := Lib.hid (by rw [hG]; exact .inr (by omega))
  have HKN0 : Hid (KnAt W1 G (W.heap.size + 1) [] (fun _ => none)) := Lib.hid ⟨HM0.out, fun _ _ => rfl, fun _ _ h => nomatch h⟩
  have HE0 : Hid (KS = (s.drop 0).foldl knTy (fun _ => none)) := Lib.hid (by rw [hKS, List.drop_zero]; rfl)
  clear hs hs1 hW1 hG hKS
  go_enter Tryz.func26, Tryz.ntmps26
  go_wp2_with fail
  rw [← HW1.out]
  go_loopw [12] (fun i wr => ∃ (j : Nat) (L : List (Nk × Value)) (kn : Kn), j ≤ s.length ∧ i = .int .i64 j ∧ Hid (KS = (s.drop j).foldl knTy kn) ∧ Hid (KnAt wr G (W.heap.size + 1) L kn) ∧ Hid (Spared W1 wr (fun x => x = W.heap.size + 1))) (fun i _ => s.length - (intOf i).toNat)
  case atStart => exact ⟨0, [], _, by omega, rfl, HE0, HKN0, Lib.hid (Spared.refl _ _)⟩
  case round =>
    obtain ⟨j, L, kn, hj, rfl, H, HKN, BW⟩ := hrel
    have x0 := HX.out wr BW.out
    by_cases hlt : j < s.length
    · have hsr : RowAt 2 TyAt wr G A s := HS.out wr BW.out
      obtain ⟨b, off, B, d, rfl, ⟨hn1, hrl⟩, hr, hc⟩ := hsr.ty hlt
      obtain ⟨z0, z1⟩ := hc wr (Below.refl _ _)
      have HD : Hid ((s.drop j).foldl knTy kn = (s.drop (j + 1)).foldl knTy (knRels s[j].name s[j].rels (knU kn (s[j].name, []) noRel))) := Lib.hid (knS_drop (f := kn) hlt)
      generalize s[j].rels = rs at *
      generalize s[j].name = nm at *
      obtain ⟨w3, hw3⟩ : ∃ w3, w3 = wr.alloc (.cells #[strV nm, .slice B rs.length d] 38) := ⟨_, rfl⟩
      have hb3 : Below wr.heap.size wr w3 := by rw [hw3]; exact (Below.refl _ _).alloc (Nat.le_refl _) _
      have hk3 : Blk w3 wr.heap.size [strV nm, .slice B rs.length d] 38 := by rw [hw3]; exact Blk.new _ _ _
      have HKN3 := Lib.hid (HKN.out.below hb3)
      have HK3 := Lib.hid hk3
      have HSP3 : Hid (Spared W1 w3 (fun x => x = W.heap.size + 1)) := Lib.hid (BW.out.trans (Spared.of_below hb3 (fun _ => False)) (fun _ h => h.elim))
      have HR3 : Hid (RowAt 6 RlAt w3 G B rs) := Lib.hid (RowAt.moved (Spared.of_below hb3 G) (fun _ h => .inl h) (fun _ _ _ h => h.moved (Spared.of_below hb3 G) (fun _ h => .inl h)) hr)
      have hne : wr.heap.size ≠ W.heap.size + 1 := by have := BW.out.size; have := HZ1.out; omega
      have y0 := hk3.cell (i := 0) (by simp)
      have y1 := hk3.cell (i := 1) (by simp)
      simp only [List.getElem_cons_succ, List.getElem_cons_zero] at y0 y1
      have HW3 := Lib.hid hw3
      have HNE := Lib.hid hne
      rw [hw3] at y0 y1
      clear hc hr hb3 hk3 hw3 hne
      go_wp2_with (at_mapUpdate; rw [← HW3.out]; refine wpList_put w3 rfl _ _ _ 66 46 rfl Tryz.underlying66 (W.heap.size + 1) L rfl HKN3.out.map (nm, []) (.agg #[.string ⟨#[]⟩, .slice none 0 0, .int .i64 0, .string ⟨#[]⟩, .string ⟨#[]⟩, .slice none 0 0]) rfl rfl ?_)
      intro w4 hm4 hg4 hz4
      have hsp4 : Spared w3 w4 (fun x => x = W.heap.size + 1) := Spared.of_grown hg4 (fun k e _ => by injection e with e; exact e.symm)
      have hkn4 : KnAt w4 G (W.heap.size + 1) _ (knU kn (nm, []) noRel) := HKN3.out.put HGB.out (noRel_at w3 G) hm4 hg4
      have hk4 := hsp4.blk HK3.out HNE.out
      have y0 := hk4.cell (i := 0) (by simp)
      have y1 := hk4.cell (i := 1) (by simp)
      simp only [List.getElem_cons_succ, List.getElem_cons_zero] at y0 y1
      have HKN4 := Lib.hid hkn4
      have HSP4 := Lib.hid hsp4
      have HE4 : Hid (KS = (s.drop (j + 1)).foldl knTy (knRels nm (rs.drop 0) (knU kn (nm, []) noRel))) := Lib.hid (by rw [H.out, HD.out, List.drop_zero])
      clear hm4 hg4 hz4 hkn4 hk4 hsp4
      generalize putK L (nm, []) _ = L4 at *
      generalize knU kn (nm, []) noRel = kn4 at *
      go_wp2_with fail
      clear y0 y1
      go_loopw [24] (fun i w6 => ∃ (k : Nat) (L : List (Nk × Value)) (kn : Kn), k ≤ rs.length ∧ i = .int .i64 k ∧ Hid (KS = (s.drop (j + 1)).foldl knTy (knRels nm (rs.drop k) kn)) ∧ Hid (KnAt w6 G (W.heap.size + 1) L kn) ∧ Hid (Spared w3 w6 (fun x => x = W.heap.size + 1))) (fun i _ => rs.length - (intOf i).toNat)
      case atStart => exact ⟨0, L4, kn4, by omega, rfl, HE4, HKN4, HSP4⟩
      case round =>
        rename World => w6
        clear HKN4 HE4 HSP4
        obtain ⟨k, L6, kn6, hk, rfl, H6, HKN6, B6⟩ := hrel
        have hk6 := B6.out.blk HK3.out HNE.out
        have y0 := hk6.cell (i := 0) (by simp)
        simp only [List.getElem_cons_zero] at y0
        by_cases hkl : k < rs.length
        · have hrr : RowAt 6 RlAt w6 G B rs := RowAt.moved (F := G) (B6.out.mono (fun k hk => by rw [hk]; exact HGB.out)) (fun _ h => .inl h) (fun _ _ _ h => h.moved (F := G) (B6.out.mono (fun k hk => by rw [hk]; exact HGB.out)) (fun _ h => .inl h)) HR3.out
          obtain ⟨g, og, n1, B1, m1, c1, k1, p1, q1, E1, m2, c2, rfl, hE, hcells⟩ := RowAt.rel hrr hkl
          obtain ⟨e0, e1, e2, e3, e4, e5⟩ := hcells w6 (Below.refl _ _)
          have HD6 := Lib.hid (knRels_drop (n := nm) (f := kn6) hkl)
          have hnm : strV n1 = strV rs[k].name := by
            obtain ⟨_, _, _, h, _⟩ := hE
            injection h
          have hn1 : n1 = rs[k].name := by
            injection hnm with h
            injection h with h
            exact congrArg Array.toList h
          rw [← hn1] at HD6
          generalize rs[k] = x at *
          obtain ⟨w7, hw7⟩ : ∃ w7, w7 = w6.alloc (.cells #[strV n1, .slice B1 m1 c1, .int .i64 k1, strV p1, strV q1, .slice E1 m2 c2] 46) := ⟨_, rfl⟩
          have hb7 : Below w6.heap.size w6 w7 := by rw [hw7]; exact (Below.refl _ _).alloc (Nat.le_refl _) _
          have hk7 : Blk w7 w6.heap.size [strV n1, .slice B1 m1 c1, .int .i64 k1, strV p1, strV q1, .slice E1 m2 c2] 46 := by rw [hw7]; exact Blk.new _ _ _
          have y0 := (hk6.below hb7 hk6.lt).cell (i := 0) (by simp)
          have t0 := hk7.cell (i := 0) (by simp)
          have t1 := hk7.cell (i := 1) (by simp)
          have t2 := hk7.cell (i := 2) (by simp)
          have t3 := hk7.cell (i := 3) (by simp)
          have t4 := hk7.cell (i := 4) (by simp)
          have t5 := hk7.cell (i := 5) (by simp)
          simp only [List.getElem_cons_succ, List.getElem_cons_zero] at y0 t0 t1 t2 t3 t4 t5
          have HKN7 := Lib.hid (HKN6.out.below hb7)
          have HSP7 : Hid (Spared w3 w7 (fun x => x = W.heap.size + 1)) := Lib.hid (B6.out.trans (Spared.of_below hb7 (fun _ => False)) (fun _ h => h.elim))
          have HE7 := Lib.hid (hE.below hb7)
          have HW7 := Lib.hid hw7
          rw [hw7] at y0 t0 t1 t2 t3 t4 t5
          clear hb7 hk7 hk6 hE hcells hrr hw7 hnm hn1
          go_wp2_with (at_mapUpdate; rw [← HW7.out]; refine wpList_put w7 rfl _ _ _ 66 46 rfl Tryz.underlying66 (W.heap.size + 1) L6 rfl HKN7.out.map (nm, n1) (.agg #[strV n1, .slice B1 m1 c1, .int .i64 k1, strV p1, strV q1, .slice E1 m2 c2]) rfl rfl ?_)
          intro w8 hm8 hg8 hz8
          have HSP8 : Hid (Spared w3 w8 (fun x => x = W.heap.size + 1)) := Lib.hid (HSP7.out.trans (Spared.of_grown (F := fun x => x = W.heap.size + 1) hg8 (fun k e _ => by injection e with e; exact e.symm)) (fun _ h => .inl h))
          have HKN8 : Hid (KnAt w8 G (W.heap.size + 1) _ (knU kn6 (nm, n1) x)) := Lib.hid (HKN7.out.put HGB.out HE7.out hm8 hg8)
          have HE8 : Hid (KS = (s.drop (j + 1)).foldl knTy (knRels nm (rs.drop (k + 1)) (knU kn6 (nm, n1) x))) := Lib.hid (by rw [H6.out, HD6.out])
          clear hm8 hg8 hz8
          go_wp2_with fail
          go_roundw
          case rel => exact ⟨k + 1, _, _, by omega, by go_num, HE8, HKN8, HSP8⟩
          case measure => simp [intOf]; omega
        · have HN : Hid (KS = (s.drop (j + 1)).foldl knTy kn6) := Lib.hid (by rw [H6.out, List.drop_of_length_le (l := rs) (i := k) (by omega)]; rfl)
          have HSP9 : Hid (Spared W1 w6 (fun x => x = W.heap.size + 1)) := Lib.hid (HSP3.out.trans B6.out (fun _ h => .inl h))
          go_wp2_with fail
          go_roundw
          case rel => exact ⟨j + 1, L6, kn6, by omega, by go_num, HN, HKN6, HSP9⟩
          case measure => simp [intOf]; omega
    · have HN : Hid (KS = kn) := Lib.hid (by rw [H.out, List.drop_of_length_le (l := s) (i := j) (by omega)]; rfl)
      go_wp2_with fail
      go_ret
      rw [HN.out]
      exact ⟨W.heap.size + 1, L, rfl, by omega, HKN.out, BW.out.below HB0.out (fun k hk => by have hk : k = W.heap.size + 1 := hk; omega)⟩
end Go.Proofs.YtdnhbledndgbcaaGreat
namespace Go.Proofs.YtdnhbledndgbcaaGreat
open Go.RowKit
theorem zero_rel (w : World) : (zeroValue 46).run Tryz.prog w = .ok (.agg #[.string ⟨#[]⟩, .slice none 0 0, .int .i64 0, .string ⟨#[]⟩, .string ⟨#[]⟩, .slice none 0 0]) w := by kernel_rfl
theorem RlAt.parts {W : World} {F : Nat → Prop} {x : Rl} {n : Txt} {A : Option Addr} {m c : Nat} {k : Int} {p q : Txt} {E : Option Addr} {m' c' : Nat} (h : RlAt W F x [strV n, .slice A m c, .int .i64 k, strV p, strV q, .slice E m' c']) :
    n = x.name ∧ m = x.refs.length ∧ (small x.name ∧ x.refs.length ≤ 9223372036854775807) ∧ RowAt 2 RfAt W F A x.refs ∧ ExAt W F x.expr [.int .i64 k, strV p, strV q, .slice E m' c'] := by
  obtain ⟨A', c', es, h1, h2, h3, h4⟩ := h
  injection h1 with h5 h1
  injection h1 with h6 h1
  injection h6 with h7 h8 h9
  injection h5 with h5
  injection h5 with h5
  subst h1 h7 h8
  exact ⟨congrArg Array.toList h5, rfl, h2, h3, h4⟩
theorem KnAt.look {W : World} {F : Nat → Prop} {b : Nat} {L : List (Nk × Value)} {kn : Kn} (h : KnAt W F b L kn) (x : Nk) :
    ∃ n A m c k p q E m' c', RlAt W F ((kn x).getD noRel) [strV n, .slice A m c, .int .i64 k, strV p, strV q, .slice E m' c'] ∧ m = ((kn x).getD noRel).refs.length ∧
      (Instr.lookup 66 (.map (some b)) (.agg #[strV x.1, strV x.2]) true).run Tryz.prog W = .ok (.tuple #[.agg #[strV n, .slice A m c, .int .i64 k, strV p, strV q, .slice E m' c'], .bool (kn x).isSome]) W ∧
      (Instr.lookup 66 (.map (some b)) (.agg #[strV x.1, strV x.2]) false).run Tryz.prog W = .ok (.agg #[strV n, .slice A m c, .int .i64 k, strV p, strV q, .slice E m' c']) W := by
  have h1 := run_look h.map Tryz.underlying66 (zero_rel W) x
  cases hk : kn x with
  | none =>
    rw [h.no x hk] at h1
    exact ⟨[], none, 0, 0, 0, [], [], none, 0, 0, noRel_at W F, rfl, h1 true, h1 false⟩
  | some r =>
    obtain ⟨cs, h2, h3⟩ := h.yes x r hk
    obtain ⟨A, c, k, n, o, A', m, c', rfl, _⟩ := h3.six
    rw [h2] at h1
    exact ⟨_, _, _, _, _, _, _, _, _, _, h3, rfl, h1 true, h1 false⟩
set_option maxRecDepth 100000 in
set_option maxHeartbeats 1000000 in
theorem has_any (x : Nk) (W : World) (F : Nat → Prop) (b : Nat) (L : List (Nk × Value)) (kn : Kn) (h : KnAt W F b L kn) :
    Calls Tryz.prog 76 #[.map (some b), .agg #[strV x.1, strV x.2]] W fun r w' => r = .returned (.bool (kn x).isSome) ∧ Below W.heap.size W w' := by
  obtain ⟨a, c⟩ := x
  have hb := (Below.refl W.heap.size W).alloc (Nat.le_refl _) (.cells #[strV a, strV c] 97)
  obtain ⟨n, A, m, c1, k, p, q, E, m', c', _, _, hlk, _⟩ := (h.below hb).look (a, c)
  have HB := Lib.hid hb
  obtain ⟨v, hv⟩ : ∃ v, (kn (a, c)).isSome = v := ⟨_, rfl⟩
  rw [hv] at hlk ⊢
  clear h hb hv
  dsimp only at hlk
  go_enter Tryz.func76, Tryz.ntmps76
  go_wp2_with fail
  go_ret
  exact ⟨rfl, HB.out.alloc HB.out.size _⟩
def nkC (x : Nk) : List Value := [strV x.1, strV x.2]
theorem nk_one (x : Nk) : ∀ u ∈ nkC x, u.oneCell' = true := by
  intro u hu
  simp only [nkC, List.mem_cons, List.not_mem_nil, or_false] at hu
  rcases hu with rfl | rfl <;> rfl
theorem rowNk : ∃ i z, RowT Tryz.prog 133 97 2 32 i z := by
  have hf : (Tryz.prog.info? 97).map (fun i => (i.zero, i.size, i.bytes)) = some (some (.agg #[.string ⟨#[]⟩, .string ⟨#[]⟩]), 2, 32) := by kernel_rfl
  obtain ⟨i, hi, hz, hs, hb⟩ := info_parts hf
  exact ⟨i, _, Tryz.underlying133, hi, hz, hs, hb, rfl⟩
def overR (kn : Kn) (o : Txt) (r : Rf) : Option Nk := if r.2 = [] ∧ (kn (r.1, o)).isSome = true then some (r.1, o) else none
def overK (kn : Kn) (n : Nk) (o : Txt) : List Nk := ((kn n).getD noRel).refs.filterMap (overR kn o)
def NkRow (W : World) (base : Nat) (ls : List Nk) (e : Ending) (w' : World) : Prop := ∃ A c, e = .returned (.slice A ls.length c) ∧ w'.ownsRow base 97 2 (.slice A ls.length c) ls.length (ls.flatMap nkC) ∧ W.heap.size ≤ base ∧ Below W.heap.size W w'
theorem filterMap_drop {α β : Type} {f : α → Option β} {l : List α} {j : Nat} (h : j < l.length) : (l.drop j).filterMap f = (f l[j]).toList ++ (l.drop (j + 1)).filterMap f := by
  rw [List.drop_eq_getElem_cons h, List.filterMap_cons]
  cases f l[j] <;> rfl
set_option maxRecDepth 100000 in
set_option maxHeartbeats 2000000 in
theorem over_any (n : Nk) (ov : Txt) (W : World) (F : Nat → Prop) (b : Nat) (L : List (Nk × Value)) (kn : Kn) (h : KnAt W F b L kn) (hm : ((kn n).getD noRel).refs.length ≤ 1000000) :
    Calls Tryz.prog 91 #[.map (some b), .agg #[strV n.1, strV n.2], strV ov] W (NkRow W (W.heap.size + 1) (overK kn n ov)) := by
  obtain ⟨V, hV⟩ : ∃ V, V = overK kn n ov := ⟨_, rfl⟩
  rw [← hV]
  unfold overK at hV
  obtain ⟨W1, hW1⟩ : ∃ W1, W1 = W.alloc (.cells #[strV n.1, strV n.2] 97) := ⟨_, rfl⟩
  have hb := (Below.refl W.heap.size W).alloc (Nat.le_refl _) (.cells #[strV n.1, strV n.2] 97)
  rw [← hW1] at hb
  have hkn1 := h.below hb
  obtain ⟨nn, A, m, c1, k, p, q, E, m', c', hrl, hml, _, hlk⟩ := hkn1.look n
  have HZ1 : Hid (W1.heap.size = W.heap.size + 1) := by rw [hW1]; exact Lib.hid (by simp)
  rw [hW1] at hlk
  have hfl : (Instr.field 46 (.agg #[strV nn, .slice A m c1, .int .i64 k, strV p, strV q, .slice E m' c']) 1).run Tryz.prog (W.alloc (.cells #[strV n.1, strV n.2] 97)) = .ok (.slice A m c1) (W.alloc (.cells #[strV n.1, strV n.2] 97)) := by rfl
  obtain ⟨-, -, -, hrr, -⟩ := hrl.parts
  clear hrl
  obtain ⟨i0, z0, hRW⟩ := rowNk
  have HRW := Lib.hid hRW
  have HB := Lib.hid hb
  have HW1 := Lib.hid hW1
  have HKN := Lib.hid hkn1
  generalize ((kn n).getD noRel).refs = rf at *
  have HRR := Lib.hid hrr
  have HV : Hid (V = [] ++ (rf.drop 0).filterMap (overR kn ov)) := Lib.hid (by rw [hV, List.drop_zero]; rfl)
  subst hml
  clear h hb hV hkn1 hW1 hrr hRW
  obtain ⟨a, c⟩ := n
  dsimp only at *
  go_enter Tryz.func91, Tryz.ntmps91
  go_wp2_with fail
  rw [← HW1.out]

  go_loopw [7, 16] (fun v i wr => ∃ (j : Nat) (acc : List Nk) (A2 : Option Addr) (n2 c2 : Nat), j ≤ rf.length ∧ i = .int .i64 j ∧ v = .slice A2 n2 c2 ∧ n2 = acc.length ∧ n2 ≤ j ∧ Hid (V = acc ++ (rf.drop j).filterMap (overR kn ov)) ∧ Hid (wr.ownsRow W1.heap.size 97 2 (.slice A2 n2 c2) n2 (acc.flatMap nkC)) ∧ Hid (Below W1.heap.size W1 wr)) (fun _ i _ => rf.length - (intOf i).toNat)
  case atStart => exact ⟨0, [], none, 0, 0, by omega, rfl, rfl, rfl, by omega, HV, Lib.hid (World.ownsRow_nil _ _ _ _), Lib.hid (Below.refl _ _)⟩
  case round =>
    obtain ⟨j, acc, A2, n2, c2, hj, rfl, rfl, hn2, hnj, H, HOW, BW⟩ := hrel
    subst hn2
    by_cases hlt : j < rf.length
    · have HD := Lib.hid (filterMap_drop (f := overR kn ov) hlt)
      obtain ⟨b3, off3, rfl, hc3⟩ := HRR.out.pair hlt
      obtain ⟨y0, y1⟩ := hc3 wr BW.out
      have hdr : overR kn ov rf[j] = if rf[j].2 = [] ∧ (kn (rf[j].1, ov)).isSome = true then some (rf[j].1, ov) else none := rfl
      rw [hdr] at HD
      clear hc3 hdr
      generalize rf[j].1 = t1 at *
      generalize rf[j].2 = t2 at *
      obtain ⟨w3, hw3⟩ : ∃ w3, w3 = (wr.alloc (.cells #[strV t1, strV t2] 40)).alloc (.cells #[strV t1, strV ov] 97) := ⟨_, rfl⟩
      have hb3 : Below wr.heap.size wr w3 := by rw [hw3]; exact ((Below.refl _ _).alloc (Nat.le_refl _) _).alloc (by simp) _
      have HB3 := Lib.hid (hop BW.out hb3)
      have HOW3 := Lib.hid (own_spared HOW.out (Spared.of_below hb3 (fun _ => False)) (fun k hk => hk.elim))
      have hq : ∀ q, (kn (t1, ov)).isSome = q → Calls Tryz.prog 76 #[.map (some b), .agg #[strV t1, strV ov]] w3 fun r w' => r = .returned (.bool q) ∧ Below w3.heap.size w3 w' := fun q hq => by
        rw [← hq]
        exact has_any (t1, ov) w3 F b L kn (HKN.out.below HB3.out)
      have hk4 : Blk w3 (wr.heap.size + 1) [strV t1, strV ov] 97 := by
        rw [hw3]
        have := Blk.new (wr.alloc (.cells #[strV t1, strV t2] 40)) [strV t1, strV ov] 97
        rw [World.size_alloc] at this
        exact this
      have HK4 := Lib.hid hk4
      have HW3 := Lib.hid hw3
      have hn5 : acc.length ≤ 1000000 := by omega
      clear hb3 hk4 hw3
      by_cases ht : t2 = []
      · obtain ⟨q, hqq⟩ : ∃ q, (kn (t1, ov)).isSome = q := ⟨_, rfl⟩
        have HC := Lib.hid (hq q hqq)
        rw [hqq] at HD
        clear hq hqq
        subst ht
        cases q
        · have HN : Hid (V = acc ++ (rf.drop (j + 1)).filterMap (overR kn ov)) := Lib.hid (by rw [H.out, HD.out, if_neg (fun h => nomatch h.2)]; rfl)
          go_wp2_with (go_at_call 76; rw [← HW3.out]; refine HC.out.mono ?_; rintro r w5 ⟨rfl, hb5⟩; have HB5 := Lib.hid (hop HB3.out hb5); have HOW5 := Lib.hid (own_spared HOW3.out (Spared.of_below hb5 (fun _ => False)) (fun k hk => hk.elim)); clear hb5)
          go_roundw
          case rel => exact ⟨j + 1, acc, A2, acc.length, c2, by omega, by go_num, rfl, rfl, by omega, HN, HOW5, HB5⟩
          case measure => simp [intOf]; omega
        · have HN : Hid (V = (acc ++ [(t1, ov)]) ++ (rf.drop (j + 1)).filterMap (overR kn ov)) := Lib.hid (by rw [H.out, HD.out, if_pos ⟨rfl, rfl⟩]; simp)
          go_wp2_with (first
            | (go_at_call 76; rw [← HW3.out]; refine HC.out.mono ?_; rintro r w5 ⟨rfl, hb5⟩; have HB5 := Lib.hid (hop HB3.out hb5); have HOW5 := Lib.hid (own_spared HOW3.out (Spared.of_below hb5 (fun _ => False)) (fun k hk => hk.elim)); have hk5 := HK4.out.below hb5 HK4.out.lt; have t0 := hk5.cell (i := 0) (by simp); have t1' := hk5.cell (i := 1) (by simp); simp only [List.getElem_cons_succ, List.getElem_cons_zero] at t0 t1'; clear hb5 hk5)
            | (at_builtin; refine wpList_append_struct w5 rfl (.tmp 32) (.tmp 34) 133 rfl HRW.out (by decide) (by decide) W1 A2 acc.length c2 _ (nkC (t1, ov)) rfl rfl (by simp [Act.eval]) HB5.out HOW5.out (nk_one _) hn5 ?_))
          intro A' c' w' hown hbel _ _
          go_wp2_with fail
          go_roundw
          case rel => exact ⟨j + 1, acc ++ [(t1, ov)], A', acc.length + 1, c', by omega, by go_num, rfl, by rw [List.length_append]; rfl, by omega, HN, Lib.hid (by rw [List.flatMap_append]; simpa using hown), Lib.hid hbel⟩
          case measure => simp [intOf]; omega
      · have he := nonempty ht
        have HN : Hid (V = acc ++ (rf.drop (j + 1)).filterMap (overR kn ov)) := Lib.hid (by rw [H.out, HD.out, if_neg (fun h => ht h.1)]; rfl)
        clear hq
        go_wp2_with fail
        go_roundw
        case rel => exact ⟨j + 1, acc, A2, acc.length, c2, by omega, by go_num, rfl, rfl, by omega, HN, by rw [← HW3.out]; exact HOW3, by rw [← HW3.out]; exact HB3⟩
        case measure => simp [intOf]; omega
    · have HN : Hid (V = acc) := Lib.hid (by rw [H.out, List.drop_of_length_le (by omega)]; simp)
      go_wp2_with fail
      go_ret
      rw [HN.out]
      have hz := HZ1.out
      rw [hz] at HOW
      exact ⟨A2, c2, rfl, HOW.out, by omega, HB.out.trans (BW.out.mono HB.out.size)⟩
end Go.Proofs.YtdnhbledndgbcaaGreat
namespace Go.Proofs.YtdnhbledndgbcaaGreat
open Go.RowKit
def leaf3 (kn : Kn) (typ : Txt) (kd : Int) (nm ov : Txt) : Nat :=
  match kn (typ, nm) with
  | none => 6
  | some r => if kd = 1 then (if r.refs.length = 0 then 10 else if (overK kn (typ, nm) ov).length = 0 then 6 else 0) else 0
def leafK (kn : Kn) (typ : Txt) (e : Ex) : Nat := leaf3 kn typ e.kind e.name e.over
set_option maxRecDepth 100000 in
set_option maxHeartbeats 2000000 in
theorem unknownLeaf_any (typ : Txt) (e : Ex) (W : World) (F : Nat → Prop) (cs : List Value) (b : Nat) (L : List (Nk × Value)) (kn : Kn) (h : KnAt W F b L kn) (hB : ∀ x, ((kn x).getD noRel).refs.length ≤ 1000000) (hE : ExAt W F e cs) :
    Calls Tryz.prog 80 #[.map (some b), strV typ, .agg cs.toArray] W fun r w' => r = .returned (.int .i64 (leafK kn typ e : Int)) ∧ Below W.heap.size W w' := by
  obtain ⟨kd, nm, ov, ks⟩ := e
  obtain ⟨E, m, rfl, ⟨⟨k1, k2⟩, -, -, -⟩, -⟩ := hE.row
  show Calls _ _ #[.map (some b), strV typ, .agg #[.int .i64 kd, strV nm, strV ov, .slice E ks.length m]] _ _
  show Calls _ _ _ _ fun r w' => r = .returned (.int .i64 (leaf3 kn typ kd nm ov : Int)) ∧ Below W.heap.size W w'
  obtain ⟨v, hv⟩ : ∃ v, v = leaf3 kn typ kd nm ov := ⟨_, rfl⟩
  rw [← hv]
  unfold leaf3 at hv
  generalize ks.length = kl
  obtain ⟨W1, hW1⟩ : ∃ W1, W1 = (W.alloc (.cells #[.int .i64 kd, strV nm, strV ov, .slice E kl m] 44)).alloc (.cells #[strV typ, strV nm] 97) := ⟨_, rfl⟩
  have hb1 : Below W.heap.size W W1 := by rw [hW1]; exact ((Below.refl _ _).alloc (Nat.le_refl _) _).alloc (by simp) _
  have hk0 : Blk W1 W.heap.size [.int .i64 kd, strV nm, strV ov, .slice E kl m] 44 := by rw [hW1]; exact (Blk.new _ _ _).alloc _
  have hk1 : Blk W1 (W.heap.size + 1) [strV typ, strV nm] 97 := by
    rw [hW1]
    have := Blk.new (W.alloc (.cells #[.int .i64 kd, strV nm, strV ov, .slice E kl m] 44)) [strV typ, strV nm] 97
    rw [World.size_alloc] at this
    exact this
  have HX : Hid (∀ w, Below W1.heap.size W1 w → w.cell? ⟨W.heap.size, 0, none⟩ = some (.int .i64 kd) ∧ w.cell? ⟨W.heap.size, 2, none⟩ = some (strV ov) ∧ w.cell? ⟨W.heap.size + 1, 0, none⟩ = some (strV typ) ∧ w.cell? ⟨W.heap.size + 1, 1, none⟩ = some (strV nm)) := Lib.hid (fun w hw => by
    have h1 := hk0.below hw hk0.lt
    have h2 := hk1.below hw hk1.lt
    exact ⟨h1.cell (i := 0) (by simp), h1.cell (i := 2) (by simp), h2.cell (i := 0) (by simp), h2.cell (i := 1) (by simp)⟩)
  have HKN : Hid (∀ w, Below W1.heap.size W1 w → KnAt w F b L kn) := Lib.hid (fun w hw => h.below (hb1.trans (hw.mono hb1.size)))
  have HF : Hid (∀ w, Below W1.heap.size W1 w → Below W.heap.size W w) := Lib.hid (fun w hw => hb1.trans (hw.mono hb1.size))
  have HH : Hid (∀ q, (kn (typ, nm)).isSome = q → Calls Tryz.prog 76 #[.map (some b), .agg #[strV typ, strV nm]] W1 fun r w' => r = .returned (.bool q) ∧ Below W1.heap.size W1 w') := Lib.hid (fun q hq => by
    rw [← hq]
    exact has_any (typ, nm) W1 F b L kn (HKN.out W1 (Below.refl _ _)))
  have HW1 := Lib.hid hW1
  have HB := Lib.hid hB
  clear h hE hb1 hk0 hk1 hW1 hB
  cases hk : kn (typ, nm) with
  | none =>
    have HV : Hid (v = 6) := Lib.hid (by rw [hv, hk])
    have HC := Lib.hid (HH.out false (by rw [hk]; rfl))
    clear hv hk HH
    go_enter Tryz.func80, Tryz.ntmps80
    go_wp2_with (go_at_call 76; rw [← HW1.out]; refine HC.out.mono ?_; rintro r w5 ⟨rfl, hb5⟩; have HB5 := Lib.hid hb5; obtain ⟨x0, x2, y0, y1⟩ := HX.out w5 hb5; clear hb5)
    go_ret
    exact ⟨by rw [HV.out]; rfl, HF.out _ HB5.out⟩
  | some r =>
    have HC := Lib.hid (HH.out true (by rw [hk]; rfl))
    rw [hk] at hv
    dsimp only at hv
    by_cases hkd : kd = 1
    · subst hkd
      rw [if_pos rfl] at hv
      have hlkk : Hid (∀ w, Below W1.heap.size W1 w → ∃ n A c k p q E m' c', (Instr.lookup 66 (.map (some b)) (.agg #[strV typ, strV nm]) false).run Tryz.prog w = .ok (.agg #[strV n, .slice A r.refs.length c, .int .i64 k, strV p, strV q, .slice E m' c']) w) := Lib.hid (fun w hw => by
        obtain ⟨n, A, m, c1, k, p, q, E, m', c', _, h2, _, h4⟩ := (HKN.out w hw).look (typ, nm)
        rw [hk] at h2
        subst h2
        exact ⟨n, A, c1, k, p, q, E, m', c', h4⟩)
      have HOV : Hid (∀ w, Below W1.heap.size W1 w → Calls Tryz.prog 91 #[.map (some b), .agg #[strV typ, strV nm], strV ov] w (fun r w' => ∃ A c, r = .returned (.slice A (overK kn (typ, nm) ov).length c) ∧ Below w.heap.size w w')) := Lib.hid (fun w hw =>
        (over_any (typ, nm) ov w F b L kn (HKN.out w hw) (HB.out (typ, nm))).mono (fun r w' h => by
          obtain ⟨A, c, h1, _, _, h2⟩ := h
          exact ⟨A, c, h1, h2⟩))
      have hfl : ∀ (w : World) (n : Txt) (A : Option Addr) (m c : Nat) (k : Int) (p q : Txt) (E : Option Addr) (m' c' : Nat), (Instr.field 46 (.agg #[strV n, .slice A m c, .int .i64 k, strV p, strV q, .slice E m' c']) 1).run Tryz.prog w = .ok (.slice A m c) w := fun _ _ _ _ _ _ _ _ _ _ _ => rfl
      generalize (overK kn (typ, nm) ov).length = ol at *
      generalize r.refs.length = rl at *
      by_cases hr0 : rl = 0
      · have HV : Hid (v = 10) := Lib.hid (by rw [hv, if_pos hr0])
        subst hr0
        clear hv hk HH HOV
        go_enter Tryz.func80, Tryz.ntmps80
        go_wp2_with (go_at_call 76; rw [← HW1.out]; refine HC.out.mono ?_; rintro r w5 ⟨rfl, hb5⟩; have HB5 := Lib.hid hb5; obtain ⟨x0, x2, y0, y1⟩ := HX.out w5 hb5; obtain ⟨n, A, c, k, p, q, E, m', c', hlk⟩ := hlkk.out w5 hb5; clear hb5)
        go_ret
        exact ⟨by rw [HV.out]; rfl, HF.out _ HB5.out⟩
      · have HV : Hid (v = if ol = 0 then 6 else 0) := Lib.hid (by rw [hv, if_neg hr0])
        have hrd : ((rl : Int) == 0) = false := beq_eq_false_iff_ne.2 (by omega)
        have hrd2 : ¬ (rl : Int) = 0 := by omega
        obtain ⟨dl, hdl0⟩ : ∃ dl, decide (ol = 0) = dl := ⟨_, rfl⟩
        obtain ⟨e, he⟩ : ∃ e, (if dl then 6 else 0 : Nat) = e := ⟨_, rfl⟩
        have HV2 : Hid (v = e) := Lib.hid (by rw [HV.out, ← he, ← hdl0]; by_cases h0 : ol = 0 <;> simp [h0])
        have HWN : Hid (∀ w, Calls Tryz.prog 33 #[.bool dl, .int .i64 6] w fun r w' => r = .returned (.int .i64 (e : Int)) ∧ Below w.heap.size w w') := Lib.hid (fun w => by rw [← he]; exact when_any _ 6 w)
        have hdl : ((ol : Int) == 0) = dl := by
          rw [← hdl0]
          by_cases h0 : ol = 0
          · rw [h0]; rfl
          · rw [decide_eq_false h0]; exact beq_eq_false_iff_ne.2 (by omega)
        clear hv hk HH he hdl0
        go_enter Tryz.func80, Tryz.ntmps80
        go_wp2_with (first
          | (go_at_call 76; rw [← HW1.out]; refine HC.out.mono ?_; rintro r w5 ⟨rfl, hb5⟩; have HB5 := Lib.hid hb5; obtain ⟨x0, x2, y0, y1⟩ := HX.out w5 hb5; obtain ⟨n, A, c, k, p, q, E, m', c', hlk⟩ := hlkk.out w5 hb5; have HO5 := Lib.hid (HOV.out w5 hb5); clear hb5)
          | (go_at_call 91; refine HO5.out.mono ?_; rintro r w6 ⟨A6, c6, rfl, hb6⟩; have HB6 := Lib.hid (hop HB5.out hb6); clear hb6)
          | (go_at_call 33; refine (HWN.out _).mono ?_; rintro r w7 ⟨rfl, hb7⟩; have HB7 := Lib.hid (hop HB6.out hb7); clear hb7))
        go_ret
        exact ⟨by rw [HV2.out]; rfl, HF.out _ HB7.out⟩
    · have HV : Hid (v = 0) := Lib.hid (by rw [hv, if_neg hkd])
      have hkd2 : (kd != 1) = true := bne_iff_ne.2 hkd
      clear hv hk HH
      go_enter Tryz.func80, Tryz.ntmps80
      go_wp2_with (go_at_call 76; rw [← HW1.out]; refine HC.out.mono ?_; rintro r w5 ⟨rfl, hb5⟩; have HB5 := Lib.hid hb5; obtain ⟨x0, x2, y0, y1⟩ := HX.out w5 hb5; clear hb5)
      go_ret
      exact ⟨by rw [HV.out]; rfl, HF.out _ HB5.out⟩
end Go.Proofs.YtdnhbledndgbcaaGreat
