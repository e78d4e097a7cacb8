/-
  Relations copied (the program's copyRel). Conditions: the relation is there; each text is of at most 2^48 bytes, each list of at most 1,000,000 things.
  Has a schema few parts (conciergelaw11's Few)? Conditions: it is there; the bound is from 0 to 1,000.
  May a relation, may a schema be printed (conciergeref11's mayRel, May)? Condition: it is there.
  Schemas by number, as the document's rules see them: the number of a type, of a relation; what is wrong with an expression, a relation, a schema, but for cycles. No program is named.
  The number of a type, of a relation; a relation by its names (conciergeref12's typ, rel, Find). Condition: the schema is there.
  What is wrong with an expression of a type (conciergeref12's expr). Conditions: the schema and the expression are there; the type's number is one.
  What is wrong with a relation of a type (conciergeref12's names). Conditions: the schema and the relation are there; the type's number is one.
  All that is wrong with a schema but a cycle (conciergeref12's plain). Condition: the schema is there.
  The first type, the first relation for which a closure answers an error; the first of two faults, of two errors. Conditions: the schema is there; the closure answers.
  cmp.Or of faults, of errors: the first that is not zero. Condition: the list is there.
-/
import Derived.Test.YtehabjiacgibpaaCLaRw
import Derived.Test.YtehabjiacgibpaaCRowT
import Derived.Shelf.Abstract
namespace Go.Proofs.Ytehabjiacgibpaa
open Go.RowKit
def cpR (x : Rl) : Prop := (x.name.length ≤ 281474976710656 ∧ x.refs.length ≤ 1000000) ∧ (∀ r ∈ x.refs, r.1.length ≤ 281474976710656 ∧ r.2.length ≤ 281474976710656) ∧ cpE x.expr
def CopyR (W : World) (x : Rl) (r : Ending) (w' : World) : Prop := ∃ cs : List Value, r = .returned (.agg cs.toArray) ∧ RlAt w' (fun b => b < W.heap.size) x cs ∧ Below W.heap.size W w'
def RfCp (base : Nat) (rf : List Rf) (A : Option Addr) (w : World) : Prop := rf = [] ∨ ∃ g M, A = some ⟨g, 0, none⟩ ∧ base ≤ g ∧ Blk w g M 67 ∧ ∀ q (h : q < rf.length), M[q * 2]? = some (strV rf[q].1) ∧ M[q * 2 + 1]? = some (strV rf[q].2)
theorem RfCp.of {w w' : World} {F : Nat → Prop} {rf : List Rf} {A : Option Addr} {base : Nat} (h : RowCp 2 RfAt w F 67 rf A w') (hb : base ≤ w.heap.size) : RfCp base rf A w' := by
  rcases h with h | ⟨g, M, hA, hg, hB, _, hq⟩
  · exact .inl h
  · refine .inr ⟨g, M, hA, Nat.le_trans hb hg, hB, fun q hq' => ?_⟩
    obtain ⟨cs, ⟨rfl, _⟩, h2⟩ := hq q hq'
    exact ⟨h2 0 (by decide), h2 1 (by decide)⟩
theorem RfCp.below {base : Nat} {w w' : World} {rf : List Rf} {A : Option Addr} (h : RfCp base rf A w) (hb : Below w.heap.size w w') : RfCp base rf A w' := by
  rcases h with h | ⟨g, M, hA, hg, hB, hq⟩
  · exact .inl h
  · exact .inr ⟨g, M, hA, hg, hB.below hb hB.lt, hq⟩
theorem RfCp.at_ {base : Nat} {w : World} {rf : List Rf} {A : Option Addr} (h : RfCp base rf A w) {j : Nat} (hj : j < rf.length) :
    ∃ g, A = some ⟨g, 0, none⟩ ∧ base ≤ g ∧ g < w.heap.size ∧ ∀ w', Below w.heap.size w w' → (w'.cell? ⟨g, j * 2, none⟩ = some (strV rf[j].1) ∧ w'.cell? ⟨g, j * 2 + 1, none⟩ = some (strV rf[j].2) ∧ w'.frozen? ⟨g, j * 2, none⟩ = false ∧ w'.frozen? ⟨g, j * 2 + 1, none⟩ = false) ∧
      RfCp base rf A ((w'.setCell ⟨g, j * 2, none⟩ (strV rf[j].1)).setCell ⟨g, j * 2 + 1, none⟩ (strV rf[j].2)) := by
  rcases h with h | ⟨g, M, hA, hg, hB, hq⟩
  · subst h; cases hj
  · refine ⟨g, hA, hg, hB.lt, fun w' hb => ?_⟩
    obtain ⟨h0, h1⟩ := hq j hj
    have hBw := hB.below hb hB.lt
    have l0 : j * 2 < M.length := by
      rcases Nat.lt_or_ge (j * 2) M.length with h | h
      · exact h
      · rw [List.getElem?_eq_none h] at h0; cases h0
    have l1 : j * 2 + 1 < M.length := by
      rcases Nat.lt_or_ge (j * 2 + 1) M.length with h | h
      · exact h
      · rw [List.getElem?_eq_none h] at h1; cases h1
    rw [List.getElem?_eq_getElem l0] at h0
    rw [List.getElem?_eq_getElem l1] at h1
    injection h0 with h0
    injection h1 with h1
    refine ⟨⟨by rw [hBw.cell l0, h0], by rw [hBw.cell l1, h1], hBw.free _, hBw.free _⟩, .inr ⟨g, M, hA, hg, ?_, hq⟩⟩
    have h2 := (hBw.set (j * 2) (strV rf[j].1)).set (j * 2 + 1) (strV rf[j].2)
    rw [← h0, ← h1, List.set_getElem_self, List.set_getElem_self] at h2
    rw [← h0, ← h1]
    exact h2
theorem RfCp.row {base : Nat} {w : World} {rf : List Rf} {A : Option Addr} {F : Nat → Prop} (h : RfCp base rf A w) (hF : ∀ i, F i → i < base) (hs : ∀ x ∈ rf, small x.1 ∧ small x.2) : RowAt 2 RfAt w F A rf := by
  rcases h with h | ⟨g, M, hA, hg, hB, hq⟩
  · exact .inl h
  · refine .inr ⟨g, 0, hA, hB.lt, fun hf => by have := hF g hf; omega, fun j hj => ?_⟩
    obtain ⟨h0, h1⟩ := hq j hj
    refine ⟨[strV rf[j].1, strV rf[j].2], ⟨rfl, hs _ (List.getElem_mem hj)⟩, fun i hi => ?_⟩
    have hcell : ∀ i u, M[i]? = some u → w.cell? ⟨g, i, none⟩ = some u := fun i u hu => by
      have l0 : i < M.length := by
        rcases Nat.lt_or_ge i M.length with h | h
        · exact h
        · rw [List.getElem?_eq_none h] at hu; cases hu
      rw [hB.cell l0, ← hu, List.getElem?_eq_getElem l0]
    rw [Nat.zero_add]
    have : i = 0 ∨ i = 1 := by omega
    rcases this with rfl | rfl
    · exact hcell _ _ h0
    · exact hcell _ _ h1
set_option maxRecDepth 100000 in
set_option maxHeartbeats 4000000 in
theorem copyR_any (x : Rl) (W : World) (F : Nat → Prop) (cs : List Value) (hcp : cpR x) (hx : RlAt W F x cs) : Calls Try.prog 74 #[.agg cs.toArray] W (CopyR W x) := by
  obtain ⟨B, m, k, n, o, E, me, ce, rfl, ⟨hsn, hrl⟩, hr, he⟩ := hx.six
  obtain ⟨nm, rf, ex⟩ := x
  dsimp only at *
  obtain ⟨⟨hnl, hfl⟩, hrt, hxe⟩ := hcp
  dsimp only at *
  show Calls _ _ #[.agg #[strV nm, .slice B rf.length m, .int .i64 k, strV n, strV o, .slice E me ce]] _ _
  obtain ⟨W1, hW⟩ : ∃ W1, W1 = (W.alloc (.cells #[strV nm, .slice B rf.length m, .int .i64 k, strV n, strV o, .slice E me ce] 58)).alloc (.cells #[.string ⟨#[]⟩, .slice none 0 0, .int .i64 0, .string ⟨#[]⟩, .string ⟨#[]⟩, .slice none 0 0] 58) := ⟨_, rfl⟩
  have HKA : Hid (Blk W1 W.heap.size [strV nm, .slice B rf.length m, .int .i64 k, strV n, strV o, .slice E me ce] 58) := by rw [hW]; exact Lib.hid ((Blk.new W _ _).alloc _)
  have HKE : Hid (Blk W1 (W.heap.size + 1) [.string ⟨#[]⟩, .slice none 0 0, .int .i64 0, .string ⟨#[]⟩, .string ⟨#[]⟩, .slice none 0 0] 58) := by
    rw [hW]
    have := Blk.new (W.alloc (.cells #[strV nm, .slice B rf.length m, .int .i64 k, strV n, strV o, .slice E me ce] 58)) [.string ⟨#[]⟩, .slice none 0 0, .int .i64 0, .string ⟨#[]⟩, .string ⟨#[]⟩, .slice none 0 0] 58
    rw [World.size_alloc] at this
    exact Lib.hid this
  have HB0 : Hid (Below W.heap.size W W1) := by rw [hW]; exact Lib.hid (((Below.refl _ _).alloc (Nat.le_refl _) _).alloc (by simp) _)
  have HW := Lib.hid hW
  have HX : Hid (∀ w, Below W1.heap.size W1 w → w.cell? ⟨W.heap.size, 1, none⟩ = some (.slice B rf.length m) ∧ (w.cell? ⟨W.heap.size, 0, none⟩ = some (strV nm) ∧ w.cell? ⟨W.heap.size, 2, none⟩ = some (.int .i64 k) ∧ w.cell? ⟨W.heap.size, 3, none⟩ = some (strV n) ∧ w.cell? ⟨W.heap.size, 4, none⟩ = some (strV o) ∧ w.cell? ⟨W.heap.size, 5, none⟩ = some (.slice E me ce))) := Lib.hid (fun w hw => by
    have h1 := HKA.out.below hw HKA.out.lt
    exact ⟨h1.cell (i := 1) (by simp), h1.cell (i := 0) (by simp), h1.cell (i := 2) (by simp), h1.cell (i := 3) (by simp), h1.cell (i := 4) (by simp), h1.cell (i := 5) (by simp)⟩)
  have HCL := Lib.hid (cloneRef_any (R := RfAt) rf B m W1 F (hr.moved (Spared.of_below HB0.out F) (fun _ h => .inl h) (fun _ _ _ h => h)) (fun x cs h => by rw [h.1]; rfl) (fun x cs h u hu => by rw [h.1] at hu; simp only [List.mem_cons, List.not_mem_nil, or_false] at hu; rcases hu with rfl | rfl <;> rfl) hfl)
  have HCN := Lib.hid (fun w => rclone_any nm w hnl)
  have HRT := Lib.hid hrt
  have HSM : Hid (∀ x ∈ rf, small x.1 ∧ small x.2) := Lib.hid (fun x hx => by
    have h1 := hrt x hx
    exact ⟨by unfold small; omega, by unfold small; omega⟩)
  have HEX : Hid (∀ w, Below W1.heap.size W1 w → Calls Try.prog 87 #[.agg #[.int .i64 k, strV n, strV o, .slice E me ce]] w (CopyX w ex)) := Lib.hid (fun w hw => copyX_any ex w F _ hxe (ExAt.below hw (ExAt.below HB0.out he)))
  have HFI : Hid (small nm ∧ rf.length ≤ 9223372036854775807) := Lib.hid ⟨hsn, hrl⟩
  obtain ⟨x1, x0⟩ := HX.out W1 (Below.refl _ _)
  clear x0
  rw [HW.out] at x1
  have HKL : Hid (W.heap.size + 1 < W1.heap.size) := Lib.hid HKE.out.lt
  clear hW hr he hx hrt hxe hnl hsn hrl
  go_enter Try.func74, Try.ntmps74
  go_wp2_with (go_at_call 85; rw [← HW.out]; (refine HCL.out.mono ?_); rintro r w2 ⟨A', c', rfl, hb2, hcp⟩; have HB2 := Lib.hid hb2; have HCS : Hid (RfCp W1.heap.size rf A' w2) := Lib.hid (RfCp.of hcp (Nat.le_refl _)); clear x1 hb2 hcp)
  go_loopw [11] (fun i wr => ∃ j : Nat, j ≤ rf.length ∧ i = .int .i64 j ∧ Hid (RfCp W1.heap.size rf A' wr) ∧ Hid (Below W1.heap.size W1 wr)) (fun i _ => rf.length - (intOf i).toNat)
  case atStart => exact ⟨0, by omega, rfl, HCS, HB2⟩
  case round =>
    obtain ⟨j, hj, rfl, HST, BW⟩ := hrel
    by_cases hlt : j < rf.length
    · have hlt2 : ((j : Int) < (rf.length : Int)) := by omega
      obtain ⟨g, hA, hg, hgl, hat⟩ := HST.out.at_ hlt
      have hmem := HRT.out _ (List.getElem_mem hlt)
      generalize rf[j].1 = t1 at *
      generalize rf[j].2 = t2 at *
      have HC1 := Lib.hid (fun w => rclone_any t1 w hmem.1)
      have HC2 := Lib.hid (fun w => rclone_any t2 w hmem.2)
      obtain ⟨⟨y0, y1, _, _⟩, _⟩ := hat wr (Below.refl _ _)
      obtain ⟨w4, hw4⟩ : ∃ w4, w4 = wr.alloc (.cells #[strV t1, strV t2] 67) := ⟨_, rfl⟩
      have hb4 : Below wr.heap.size wr w4 := by rw [hw4]; exact (Below.refl _ _).alloc (Nat.le_refl _) _
      have hk4 : Blk w4 wr.heap.size [strV t1, strV t2] 67 := by rw [hw4]; exact Blk.new _ _ _
      have HAT := Lib.hid hat
      have HB4 := Lib.hid hb4
      have HW4 := Lib.hid hw4
      have HGL := Lib.hid (And.intro hg hgl)
      have hN : ∀ w, Below w4.heap.size w4 w → (w.cell? ⟨wr.heap.size, 0, none⟩ = some (strV t1) ∧ w.cell? ⟨wr.heap.size, 1, none⟩ = some (strV t2)) := fun w hw => by
        have h := hk4.below hw hk4.lt
        exact ⟨h.cell (i := 0) (by simp), h.cell (i := 1) (by simp)⟩
      have hS0 : (w4.drew.cell? ⟨wr.heap.size, 0, none⟩ = some (strV t1) ∧ w4.drew.cell? ⟨wr.heap.size, 1, none⟩ = some (strV t2)) := hN w4.drew (Below.refl _ _).drew
      have hne : wr.heap.size ≠ g := by omega
      have HST2 : Hid (∀ w : World, (w.cell? ⟨wr.heap.size, 0, none⟩ = some (strV t1) ∧ w.cell? ⟨wr.heap.size, 1, none⟩ = some (strV t2)) → (((w.setCell ⟨g, j * 2, none⟩ (strV t1)).setCell ⟨g, j * 2 + 1, none⟩ (strV t2)).cell? ⟨wr.heap.size, 0, none⟩ = some (strV t1) ∧ ((w.setCell ⟨g, j * 2, none⟩ (strV t1)).setCell ⟨g, j * 2 + 1, none⟩ (strV t2)).cell? ⟨wr.heap.size, 1, none⟩ = some (strV t2))) := Lib.hid (fun w hw => by
        have hh : ∀ k', k' ≠ g → (((w.setCell ⟨g, j * 2, none⟩ (strV t1)).setCell ⟨g, j * 2 + 1, none⟩ (strV t2))).heap[k']? = w.heap[k']? := fun k' hk => by
          rw [Below.heap_setCell _ _ _ _ hk, Below.heap_setCell _ _ _ _ hk]
        exact ⟨(World.cell?_of_block (hh _ hne)).trans hw.1, (World.cell?_of_block (hh _ hne)).trans hw.2⟩)
      have HN := Lib.hid hN
      clear hat hb4 hk4 hw4 hg hgl hmem hN hne
      subst hA
      go_wp2_with fail
      rw [← HW4.out]
      clear y0 y1
      go_region_held_law (fun w => (w.cell? ⟨wr.heap.size, 0, none⟩ = some (strV t1) ∧ w.cell? ⟨wr.heap.size, 1, none⟩ = some (strV t2)))
        (first | with_reducible assumption | (apply HST2.out; assumption))
        (first
          | (go_at_call 86; (with_reducible refine (HC1.out _).mono ?_); rintro r w7 ⟨rfl, hb7⟩; have HB7 := Lib.hid (undrew hb7); have hS7 := HN.out w7 HB7.out; clear hb7)
          | (go_at_call 86; (with_reducible refine (HC2.out _).mono ?_); rintro r w8 ⟨rfl, hb8⟩; have HB8 := Lib.hid (hop HB7.out hb8); have hS8 := HN.out w8 HB8.out; have HB48 := Lib.hid (hop HB4.out HB8.out); have HA8 := Lib.hid (HAT.out w8 HB48.out); obtain ⟨⟨v0, v1, f0, f1⟩, _⟩ := HA8.out; clear hb8))
      go_wp2_with fail
      go_roundw
      case rel => exact ⟨j + 1, by omega, by go_num, Lib.hid HA8.out.2, Lib.hid (((hop BW.out HB48.out).setCell (p := ⟨g, j * 2, none⟩) HGL.out.1 _).setCell (p := ⟨g, j * 2 + 1, none⟩) HGL.out.1 _)⟩
      case measure => simp [intOf]; omega
    · have hlt2 : ¬ ((j : Int) < (rf.length : Int)) := by omega
      have hN : ∀ w, Below wr.heap.size wr w → (w.cell? ⟨W.heap.size, 0, none⟩ = some (strV nm) ∧ w.cell? ⟨W.heap.size, 2, none⟩ = some (.int .i64 k) ∧ w.cell? ⟨W.heap.size, 3, none⟩ = some (strV n) ∧ w.cell? ⟨W.heap.size, 4, none⟩ = some (strV o) ∧ w.cell? ⟨W.heap.size, 5, none⟩ = some (.slice E me ce)) := fun w hw => (HX.out w (hop BW.out hw)).2
      have hS0 : (wr.drew.cell? ⟨W.heap.size, 0, none⟩ = some (strV nm) ∧ wr.drew.cell? ⟨W.heap.size, 2, none⟩ = some (.int .i64 k) ∧ wr.drew.cell? ⟨W.heap.size, 3, none⟩ = some (strV n) ∧ wr.drew.cell? ⟨W.heap.size, 4, none⟩ = some (strV o) ∧ wr.drew.cell? ⟨W.heap.size, 5, none⟩ = some (.slice E me ce)) := hN wr.drew (Below.refl _ _).drew
      have HN := Lib.hid hN
      have HKZ : Hid (∀ w, Below wr.heap.size wr w → Blk w (W.heap.size + 1) [.string ⟨#[]⟩, .slice none 0 0, .int .i64 0, .string ⟨#[]⟩, .string ⟨#[]⟩, .slice none 0 0] 58) := Lib.hid (fun w hw => HKE.out.below (hop BW.out hw) HKE.out.lt)
      have HST2 : Hid (∀ (w : World) (k5 : Int) (n5 o5 : Txt) (E5 : Option Addr) (ks5 : List Ex) (m5 : Nat), (w.cell? ⟨W.heap.size, 0, none⟩ = some (strV nm) ∧ w.cell? ⟨W.heap.size, 2, none⟩ = some (.int .i64 k) ∧ w.cell? ⟨W.heap.size, 3, none⟩ = some (strV n) ∧ w.cell? ⟨W.heap.size, 4, none⟩ = some (strV o) ∧ w.cell? ⟨W.heap.size, 5, none⟩ = some (.slice E me ce)) → (((((((w.setCell ⟨W.heap.size + 1, 0, none⟩ (strV nm)).setCell ⟨W.heap.size + 1, 1, none⟩ (.slice A' rf.length c')).setCell ⟨W.heap.size + 1, 2, none⟩ (.int .i64 k5)).setCell ⟨W.heap.size + 1, 3, none⟩ (strV n5)).setCell ⟨W.heap.size + 1, 4, none⟩ (strV o5)).setCell ⟨W.heap.size + 1, 5, none⟩ (.slice E5 ks5.length m5)).cell? ⟨W.heap.size, 0, none⟩ = some (strV nm) ∧ ((((((w.setCell ⟨W.heap.size + 1, 0, none⟩ (strV nm)).setCell ⟨W.heap.size + 1, 1, none⟩ (.slice A' rf.length c')).setCell ⟨W.heap.size + 1, 2, none⟩ (.int .i64 k5)).setCell ⟨W.heap.size + 1, 3, none⟩ (strV n5)).setCell ⟨W.heap.size + 1, 4, none⟩ (strV o5)).setCell ⟨W.heap.size + 1, 5, none⟩ (.slice E5 ks5.length m5)).cell? ⟨W.heap.size, 2, none⟩ = some (.int .i64 k) ∧ ((((((w.setCell ⟨W.heap.size + 1, 0, none⟩ (strV nm)).setCell ⟨W.heap.size + 1, 1, none⟩ (.slice A' rf.length c')).setCell ⟨W.heap.size + 1, 2, none⟩ (.int .i64 k5)).setCell ⟨W.heap.size + 1, 3, none⟩ (strV n5)).setCell ⟨W.heap.size + 1, 4, none⟩ (strV o5)).setCell ⟨W.heap.size + 1, 5, none⟩ (.slice E5 ks5.length m5)).cell? ⟨W.heap.size, 3, none⟩ = some (strV n) ∧ ((((((w.setCell ⟨W.heap.size + 1, 0, none⟩ (strV nm)).setCell ⟨W.heap.size + 1, 1, none⟩ (.slice A' rf.length c')).setCell ⟨W.heap.size + 1, 2, none⟩ (.int .i64 k5)).setCell ⟨W.heap.size + 1, 3, none⟩ (strV n5)).setCell ⟨W.heap.size + 1, 4, none⟩ (strV o5)).setCell ⟨W.heap.size + 1, 5, none⟩ (.slice E5 ks5.length m5)).cell? ⟨W.heap.size, 4, none⟩ = some (strV o) ∧ ((((((w.setCell ⟨W.heap.size + 1, 0, none⟩ (strV nm)).setCell ⟨W.heap.size + 1, 1, none⟩ (.slice A' rf.length c')).setCell ⟨W.heap.size + 1, 2, none⟩ (.int .i64 k5)).setCell ⟨W.heap.size + 1, 3, none⟩ (strV n5)).setCell ⟨W.heap.size + 1, 4, none⟩ (strV o5)).setCell ⟨W.heap.size + 1, 5, none⟩ (.slice E5 ks5.length m5)).cell? ⟨W.heap.size, 5, none⟩ = some (.slice E me ce))) := Lib.hid (fun w k5 n5 o5 E5 ks5 m5 hw => by
        have hh : ∀ k', k' ≠ W.heap.size + 1 → (((((((w.setCell ⟨W.heap.size + 1, 0, none⟩ (strV nm)).setCell ⟨W.heap.size + 1, 1, none⟩ (.slice A' rf.length c')).setCell ⟨W.heap.size + 1, 2, none⟩ (.int .i64 k5)).setCell ⟨W.heap.size + 1, 3, none⟩ (strV n5)).setCell ⟨W.heap.size + 1, 4, none⟩ (strV o5)).setCell ⟨W.heap.size + 1, 5, none⟩ (.slice E5 ks5.length m5))).heap[k']? = w.heap[k']? := fun k' hk => by
          rw [Below.heap_setCell _ _ _ _ hk, Below.heap_setCell _ _ _ _ hk, Below.heap_setCell _ _ _ _ hk, Below.heap_setCell _ _ _ _ hk, Below.heap_setCell _ _ _ _ hk, Below.heap_setCell _ _ _ _ hk]
        have hne : W.heap.size ≠ W.heap.size + 1 := Nat.ne_of_lt (Nat.lt_succ_self _)
        exact ⟨(World.cell?_of_block (hh _ hne)).trans hw.1, (World.cell?_of_block (hh _ hne)).trans hw.2.1, (World.cell?_of_block (hh _ hne)).trans hw.2.2.1, (World.cell?_of_block (hh _ hne)).trans hw.2.2.2.1, (World.cell?_of_block (hh _ hne)).trans hw.2.2.2.2⟩)
      clear hN hj HCS HB2
      go_wp2_with fail
      go_region_held_law (fun w => (w.cell? ⟨W.heap.size, 0, none⟩ = some (strV nm) ∧ w.cell? ⟨W.heap.size, 2, none⟩ = some (.int .i64 k) ∧ w.cell? ⟨W.heap.size, 3, none⟩ = some (strV n) ∧ w.cell? ⟨W.heap.size, 4, none⟩ = some (strV o) ∧ w.cell? ⟨W.heap.size, 5, none⟩ = some (.slice E me ce)))
        (first | with_reducible assumption | (apply HST2.out; assumption))
        (first
          | (go_at_call 86; (with_reducible refine (HCN.out _).mono ?_); rintro r w7 ⟨rfl, hb7⟩; have HB7 := Lib.hid (undrew hb7); have hS7 := HN.out w7 HB7.out; have HC7 := Lib.hid (HEX.out w7 (hop BW.out HB7.out)); clear hb7)
          | (go_at_call 87; (with_reducible refine HC7.out.mono ?_); rintro r w8 ⟨cs8, rfl, hx8, hb8⟩; have HX8 := Lib.hid hx8; obtain ⟨k5, n5, o5, ks5⟩ := ex; obtain ⟨E5, m5, rfl, _, _⟩ := HX8.out.row; have HB8 := Lib.hid (hop HB7.out hb8); have hS8 := HN.out w8 HB8.out; have HK8 := Lib.hid (HKZ.out w8 HB8.out); have v0 := HK8.out.cell (i := 0) (by simp); have v1 := HK8.out.cell (i := 1) (by simp); have v2 := HK8.out.cell (i := 2) (by simp); have v3 := HK8.out.cell (i := 3) (by simp); have v4 := HK8.out.cell (i := 4) (by simp); have v5 := HK8.out.cell (i := 5) (by simp); have f0 := HK8.out.free 0; have f1 := HK8.out.free 1; have f2 := HK8.out.free 2; have f3 := HK8.out.free 3; have f4 := HK8.out.free 4; have f5 := HK8.out.free 5; simp only [List.getElem_cons_zero, List.getElem_cons_succ] at v0 v1 v2 v3 v4 v5; have hS9 := HST2.out w8 k5 n5 o5 E5 ks5 m5 hS8; clear hb8 hx8))
      go_wp2_with fail
      refine bodyPost_ret (v := .agg #[strV nm, .slice A' rf.length c', .int .i64 k5, strV n5, strV o5, .slice E5 ks5.length m5]) (by simp [results, Try.results74, go_sem, v0, v1, v2, v3, v4, v5]) rfl ?_
      have hb8 := hop BW.out HB8.out
      have hsp1 : Spared w8 (((((((w8.setCell ⟨W.heap.size + 1, 0, none⟩ (strV nm)).setCell ⟨W.heap.size + 1, 1, none⟩ (.slice A' rf.length c')).setCell ⟨W.heap.size + 1, 2, none⟩ (.int .i64 k5)).setCell ⟨W.heap.size + 1, 3, none⟩ (strV n5)).setCell ⟨W.heap.size + 1, 4, none⟩ (strV o5)).setCell ⟨W.heap.size + 1, 5, none⟩ (.slice E5 ks5.length m5))) (fun b => b < w7.heap.size) := by
        have hF : (fun b => b < w7.heap.size) (W.heap.size + 1) := by
          have h1 := HKL.out
          have h2 := BW.out.size
          have h3 := HB7.out.size
          show W.heap.size + 1 < w7.heap.size
          omega
        exact ((((((Spared.refl w8 (fun b => b < w7.heap.size)).setCell hF _ _).setCell hF _ _).setCell hF _ _).setCell hF _ _).setCell hF _ _).setCell hF _ _
      have hsp2 : Spared w8 (((((((w8.setCell ⟨W.heap.size + 1, 0, none⟩ (strV nm)).setCell ⟨W.heap.size + 1, 1, none⟩ (.slice A' rf.length c')).setCell ⟨W.heap.size + 1, 2, none⟩ (.int .i64 k5)).setCell ⟨W.heap.size + 1, 3, none⟩ (strV n5)).setCell ⟨W.heap.size + 1, 4, none⟩ (strV o5)).setCell ⟨W.heap.size + 1, 5, none⟩ (.slice E5 ks5.length m5))) (fun b => b < W1.heap.size) := by
        have hF : (fun b => b < W1.heap.size) (W.heap.size + 1) := HKL.out
        exact ((((((Spared.refl w8 (fun b => b < W1.heap.size)).setCell hF _ _).setCell hF _ _).setCell hF _ _).setCell hF _ _).setCell hF _ _).setCell hF _ _
      have hrow : RowAt 2 RfAt (((((((w8.setCell ⟨W.heap.size + 1, 0, none⟩ (strV nm)).setCell ⟨W.heap.size + 1, 1, none⟩ (.slice A' rf.length c')).setCell ⟨W.heap.size + 1, 2, none⟩ (.int .i64 k5)).setCell ⟨W.heap.size + 1, 3, none⟩ (strV n5)).setCell ⟨W.heap.size + 1, 4, none⟩ (strV o5)).setCell ⟨W.heap.size + 1, 5, none⟩ (.slice E5 ks5.length m5))) (fun b => b < W.heap.size) A' rf := ((HST.out.below HB8.out).row (F := fun b => b < W1.heap.size) (fun _ h => h) HSM.out).moved hsp2 (fun i hi => .inl (by have h1 := HB0.out.size; have hi : i < W.heap.size := hi; show i < W1.heap.size; omega)) (fun _ _ _ h => h)
      refine ⟨_, rfl, ⟨A', c', _, rfl, HFI.out, hrow, ExAt.moved hsp1 (fun i hi => .inl (by have h1 := HB0.out.size; have h2 := BW.out.size; have h3 := HB7.out.size; have hi : i < W.heap.size := hi; show i < w7.heap.size; omega)) _ _ HX8.out⟩, ?_⟩
      exact ((((((HB0.out.trans (hb8.mono HB0.out.size)).setCell (p := ⟨W.heap.size + 1, 0, none⟩) (Nat.le_succ _) _).setCell (p := ⟨W.heap.size + 1, 1, none⟩) (Nat.le_succ _) _).setCell (p := ⟨W.heap.size + 1, 2, none⟩) (Nat.le_succ _) _).setCell (p := ⟨W.heap.size + 1, 3, none⟩) (Nat.le_succ _) _).setCell (p := ⟨W.heap.size + 1, 4, none⟩) (Nat.le_succ _) _).setCell (p := ⟨W.heap.size + 1, 5, none⟩) (Nat.le_succ _) _
end Go.Proofs.Ytehabjiacgibpaa
namespace Go.Proofs.Ytehabjiacgibpaa
open Go.RowKit
theorem RowAt.rl {W : World} {F : Nat → Prop} {A : Option Addr} {ks : List Rl} (h : RowAt 6 RlAt W F A ks) {j : Nat} (hj : j < ks.length) :
    ∃ b off A' c k p q E m' c', A = some ⟨b, off, none⟩ ∧ (small ks[j].name ∧ ks[j].refs.length ≤ 9223372036854775807) ∧ RowAt 2 RfAt W F A' ks[j].refs ∧ ExAt W F ks[j].expr [.int .i64 k, strV p, strV q, .slice E m' c'] ∧
      ∀ W', Below W.heap.size W W' → RlSix W' b (off + j * 6) ks[j].name A' ks[j].refs.length c k p q E m' c' := by
  rcases h with rfl | ⟨b, off, rfl, hb, _, hk⟩
  · simp at hj
  · obtain ⟨cs, h1, h2⟩ := hk j hj
    obtain ⟨A', c, k, n, o, E, m, d, rfl, h3, h4, h5⟩ := h1.six
    refine ⟨b, off, A', c, k, n, o, E, m, d, rfl, h3, h4, h5, fun W' hW => ?_⟩
    have hc : ∀ i, i < 6 → W'.cell? ⟨b, off + j * 6 + i, none⟩ = [strV ks[j].name, .slice A' ks[j].refs.length c, .int .i64 k, strV n, strV o, .slice E m d][i]? := fun i hi => (hW.cell (p := ⟨b, off + j * 6 + i, none⟩) hb).trans (h2 i hi)
    exact ⟨hc 0 (by decide), hc 1 (by decide), hc 2 (by decide), hc 3 (by decide), hc 4 (by decide), hc 5 (by decide)⟩
def fewRs (most : Int) : List Rl → Int → Option Int
  | [], n => some n
  | x :: r, n => if 0 < n then (if most < x.refs.length ∨ 100 < x.name.length then none else fewRs most r (weightE x.expr (n - x.refs.length))) else some n
def fewTs (most : Int) : List Ty → Int → Option Int
  | [], n => some n
  | t :: r, n => if 0 < n then (if 100 < t.name.length then none else (fewRs most t.rels n).bind (fewTs most r)) else some n
def okN : Option Int → Bool
  | none => false
  | some n => decide (0 < n)
def fewS (s : Sc) (most : Int) : Bool := okN (fewTs most s (most - s.length))
set_option maxHeartbeats 2000000 in
theorem few_any (s : Sc) (most : Int) (W : World) (F : Nat → Prop) (A : Option Addr) (c : Nat) (hs : ScAt W F A s) (hl : s.length ≤ 9223372036854775807) (hm : 0 ≤ most ∧ most ≤ 1000) :
    Calls Try.prog 9 #[.agg #[.slice A s.length c], .int .i64 most] W fun r w' => r = .returned (.bool (fewS s most)) ∧ Below W.heap.size W w' := by
  obtain ⟨v, hv⟩ : ∃ v, v = fewS s most := ⟨_, rfl⟩
  rw [← hv]
  unfold fewS at hv
  obtain ⟨m1, m2⟩ := hm
  obtain ⟨W1, hW⟩ : ∃ W1, W1 = W.alloc (.cells #[.slice A s.length c] 24) := ⟨_, rfl⟩
  have HK0 : Hid (Blk W1 W.heap.size [.slice A s.length c] 24) := by rw [hW]; exact Lib.hid (Blk.new W _ _)
  have HB0 : Hid (Below W.heap.size W W1) := by rw [hW]; exact Lib.hid ((Below.refl W.heap.size W).alloc (Nat.le_refl _) _)
  have HS : Hid (RowAt 2 TyAt W F A s) := Lib.hid hs
  have HW := Lib.hid hW
  have HV := Lib.hid hv
  clear hs hW hv
  go_enter Try.func9, Try.ntmps9
  go_wp2_with fail
  rw [← HW.out]
  go_loopw [5, 6] (fun sn i wr => ∃ (j : Nat) (q : Int), j ≤ s.length ∧ i = .int .i64 j ∧ sn = .int .i64 q ∧ (-9223372036854775808 ≤ q ∧ q ≤ 1000) ∧ Hid (okN (fewTs most (s.drop j) q) = v) ∧ Hid (Below W1.heap.size W1 wr)) (fun _ i _ => s.length - (intOf i).toNat)
  case atStart => exact ⟨0, most - s.length, by omega, rfl, rfl, by omega, Lib.hid HV.out.symm, Lib.hid (Below.refl _ _)⟩
  case round =>
    obtain ⟨j, q, hj, rfl, rfl, ⟨q1, q2⟩, HQ, BW⟩ := hrel
    have x1 := (HK0.out.below BW.out HK0.out.lt).cell (i := 0) (by simp)
    simp only [List.getElem_cons_zero] at x1
    by_cases hlt : j < s.length
    · have HD := Lib.hid (List.drop_eq_getElem_cons hlt)
      by_cases hq : 0 < q
      · obtain ⟨b, off, B, d, rfl, ⟨_, hrl⟩, hr, hc⟩ := HS.out.ty hlt
        obtain ⟨z0, z1⟩ := hc wr (HB0.out.trans (BW.out.mono HB0.out.size))
        have HC1 := Lib.hid (fun w' hw => (hc w' hw).2)
        have HRL := Lib.hid hr
        obtain ⟨r, hr1⟩ : ∃ r, fewRs most s[j].rels q = r := ⟨_, rfl⟩
        have HN : Hid (okN (if 100 < s[j].name.length then none else r.bind (fewTs most (s.drop (j + 1)))) = v) := by
          show _ = _
          rw [← HQ.out, HD.out, fewTs, if_pos hq, hr1]
        have HRR := Lib.hid hr1
        clear hc hr hr1
        generalize s[j].name = nx at *
        generalize s[j].rels = rx at *
        by_cases e1 : 100 < nx.length
        · have HQ2 : Hid (v = false) := by show _ = _; rw [← HN.out, if_pos e1]; rfl
          clear HN
          go_wp2_with fail
          go_ret
          exact ⟨by rw [HQ2.out]; rfl, HB0.out.trans (BW.out.mono HB0.out.size)⟩
        · rw [if_neg e1] at HN
          have hd : decide (100 < nx.length) = false := decide_eq_false e1
          go_wp2_with fail
          go_loopw [5, 7] (fun sn i w3 => ∃ (p : Nat) (q : Int), p ≤ rx.length ∧ i = .int .i64 p ∧ sn = .int .i64 q ∧ (-9223372036854775808 ≤ q ∧ q ≤ 1000) ∧ Hid (fewRs most (rx.drop p) q = r) ∧ Hid (Below wr.heap.size wr w3)) (fun _ i _ => rx.length - (intOf i).toNat)
          case atStart => exact ⟨0, q, by omega, rfl, rfl, by omega, Lib.hid HRR.out, Lib.hid (Below.refl _ _)⟩
          case round =>
            rename World => w3
            obtain ⟨p, q', hp, rfl, rfl, ⟨q3, q4⟩, HP, BW2⟩ := hrel
            have hbw := BW.out.trans (BW2.out.mono BW.out.size)
            have HB3 := Lib.hid (HB0.out.trans (hbw.mono HB0.out.size))
            have x2 := (HK0.out.below hbw HK0.out.lt).cell (i := 0) (by simp)
            simp only [List.getElem_cons_zero] at x2
            have z2 := HC1.out w3 HB3.out
            have HBW := Lib.hid hbw
            clear hbw
            by_cases hpl : p < rx.length
            · have HE := Lib.hid (List.drop_eq_getElem_cons hpl)
              by_cases hq' : 0 < q'
              · obtain ⟨g, og, B1, c1, k1, p1, p2, E1, m2', c2, rfl, ⟨_, hrf⟩, _, hE, hcells⟩ := HRL.out.rl hpl
                obtain ⟨a0, a1, a2, a3, a4, a5⟩ := hcells w3 HB3.out
                have HQ5 : Hid ((if most < rx[p].refs.length ∨ 100 < rx[p].name.length then none else fewRs most (rx.drop (p + 1)) (weightE rx[p].expr (q' - rx[p].refs.length))) = r) := by
                  show _ = _
                  rw [← HP.out, HE.out, fewRs, if_pos hq']
                obtain ⟨ex, hex⟩ : ∃ ex, ex = rx[p].expr := ⟨_, rfl⟩
                rw [← hex] at HQ5 hE
                generalize rx[p].refs.length = lr at *
                generalize rx[p].name = nr at *
                clear hcells hex
                have HEX := Lib.hid hE
                clear hE
                by_cases c5 : most < lr ∨ 100 < nr.length
                · have HQ2 : Hid (v = false) := by
                    show _ = _
                    rw [← HN.out, ← HQ5.out, if_pos c5]; rfl
                  have c6 : most < lr ∨ (¬ most < lr ∧ decide (most < (lr : Int)) = false ∧ 100 < nr.length) := by
                    by_cases c7 : most < lr
                    · exact .inl c7
                    · exact .inr ⟨c7, decide_eq_false c7, c5.resolve_left c7⟩
                  clear c5 HQ5 HN
                  rcases c6 with c6 | ⟨c6, c7, c8⟩
                  all_goals go_wp2_with fail
                  all_goals go_ret
                  all_goals exact ⟨by rw [HQ2.out]; rfl, HB3.out.alloc (Nat.le_trans (Nat.le_refl _) HB3.out.size) _⟩
                · rw [if_neg c5] at HQ5
                  have c6 : ¬ most < lr := fun h => c5 (.inl h)
                  have c7 : decide (most < (lr : Int)) = false := decide_eq_false c6
                  have c8 : decide (100 < nr.length) = false := decide_eq_false (fun h => c5 (.inr h))
                  have c9 : ¬ 100 < nr.length := fun h => c5 (.inr h)
                  obtain ⟨W4, hW4⟩ : ∃ W4, W4 = w3.alloc (.cells #[strV nr, .slice B1 lr c1, .int .i64 k1, strV p1, strV p2, .slice E1 m2' c2] 58) := ⟨_, rfl⟩
                  have HB4 : Hid (Below wr.heap.size wr W4) := by rw [hW4]; exact Lib.hid (BW2.out.alloc BW2.out.size _)
                  have HB5 : Hid (Below W.heap.size W W4) := by rw [hW4]; exact Lib.hid (HB3.out.alloc HB3.out.size _)
                  have hwle := weightE_le ex (q' - lr)
                  have hwge := weightE_ge ex (q' - lr)
                  have HCW := Lib.hid (weight_any ex W4 F _ (q' - lr) (HEX.out.below HB5.out) (by omega))
                  obtain ⟨q5, hq5⟩ : ∃ q5, q5 = weightE ex (q' - lr) := ⟨_, rfl⟩
                  rw [← hq5] at HCW HQ5 hwle hwge
                  rw [hW4] at HCW
                  have HW4 := Lib.hid hW4
                  clear hW4 hq5 c5
                  go_wp2_with (go_at_call 24; refine HCW.out.mono ?_; rintro e w5 ⟨rfl, hb5⟩)
                  go_roundw
                  case rel => exact ⟨p + 1, q5, by omega, by go_num, rfl, by omega, HQ5, Lib.hid (by rw [← HW4.out] at hb5; exact HB4.out.trans (hb5.mono HB4.out.size))⟩
                  case measure => simp [intOf]; omega
              · have HQ2 : Hid (r = some q') := by
                  show _ = _
                  rw [← HP.out, HE.out, fewRs, if_neg hq']
                have hdq : decide (0 < q') = false := decide_eq_false hq'
                have HQ3 : Hid (okN (fewTs most (s.drop (j + 1)) q') = v) := by show _ = _; rw [← HN.out, HQ2.out]; rfl
                go_wp2_with fail
                go_roundw
                case rel => exact ⟨j + 1, q', by omega, by go_num, rfl, by omega, HQ3, HBW⟩
                case measure => simp [intOf]; omega
            · have HQ2 : Hid (r = some q') := by
                show _ = _
                rw [← HP.out, List.drop_of_length_le (by omega), fewRs]
              have HQ3 : Hid (okN (fewTs most (s.drop (j + 1)) q') = v) := by show _ = _; rw [← HN.out, HQ2.out]; rfl
              go_wp2_with fail
              go_roundw
              case rel => exact ⟨j + 1, q', by omega, by go_num, rfl, by omega, HQ3, HBW⟩
              case measure => simp [intOf]; omega
      · have HQ2 : Hid (v = false) := by
          show _ = _
          rw [← HQ.out, HD.out, fewTs, if_neg hq, okN, decide_eq_false hq]
        have hdq : decide (0 < q) = false := decide_eq_false hq
        go_wp2_with fail
        go_ret
        exact ⟨by rw [HQ2.out]; rfl, HB0.out.trans (BW.out.mono HB0.out.size)⟩
    · have HQ2 : Hid (v = decide (0 < q)) := by
        show _ = _
        rw [← HQ.out, List.drop_of_length_le (by omega), fewTs, okN]
      go_wp2_with fail
      go_ret
      exact ⟨by rw [HQ2.out]; rfl, HB0.out.trans (BW.out.mono HB0.out.size)⟩
end Go.Proofs.Ytehabjiacgibpaa
namespace Go.Proofs.Ytehabjiacgibpaa
open Go.RowKit
end Go.Proofs.Ytehabjiacgibpaa
namespace Go.Proofs.Ytehabjiacgibpaa
open Go.RowKit
def atN {α : Type} (p : α → Bool) : List α → Nat → Int
  | [], _ => -1
  | x :: r, i => if p x then (i : Int) else atN p r (i + 1)
theorem atN_drop {α : Type} {p : α → Bool} {l : List α} {j : Nat} (h : j < l.length) : atN p (l.drop j) j = if p l[j] then (j : Int) else atN p (l.drop (j + 1)) (j + 1) := by
  rw [List.drop_eq_getElem_cons h, atN]
theorem atN_is {α : Type} (p : α → Bool) : ∀ (l : List α) (i : Nat), atN p l i = -1 ∨ ∃ j, j < l.length ∧ atN p l i = ((i + j : Nat) : Int)
  | [], _ => .inl rfl
  | x :: r, i => by
    rw [atN]
    by_cases h : p x = true
    · rw [if_pos h]; exact .inr ⟨0, by simp, by simp⟩
    · rw [if_neg h]
      rcases atN_is p r (i + 1) with h1 | ⟨j, h1, h2⟩
      · exact .inl h1
      · exact .inr ⟨j + 1, by simp; omega, by rw [h2]; congr 1; omega⟩
def typN (s : Sc) (n : Txt) : Int := atN (fun (t : Ty) => decide (t.name = n)) s 0
def relsN (rs : List Rl) (n : Txt) : Int := atN (fun (r : Rl) => decide (r.name = n)) rs 0
def ofT (s : Sc) (t : Int) : List Rl := if t < 0 then [] else ((s[t.toNat]?).map (·.rels)).getD []
def relN (s : Sc) (t : Int) (n : Txt) : Int := relsN (ofT s t) n
theorem typN_is (s : Sc) (n : Txt) : typN s n = -1 ∨ ∃ j, j < s.length ∧ typN s n = (j : Int) := by
  rcases atN_is (fun (t : Ty) => decide (t.name = n)) s 0 with h | ⟨j, h1, h2⟩
  · exact .inl h
  · exact .inr ⟨j, h1, by unfold typN; rw [h2, Nat.zero_add]⟩
theorem relsN_is (rs : List Rl) (n : Txt) : relsN rs n = -1 ∨ ∃ j, j < rs.length ∧ relsN rs n = (j : Int) := by
  rcases atN_is (fun (r : Rl) => decide (r.name = n)) rs 0 with h | ⟨j, h1, h2⟩
  · exact .inl h
  · exact .inr ⟨j, h1, by unfold relsN; rw [h2, Nat.zero_add]⟩
theorem ofT_at {s : Sc} {j : Nat} (h : j < s.length) : ofT s (j : Int) = s[j].rels := by
  unfold ofT
  rw [if_neg (by omega), Int.toNat_natCast, List.getElem?_eq_getElem h]; rfl
theorem ofT_neg {s : Sc} {t : Int} (h : t < 0) : ofT s t = [] := if_pos h
def noRel : Rl := ⟨[], [], .mk 0 [] [] []⟩
def relAt (s : Sc) (t k : Int) : Rl := ((ofT s t)[k.toNat]?).getD noRel
def findR (s : Sc) (t n : Txt) : Rl × Bool := let i := typN s t; let k := relN s i n; if k < 0 then (noRel, false) else (relAt s i k, true)
end Go.Proofs.Ytehabjiacgibpaa
namespace Go.Proofs.Ytehabjiacgibpaa
open Go.RowKit
set_option maxRecDepth 100000 in
set_option maxHeartbeats 1000000 in
theorem rtyp_any (s : Sc) (n : Txt) (W : World) (F : Nat → Prop) (A : Option Addr) (c : Nat) (hs : ScAt W F A s) (hl : s.length ≤ 9223372036854775807) :
    Calls Try.prog 53 #[.agg #[.slice A s.length c], strV n] W fun r w' => r = .returned (.int .i64 (typN s n)) ∧ Below W.heap.size W w' := by
  obtain ⟨v, hv⟩ : ∃ v, v = typN s n := ⟨_, rfl⟩
  rw [← hv]
  unfold typN at hv
  obtain ⟨W1, hW⟩ : ∃ W1, W1 = W.alloc (.cells #[.slice A s.length c] 24) := ⟨_, rfl⟩
  have HK0 : Hid (Blk W1 W.heap.size [.slice A s.length c] 24) := by rw [hW]; exact Lib.hid (Blk.new W _ _)
  have HB0 : Hid (Below W.heap.size W W1) := by rw [hW]; exact Lib.hid ((Below.refl W.heap.size W).alloc (Nat.le_refl _) _)
  have HS : Hid (RowAt 2 TyAt W F A s) := Lib.hid hs
  have HW := Lib.hid hW
  have HV := Lib.hid hv
  clear hs hW hv
  go_enter Try.func53, Try.ntmps53
  go_wp2_with fail
  rw [← HW.out]
  go_loopw [5] (fun i wr => ∃ j : Nat, j ≤ s.length ∧ i = .int .i64 j ∧ Hid (v = atN (fun (t : Ty) => decide (t.name = n)) (s.drop j) j) ∧ Hid (Below W1.heap.size W1 wr)) (fun i _ => s.length - (intOf i).toNat)
  case atStart => exact ⟨0, by omega, rfl, HV, Lib.hid (Below.refl _ _)⟩
  case round =>
    obtain ⟨j, hj, rfl, H, BW⟩ := hrel
    have x1 := (HK0.out.below BW.out HK0.out.lt).cell (i := 0) (by simp)
    simp only [List.getElem_cons_zero] at x1
    by_cases hlt : j < s.length
    · have HD := Lib.hid (atN_drop (p := fun (t : Ty) => decide (t.name = n)) hlt)
      obtain ⟨b, off, B, d, rfl, _, _, hc⟩ := HS.out.ty hlt
      obtain ⟨z0, _⟩ := hc wr (HB0.out.trans (BW.out.mono HB0.out.size))
      clear hc
      generalize s[j].name = nx at *
      by_cases e : nx = n
      · have HN : Hid (v = (j : Int)) := Lib.hid (by rw [H.out, HD.out, if_pos (decide_eq_true e)])
        have hd : (nx == n) = true := beq_iff_eq.2 e
        clear e
        go_wp2_with fail
        go_ret
        exact ⟨by rw [HN.out]; rfl, HB0.out.trans (BW.out.mono HB0.out.size)⟩
      · have HN : Hid (v = atN (fun (t : Ty) => decide (t.name = n)) (s.drop (j + 1)) (j + 1)) := Lib.hid (by rw [H.out, HD.out, if_neg (by rw [decide_eq_false e]; decide)])
        have hd : (nx == n) = false := beq_eq_false_iff_ne.2 e
        clear e
        go_wp2_with fail
        go_roundw
        case rel => exact ⟨j + 1, by omega, by go_num, HN, BW⟩
        case measure => simp [intOf]; omega
    · have HN : Hid (v = -1) := Lib.hid (by rw [H.out, List.drop_of_length_le (by omega)]; rfl)
      go_wp2_with fail
      go_ret
      exact ⟨by rw [HN.out]; rfl, HB0.out.trans (BW.out.mono HB0.out.size)⟩
def TyNo (s : Sc) (t : Int) : Prop := (-9223372036854775808 ≤ t ∧ t < 0) ∨ ∃ j, j < s.length ∧ t = (j : Int)
theorem typN_no (s : Sc) (n : Txt) : TyNo s (typN s n) := (typN_is s n).imp (fun h => by omega) (fun h => h)
set_option maxRecDepth 100000 in
set_option maxHeartbeats 1000000 in
theorem rrel_any (s : Sc) (t : Int) (n : Txt) (W : World) (F : Nat → Prop) (A : Option Addr) (c : Nat) (hs : ScAt W F A s) (_ : s.length ≤ 9223372036854775807) (ht : TyNo s t) :
    Calls Try.prog 54 #[.agg #[.slice A s.length c], .int .i64 t, strV n] W fun r w' => r = .returned (.int .i64 (relN s t n)) ∧ Below W.heap.size W w' := by
  obtain ⟨v, hv⟩ : ∃ v, v = relN s t n := ⟨_, rfl⟩
  rw [← hv]
  unfold relN at hv
  obtain ⟨W1, hW⟩ : ∃ W1, W1 = W.alloc (.cells #[.slice A s.length c] 24) := ⟨_, rfl⟩
  have HK0 : Hid (Blk W1 W.heap.size [.slice A s.length c] 24) := by rw [hW]; exact Lib.hid (Blk.new W _ _)
  have HB0 : Hid (Below W.heap.size W W1) := by rw [hW]; exact Lib.hid ((Below.refl W.heap.size W).alloc (Nat.le_refl _) _)
  have HS : Hid (RowAt 2 TyAt W F A s) := Lib.hid hs
  have HW := Lib.hid hW
  rcases ht with ⟨h0, h1⟩ | ⟨y, hy, rfl⟩
  · rw [ofT_neg h1] at hv
    have HV : Hid (v = -1) := Lib.hid hv
    clear hs hW hv
    go_enter Try.func54, Try.ntmps54
    go_wp2_with fail
    go_ret
    exact ⟨by rw [HV.out]; rfl, by rw [← HW.out]; exact HB0.out⟩
  rw [ofT_at hy] at hv
  unfold relsN at hv
  have HV := Lib.hid hv
  obtain ⟨b, off, B, d, rfl, ⟨_, hrl⟩, hr, hc⟩ := HS.out.ty hy
  have HC := Lib.hid (fun w hw => (hc w hw).2)
  have HR := Lib.hid hr
  have hnn : ¬ ((y : Int) < 0) := by omega
  generalize s[y].rels = rs at *
  clear hs hW hv hc hr
  go_enter Try.func54, Try.ntmps54
  go_wp2_with fail
  rw [← HW.out]
  go_loopw [7] (fun i wr => ∃ j : Nat, j ≤ rs.length ∧ i = .int .i64 j ∧ Hid (v = atN (fun (r : Rl) => decide (r.name = n)) (rs.drop j) j) ∧ Hid (Below W1.heap.size W1 wr)) (fun i _ => rs.length - (intOf i).toNat)
  case atStart => exact ⟨0, by omega, rfl, HV, Lib.hid (Below.refl _ _)⟩
  case round =>
    obtain ⟨j, hj, rfl, H, BW⟩ := hrel
    have x1 := (HK0.out.below BW.out HK0.out.lt).cell (i := 0) (by simp)
    simp only [List.getElem_cons_zero] at x1
    have hbw := HB0.out.trans (BW.out.mono HB0.out.size)
    have z1 := HC.out wr hbw
    by_cases hlt : j < rs.length
    · have HD := Lib.hid (atN_drop (p := fun (r : Rl) => decide (r.name = n)) hlt)
      obtain ⟨g, og, B1, c1, k1, p1, p2, E1, m2, c2, rfl, _, _, _, hcells⟩ := HR.out.rl hlt
      obtain ⟨a0, _⟩ := hcells wr hbw
      have HBW := Lib.hid hbw
      clear hcells hbw
      generalize rs[j].name = nx at *
      by_cases e : nx = n
      · have HN : Hid (v = (j : Int)) := Lib.hid (by rw [H.out, HD.out, if_pos (decide_eq_true e)])
        have hd : (nx == n) = true := beq_iff_eq.2 e
        clear e
        go_wp2_with fail
        go_ret
        exact ⟨by rw [HN.out]; rfl, HBW.out⟩
      · have HN : Hid (v = atN (fun (r : Rl) => decide (r.name = n)) (rs.drop (j + 1)) (j + 1)) := Lib.hid (by rw [H.out, HD.out, if_neg (by rw [decide_eq_false e]; decide)])
        have hd : (nx == n) = false := beq_eq_false_iff_ne.2 e
        clear e
        go_wp2_with fail
        go_roundw
        case rel => exact ⟨j + 1, by omega, by go_num, HN, BW⟩
        case measure => simp [intOf]; omega
    · have HN : Hid (v = -1) := Lib.hid (by rw [H.out, List.drop_of_length_le (by omega)]; rfl)
      have HBW := Lib.hid hbw
      clear hbw
      go_wp2_with fail
      go_ret
      exact ⟨by rw [HN.out]; rfl, HBW.out⟩
end Go.Proofs.Ytehabjiacgibpaa
namespace Go.Proofs.Ytehabjiacgibpaa
open Go.RowKit
end Go.Proofs.Ytehabjiacgibpaa
namespace Go.Proofs.Ytehabjiacgibpaa
open Go.RowKit
end Go.Proofs.Ytehabjiacgibpaa
namespace Go.Proofs.Ytehabjiacgibpaa
open Go.RowKit
end Go.Proofs.Ytehabjiacgibpaa
namespace Go.Proofs.Ytehabjiacgibpaa
open Go.RowKit
end Go.Proofs.Ytehabjiacgibpaa
namespace Go.Proofs.Ytehabjiacgibpaa
open Go.RowKit
end Go.Proofs.Ytehabjiacgibpaa
