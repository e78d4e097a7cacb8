/-
  Relations copied (the program's copyRel). Conditions: the relation is there; each text is of at most 2^48 bytes, each list of at most 1,000,000 things.
-/
import Derived.Test.YtehabjiacgibpaaGreatCRoCx
import Derived.Test.YtehabjiacgibpaaGreatCNmSub
namespace Go.Proofs.YtehabjiacgibpaaGreat
open Go.RowKit
def cpR (x : Rl) : Prop := (x.name.length ≤ 281474976710656 ∧ x.refs.length ≤ 1000000) ∧ (∀ r ∈ x.refs, r.1.length ≤ 281474976710656 ∧ r.2.length ≤ 281474976710656) ∧ cpE x.expr
def CopyR (W : World) (x : Rl) (r : Ending) (w' : World) : Prop := ∃ cs : List Value, r = .returned (.agg cs.toArray) ∧ RlAt w' (fun b => b < W.heap.size) x cs ∧ Below W.heap.size W w'
def RfCp (base : Nat) (rf : List Rf) (A : Option Addr) (w : World) : Prop := rf = [] ∨ ∃ g M, A = some ⟨g, 0, none⟩ ∧ base ≤ g ∧ Blk w g M 85 ∧ ∀ q (h : q < rf.length), M[q * 2]? = some (strV rf[q].1) ∧ M[q * 2 + 1]? = some (strV rf[q].2)
theorem RfCp.of {w w' : World} {F : Nat → Prop} {rf : List Rf} {A : Option Addr} {base : Nat} (h : RowCp 2 RfAt w F 85 rf A w') (hb : base ≤ w.heap.size) : RfCp base rf A w' := by
  rcases h with h | ⟨g, M, hA, hg, hB, _, hq⟩
  · exact .inl h
  · refine .inr ⟨g, M, hA, Nat.le_trans hb hg, hB, fun q hq' => ?_⟩
    obtain ⟨cs, ⟨rfl, _⟩, h2⟩ := hq q hq'
    exact ⟨h2 0 (by decide), h2 1 (by decide)⟩
theorem RfCp.below {base : Nat} {w w' : World} {rf : List Rf} {A : Option Addr} (h : RfCp base rf A w) (hb : Below w.heap.size w w') : RfCp base rf A w' := by
  rcases h with h | ⟨g, M, hA, hg, hB, hq⟩
  · exact .inl h
  · exact .inr ⟨g, M, hA, hg, hB.below hb hB.lt, hq⟩
theorem RfCp.at_ {base : Nat} {w : World} {rf : List Rf} {A : Option Addr} (h : RfCp base rf A w) {j : Nat} (hj : j < rf.length) :
    ∃ g, A = some ⟨g, 0, none⟩ ∧ base ≤ g ∧ g < w.heap.size ∧ ∀ w', Below w.heap.size w w' → (w'.cell? ⟨g, j * 2, none⟩ = some (strV rf[j].1) ∧ w'.cell? ⟨g, j * 2 + 1, none⟩ = some (strV rf[j].2) ∧ w'.frozen? ⟨g, j * 2, none⟩ = false ∧ w'.frozen? ⟨g, j * 2 + 1, none⟩ = false) ∧
      RfCp base rf A ((w'.setCell ⟨g, j * 2, none⟩ (strV rf[j].1)).setCell ⟨g, j * 2 + 1, none⟩ (strV rf[j].2)) := by
  rcases h with h | ⟨g, M, hA, hg, hB, hq⟩
  · subst h; cases hj
  · refine ⟨g, hA, hg, hB.lt, fun w' hb => ?_⟩
    obtain ⟨h0, h1⟩ := hq j hj
    have hBw := hB.below hb hB.lt
    have l0 : j * 2 < M.length := by
      rcases Nat.lt_or_ge (j * 2) M.length with h | h
      · exact h
      · rw [List.getElem?_eq_none h] at h0; cases h0
    have l1 : j * 2 + 1 < M.length := by
      rcases Nat.lt_or_ge (j * 2 + 1) M.length with h | h
      · exact h
      · rw [List.getElem?_eq_none h] at h1; cases h1
    rw [List.getElem?_eq_getElem l0] at h0
    rw [List.getElem?_eq_getElem l1] at h1
    injection h0 with h0
    injection h1 with h1
    refine ⟨⟨by rw [hBw.cell l0, h0], by rw [hBw.cell l1, h1], hBw.free _, hBw.free _⟩, .inr ⟨g, M, hA, hg, ?_, hq⟩⟩
    have h2 := (hBw.set (j * 2) (strV rf[j].1)).set (j * 2 + 1) (strV rf[j].2)
    rw [← h0, ← h1, List.set_getElem_self, List.set_getElem_self] at h2
    rw [← h0, ← h1]
    exact h2
theorem RfCp.row {base : Nat} {w : World} {rf : List Rf} {A : Option Addr} {F : Nat → Prop} (h : RfCp base rf A w) (hF : ∀ i, F i → i < base) (hs : ∀ x ∈ rf, small x.1 ∧ small x.2) : RowAt 2 RfAt w F A rf := by
  rcases h with h | ⟨g, M, hA, hg, hB, hq⟩
  · exact .inl h
  · refine .inr ⟨g, 0, hA, hB.lt, fun hf => by have := hF g hf; omega, fun j hj => ?_⟩
    obtain ⟨h0, h1⟩ := hq j hj
    refine ⟨[strV rf[j].1, strV rf[j].2], ⟨rfl, hs _ (List.getElem_mem hj)⟩, fun i hi => ?_⟩
    have hcell : ∀ i u, M[i]? = some u → w.cell? ⟨g, i, none⟩ = some u := fun i u hu => by
      have l0 : i < M.length := by
        rcases Nat.lt_or_ge i M.length with h | h
        · exact h
        · rw [List.getElem?_eq_none h] at hu; cases hu
      rw [hB.cell l0, ← hu, List.getElem?_eq_getElem l0]
    rw [Nat.zero_add]
    have : i = 0 ∨ i = 1 := by omega
    rcases this with rfl | rfl
    · exact hcell _ _ h0
    · exact hcell _ _ h1
set_option maxRecDepth 100000 in
set_option maxHeartbeats 4000000 in
theorem copyR_any (x : Rl) (W : World) (F : Nat → Prop) (cs : List Value) (hcp : cpR x) (hx : RlAt W F x cs) : Calls Tryz.prog 95 #[.agg cs.toArray] W (CopyR W x) := by
  obtain ⟨B, m, k, n, o, E, me, ce, rfl, ⟨hsn, hrl⟩, hr, he⟩ := hx.six
  obtain ⟨nm, rf, ex⟩ := x
  dsimp only at *
  obtain ⟨⟨hnl, hfl⟩, hrt, hxe⟩ := hcp
  dsimp only at *
  show Calls _ _ #[.agg #[strV nm, .slice B rf.length m, .int .i64 k, strV n, strV o, .slice E me ce]] _ _
  obtain ⟨W1, hW⟩ : ∃ W1, W1 = (W.alloc (.cells #[strV nm, .slice B rf.length m, .int .i64 k, strV n, strV o, .slice E me ce] 71)).alloc (.cells #[.string ⟨#[]⟩, .slice none 0 0, .int .i64 0, .string ⟨#[]⟩, .string ⟨#[]⟩, .slice none 0 0] 71) := ⟨_, rfl⟩
  have HKA : Hid (Blk W1 W.heap.size [strV nm, .slice B rf.length m, .int .i64 k, strV n, strV o, .slice E me ce] 71) := by rw [hW]; exact Lib.hid ((Blk.new W _ _).alloc _)
  have HKE : Hid (Blk W1 (W.heap.size + 1) [.string ⟨#[]⟩, .slice none 0 0, .int .i64 0, .string ⟨#[]⟩, .string ⟨#[]⟩, .slice none 0 0] 71) := by
    rw [hW]
    have := Blk.new (W.alloc (.cells #[strV nm, .slice B rf.length m, .int .i64 k, strV n, strV o, .slice E me ce] 71)) [.string ⟨#[]⟩, .slice none 0 0, .int .i64 0, .string ⟨#[]⟩, .string ⟨#[]⟩, .slice none 0 0] 71
    rw [World.size_alloc] at this
    exact Lib.hid this
  have HB0 : Hid (Below W.heap.size W W1) := by rw [hW]; exact Lib.hid (((Below.refl _ _).alloc (Nat.le_refl _) _).alloc (by simp) _)
  have HW := Lib.hid hW
  have HX : Hid (∀ w, Below W1.heap.size W1 w → w.cell? ⟨W.heap.size, 1, none⟩ = some (.slice B rf.length m) ∧ (w.cell? ⟨W.heap.size, 0, none⟩ = some (strV nm) ∧ w.cell? ⟨W.heap.size, 2, none⟩ = some (.int .i64 k) ∧ w.cell? ⟨W.heap.size, 3, none⟩ = some (strV n) ∧ w.cell? ⟨W.heap.size, 4, none⟩ = some (strV o) ∧ w.cell? ⟨W.heap.size, 5, none⟩ = some (.slice E me ce))) := Lib.hid (fun w hw => by
    have h1 := HKA.out.below hw HKA.out.lt
    exact ⟨h1.cell (i := 1) (by simp), h1.cell (i := 0) (by simp), h1.cell (i := 2) (by simp), h1.cell (i := 3) (by simp), h1.cell (i := 4) (by simp), h1.cell (i := 5) (by simp)⟩)
  have HCL := Lib.hid (cloneRef_any (R := RfAt) rf B m W1 F (hr.moved (Spared.of_below HB0.out F) (fun _ h => .inl h) (fun _ _ _ h => h)) (fun x cs h => by rw [h.1]; rfl) (fun x cs h u hu => by rw [h.1] at hu; simp only [List.mem_cons, List.not_mem_nil, or_false] at hu; rcases hu with rfl | rfl <;> rfl) hfl)
  have HCN := Lib.hid (fun w => rclone_any nm w hnl)
  have HRT := Lib.hid hrt
  have HSM : Hid (∀ x ∈ rf, small x.1 ∧ small x.2) := Lib.hid (fun x hx => by
    have h1 := hrt x hx
    exact ⟨by unfold small; omega, by unfold small; omega⟩)
  have HEX : Hid (∀ w, Below W1.heap.size W1 w → Calls Tryz.prog 114 #[.agg #[.int .i64 k, strV n, strV o, .slice E me ce]] w (CopyX w ex)) := Lib.hid (fun w hw => copyX_any ex w F _ hxe (ExAt.below hw (ExAt.below HB0.out he)))
  have HFI : Hid (small nm ∧ rf.length ≤ 9223372036854775807) := Lib.hid ⟨hsn, hrl⟩
  obtain ⟨x1, x0⟩ := HX.out W1 (Below.refl _ _)
  clear x0
  rw [HW.out] at x1
  have HKL : Hid (W.heap.size + 1 < W1.heap.size) := Lib.hid HKE.out.lt
  clear hW hr he hx hrt hxe hnl hsn hrl
  go_enter Tryz.func95, Tryz.ntmps95
  go_wp2_with (go_at_call 113; rw [← HW.out]; (refine HCL.out.mono ?_); rintro r w2 ⟨A', c', rfl, hb2, hcp⟩; have HB2 := Lib.hid hb2; have HCS : Hid (RfCp W1.heap.size rf A' w2) := Lib.hid (RfCp.of hcp (Nat.le_refl _)); clear x1 hb2 hcp)
  go_loopw [11] (fun i wr => ∃ j : Nat, j ≤ rf.length ∧ i = .int .i64 j ∧ Hid (RfCp W1.heap.size rf A' wr) ∧ Hid (Below W1.heap.size W1 wr)) (fun i _ => rf.length - (intOf i).toNat)
  case atStart => exact ⟨0, by omega, rfl, HCS, HB2⟩
  case round =>
    obtain ⟨j, hj, rfl, HST, BW⟩ := hrel
    by_cases hlt : j < rf.length
    · have hlt2 : ((j : Int) < (rf.length : Int)) := by omega
      obtain ⟨g, hA, hg, hgl, hat⟩ := HST.out.at_ hlt
      have hmem := HRT.out _ (List.getElem_mem hlt)
      generalize rf[j].1 = t1 at *
      generalize rf[j].2 = t2 at *
      have HC1 := Lib.hid (fun w => rclone_any t1 w hmem.1)
      have HC2 := Lib.hid (fun w => rclone_any t2 w hmem.2)
      obtain ⟨⟨y0, y1, _, _⟩, _⟩ := hat wr (Below.refl _ _)
      obtain ⟨w4, hw4⟩ : ∃ w4, w4 = wr.alloc (.cells #[strV t1, strV t2] 85) := ⟨_, rfl⟩
      have hb4 : Below wr.heap.size wr w4 := by rw [hw4]; exact (Below.refl _ _).alloc (Nat.le_refl _) _
      have hk4 : Blk w4 wr.heap.size [strV t1, strV t2] 85 := by rw [hw4]; exact Blk.new _ _ _
      have HAT := Lib.hid hat
      have HB4 := Lib.hid hb4
      have HW4 := Lib.hid hw4
      have HGL := Lib.hid (And.intro hg hgl)
      have hN : ∀ w, Below w4.heap.size w4 w → (w.cell? ⟨wr.heap.size, 0, none⟩ = some (strV t1) ∧ w.cell? ⟨wr.heap.size, 1, none⟩ = some (strV t2)) := fun w hw => by
        have h := hk4.below hw hk4.lt
        exact ⟨h.cell (i := 0) (by simp), h.cell (i := 1) (by simp)⟩
      have hS0 : (w4.drew.cell? ⟨wr.heap.size, 0, none⟩ = some (strV t1) ∧ w4.drew.cell? ⟨wr.heap.size, 1, none⟩ = some (strV t2)) := hN w4.drew (Below.refl _ _).drew
      have hne : wr.heap.size ≠ g := by omega
      have HST2 : Hid (∀ w : World, (w.cell? ⟨wr.heap.size, 0, none⟩ = some (strV t1) ∧ w.cell? ⟨wr.heap.size, 1, none⟩ = some (strV t2)) → (((w.setCell ⟨g, j * 2, none⟩ (strV t1)).setCell ⟨g, j * 2 + 1, none⟩ (strV t2)).cell? ⟨wr.heap.size, 0, none⟩ = some (strV t1) ∧ ((w.setCell ⟨g, j * 2, none⟩ (strV t1)).setCell ⟨g, j * 2 + 1, none⟩ (strV t2)).cell? ⟨wr.heap.size, 1, none⟩ = some (strV t2))) := Lib.hid (fun w hw => by
        have hh : ∀ k', k' ≠ g → (((w.setCell ⟨g, j * 2, none⟩ (strV t1)).setCell ⟨g, j * 2 + 1, none⟩ (strV t2))).heap[k']? = w.heap[k']? := fun k' hk => by
          rw [Below.heap_setCell _ _ _ _ hk, Below.heap_setCell _ _ _ _ hk]
        exact ⟨(World.cell?_of_block (hh _ hne)).trans hw.1, (World.cell?_of_block (hh _ hne)).trans hw.2⟩)
      have HN := Lib.hid hN
      clear hat hb4 hk4 hw4 hg hgl hmem hN hne
      subst hA
      go_wp2_with fail
      rw [← HW4.out]
      clear y0 y1
      go_region_held_law (fun w => (w.cell? ⟨wr.heap.size, 0, none⟩ = some (strV t1) ∧ w.cell? ⟨wr.heap.size, 1, none⟩ = some (strV t2)))
        (first | with_reducible assumption | (apply HST2.out; assumption))
        (first
          | (go_at_call 86; (with_reducible refine (HC1.out _).mono ?_); rintro r w7 ⟨rfl, hb7⟩; have HB7 := Lib.hid (undrew hb7); have hS7 := HN.out w7 HB7.out; clear hb7)
          | (go_at_call 86; (with_reducible refine (HC2.out _).mono ?_); rintro r w8 ⟨rfl, hb8⟩; have HB8 := Lib.hid (hop HB7.out hb8); have hS8 := HN.out w8 HB8.out; have HB48 := Lib.hid (hop HB4.out HB8.out); have HA8 := Lib.hid (HAT.out w8 HB48.out); obtain ⟨⟨v0, v1, f0, f1⟩, _⟩ := HA8.out; clear hb8))
      go_wp2_with fail
      go_roundw
      case rel => exact ⟨j + 1, by omega, by go_num, Lib.hid HA8.out.2, Lib.hid (((hop BW.out HB48.out).setCell (p := ⟨g, j * 2, none⟩) HGL.out.1 _).setCell (p := ⟨g, j * 2 + 1, none⟩) HGL.out.1 _)⟩
      case measure => simp [intOf]; omega
    · have hlt2 : ¬ ((j : Int) < (rf.length : Int)) := by omega
      have hN : ∀ w, Below wr.heap.size wr w → (w.cell? ⟨W.heap.size, 0, none⟩ = some (strV nm) ∧ w.cell? ⟨W.heap.size, 2, none⟩ = some (.int .i64 k) ∧ w.cell? ⟨W.heap.size, 3, none⟩ = some (strV n) ∧ w.cell? ⟨W.heap.size, 4, none⟩ = some (strV o) ∧ w.cell? ⟨W.heap.size, 5, none⟩ = some (.slice E me ce)) := fun w hw => (HX.out w (hop BW.out hw)).2
      have hS0 : (wr.drew.cell? ⟨W.heap.size, 0, none⟩ = some (strV nm) ∧ wr.drew.cell? ⟨W.heap.size, 2, none⟩ = some (.int .i64 k) ∧ wr.drew.cell? ⟨W.heap.size, 3, none⟩ = some (strV n) ∧ wr.drew.cell? ⟨W.heap.size, 4, none⟩ = some (strV o) ∧ wr.drew.cell? ⟨W.heap.size, 5, none⟩ = some (.slice E me ce)) := hN wr.drew (Below.refl _ _).drew
      have HN := Lib.hid hN
      have HKZ : Hid (∀ w, Below wr.heap.size wr w → Blk w (W.heap.size + 1) [.string ⟨#[]⟩, .slice none 0 0, .int .i64 0, .string ⟨#[]⟩, .string ⟨#[]⟩, .slice none 0 0] 71) := Lib.hid (fun w hw => HKE.out.below (hop BW.out hw) HKE.out.lt)
      have HST2 : Hid (∀ (w : World) (k5 : Int) (n5 o5 : Txt) (E5 : Option Addr) (ks5 : List Ex) (m5 : Nat), (w.cell? ⟨W.heap.size, 0, none⟩ = some (strV nm) ∧ w.cell? ⟨W.heap.size, 2, none⟩ = some (.int .i64 k) ∧ w.cell? ⟨W.heap.size, 3, none⟩ = some (strV n) ∧ w.cell? ⟨W.heap.size, 4, none⟩ = some (strV o) ∧ w.cell? ⟨W.heap.size, 5, none⟩ = some (.slice E me ce)) → (((((((w.setCell ⟨W.heap.size + 1, 0, none⟩ (strV nm)).setCell ⟨W.heap.size + 1, 1, none⟩ (.slice A' rf.length c')).setCell ⟨W.heap.size + 1, 2, none⟩ (.int .i64 k5)).setCell ⟨W.heap.size + 1, 3, none⟩ (strV n5)).setCell ⟨W.heap.size + 1, 4, none⟩ (strV o5)).setCell ⟨W.heap.size + 1, 5, none⟩ (.slice E5 ks5.length m5)).cell? ⟨W.heap.size, 0, none⟩ = some (strV nm) ∧ ((((((w.setCell ⟨W.heap.size + 1, 0, none⟩ (strV nm)).setCell ⟨W.heap.size + 1, 1, none⟩ (.slice A' rf.length c')).setCell ⟨W.heap.size + 1, 2, none⟩ (.int .i64 k5)).setCell ⟨W.heap.size + 1, 3, none⟩ (strV n5)).setCell ⟨W.heap.size + 1, 4, none⟩ (strV o5)).setCell ⟨W.heap.size + 1, 5, none⟩ (.slice E5 ks5.length m5)).cell? ⟨W.heap.size, 2, none⟩ = some (.int .i64 k) ∧ ((((((w.setCell ⟨W.heap.size + 1, 0, none⟩ (strV nm)).setCell ⟨W.heap.size + 1, 1, none⟩ (.slice A' rf.length c')).setCell ⟨W.heap.size + 1, 2, none⟩ (.int .i64 k5)).setCell ⟨W.heap.size + 1, 3, none⟩ (strV n5)).setCell ⟨W.heap.size + 1, 4, none⟩ (strV o5)).setCell ⟨W.heap.size + 1, 5, none⟩ (.slice E5 ks5.length m5)).cell? ⟨W.heap.size, 3, none⟩ = some (strV n) ∧ ((((((w.setCell ⟨W.heap.size + 1, 0, none⟩ (strV nm)).setCell ⟨W.heap.size + 1, 1, none⟩ (.slice A' rf.length c')).setCell ⟨W.heap.size + 1, 2, none⟩ (.int .i64 k5)).setCell ⟨W.heap.size + 1, 3, none⟩ (strV n5)).setCell ⟨W.heap.size + 1, 4, none⟩ (strV o5)).setCell ⟨W.heap.size + 1, 5, none⟩ (.slice E5 ks5.length m5)).cell? ⟨W.heap.size, 4, none⟩ = some (strV o) ∧ ((((((w.setCell ⟨W.heap.size + 1, 0, none⟩ (strV nm)).setCell ⟨W.heap.size + 1, 1, none⟩ (.slice A' rf.length c')).setCell ⟨W.heap.size + 1, 2, none⟩ (.int .i64 k5)).setCell ⟨W.heap.size + 1, 3, none⟩ (strV n5)).setCell ⟨W.heap.size + 1, 4, none⟩ (strV o5)).setCell ⟨W.heap.size + 1, 5, none⟩ (.slice E5 ks5.length m5)).cell? ⟨W.heap.size, 5, none⟩ = some (.slice E me ce))) := Lib.hid (fun w k5 n5 o5 E5 ks5 m5 hw => by
        have hh : ∀ k', k' ≠ W.heap.size + 1 → (((((((w.setCell ⟨W.heap.size + 1, 0, none⟩ (strV nm)).setCell ⟨W.heap.size + 1, 1, none⟩ (.slice A' rf.length c')).setCell ⟨W.heap.size + 1, 2, none⟩ (.int .i64 k5)).setCell ⟨W.heap.size + 1, 3, none⟩ (strV n5)).setCell ⟨W.heap.size + 1, 4, none⟩ (strV o5)).setCell ⟨W.heap.size + 1, 5, none⟩ (.slice E5 ks5.length m5))).heap[k']? = w.heap[k']? := fun k' hk => by
          rw [Below.heap_setCell _ _ _ _ hk, Below.heap_setCell _ _ _ _ hk, Below.heap_setCell _ _ _ _ hk, Below.heap_setCell _ _ _ _ hk, Below.heap_setCell _ _ _ _ hk, Below.heap_setCell _ _ _ _ hk]
        have hne : W.heap.size ≠ W.heap.size + 1 := Nat.ne_of_lt (Nat.lt_succ_self _)
        exact ⟨(World.cell?_of_block (hh _ hne)).trans hw.1, (World.cell?_of_block (hh _ hne)).trans hw.2.1, (World.cell?_of_block (hh _ hne)).trans hw.2.2.1, (World.cell?_of_block (hh _ hne)).trans hw.2.2.2.1, (World.cell?_of_block (hh _ hne)).trans hw.2.2.2.2⟩)
      clear hN hj HCS HB2
      go_wp2_with fail
      go_region_held_law (fun w => (w.cell? ⟨W.heap.size, 0, none⟩ = some (strV nm) ∧ w.cell? ⟨W.heap.size, 2, none⟩ = some (.int .i64 k) ∧ w.cell? ⟨W.heap.size, 3, none⟩ = some (strV n) ∧ w.cell? ⟨W.heap.size, 4, none⟩ = some (strV o) ∧ w.cell? ⟨W.heap.size, 5, none⟩ = some (.slice E me ce)))
        (first | with_reducible assumption | (apply HST2.out; assumption))
        (first
          | (go_at_call 86; (with_reducible refine (HCN.out _).mono ?_); rintro r w7 ⟨rfl, hb7⟩; have HB7 := Lib.hid (undrew hb7); have hS7 := HN.out w7 HB7.out; have HC7 := Lib.hid (HEX.out w7 (hop BW.out HB7.out)); clear hb7)
          | (go_at_call 114; (with_reducible refine HC7.out.mono ?_); rintro r w8 ⟨cs8, rfl, hx8, hb8⟩; have HX8 := Lib.hid hx8; obtain ⟨k5, n5, o5, ks5⟩ := ex; obtain ⟨E5, m5, rfl, _, _⟩ := HX8.out.row; have HB8 := Lib.hid (hop HB7.out hb8); have hS8 := HN.out w8 HB8.out; have HK8 := Lib.hid (HKZ.out w8 HB8.out); have v0 := HK8.out.cell (i := 0) (by simp); have v1 := HK8.out.cell (i := 1) (by simp); have v2 := HK8.out.cell (i := 2) (by simp); have v3 := HK8.out.cell (i := 3) (by simp); have v4 := HK8.out.cell (i := 4) (by simp); have v5 := HK8.out.cell (i := 5) (by simp); have f0 := HK8.out.free 0; have f1 := HK8.out.free 1; have f2 := HK8.out.free 2; have f3 := HK8.out.free 3; have f4 := HK8.out.free 4; have f5 := HK8.out.free 5; simp only [List.getElem_cons_zero, List.getElem_cons_succ] at v0 v1 v2 v3 v4 v5; have hS9 := HST2.out w8 k5 n5 o5 E5 ks5 m5 hS8; clear hb8 hx8))
      go_wp2_with fail
      refine bodyPost_ret (v := .agg #[strV nm, .slice A' rf.length c', .int .i64 k5, strV n5, strV o5, .slice E5 ks5.length m5]) (by simp [results, Tryz.results95, go_sem, v0, v1, v2, v3, v4, v5]) rfl ?_
      have hb8 := hop BW.out HB8.out
      have hsp1 : Spared w8 (((((((w8.setCell ⟨W.heap.size + 1, 0, none⟩ (strV nm)).setCell ⟨W.heap.size + 1, 1, none⟩ (.slice A' rf.length c')).setCell ⟨W.heap.size + 1, 2, none⟩ (.int .i64 k5)).setCell ⟨W.heap.size + 1, 3, none⟩ (strV n5)).setCell ⟨W.heap.size + 1, 4, none⟩ (strV o5)).setCell ⟨W.heap.size + 1, 5, none⟩ (.slice E5 ks5.length m5))) (fun b => b < w7.heap.size) := by
        have hF : (fun b => b < w7.heap.size) (W.heap.size + 1) := by
          have h1 := HKL.out
          have h2 := BW.out.size
          have h3 := HB7.out.size
          show W.heap.size + 1 < w7.heap.size
          omega
        exact ((((((Spared.refl w8 (fun b => b < w7.heap.size)).setCell hF _ _).setCell hF _ _).setCell hF _ _).setCell hF _ _).setCell hF _ _).setCell hF _ _
      have hsp2 : Spared w8 (((((((w8.setCell ⟨W.heap.size + 1, 0, none⟩ (strV nm)).setCell ⟨W.heap.size + 1, 1, none⟩ (.slice A' rf.length c')).setCell ⟨W.heap.size + 1, 2, none⟩ (.int .i64 k5)).setCell ⟨W.heap.size + 1, 3, none⟩ (strV n5)).setCell ⟨W.heap.size + 1, 4, none⟩ (strV o5)).setCell ⟨W.heap.size + 1, 5, none⟩ (.slice E5 ks5.length m5))) (fun b => b < W1.heap.size) := by
        have hF : (fun b => b < W1.heap.size) (W.heap.size + 1) := HKL.out
        exact ((((((Spared.refl w8 (fun b => b < W1.heap.size)).setCell hF _ _).setCell hF _ _).setCell hF _ _).setCell hF _ _).setCell hF _ _).setCell hF _ _
      have hrow : RowAt 2 RfAt (((((((w8.setCell ⟨W.heap.size + 1, 0, none⟩ (strV nm)).setCell ⟨W.heap.size + 1, 1, none⟩ (.slice A' rf.length c')).setCell ⟨W.heap.size + 1, 2, none⟩ (.int .i64 k5)).setCell ⟨W.heap.size + 1, 3, none⟩ (strV n5)).setCell ⟨W.heap.size + 1, 4, none⟩ (strV o5)).setCell ⟨W.heap.size + 1, 5, none⟩ (.slice E5 ks5.length m5))) (fun b => b < W.heap.size) A' rf := ((HST.out.below HB8.out).row (F := fun b => b < W1.heap.size) (fun _ h => h) HSM.out).moved hsp2 (fun i hi => .inl (by have h1 := HB0.out.size; have hi : i < W.heap.size := hi; show i < W1.heap.size; omega)) (fun _ _ _ h => h)
      refine ⟨_, rfl, ⟨A', c', _, rfl, HFI.out, hrow, ExAt.moved hsp1 (fun i hi => .inl (by have h1 := HB0.out.size; have h2 := BW.out.size; have h3 := HB7.out.size; have hi : i < W.heap.size := hi; show i < w7.heap.size; omega)) _ _ HX8.out⟩, ?_⟩
      exact ((((((HB0.out.trans (hb8.mono HB0.out.size)).setCell (p := ⟨W.heap.size + 1, 0, none⟩) (Nat.le_succ _) _).setCell (p := ⟨W.heap.size + 1, 1, none⟩) (Nat.le_succ _) _).setCell (p := ⟨W.heap.size + 1, 2, none⟩) (Nat.le_succ _) _).setCell (p := ⟨W.heap.size + 1, 3, none⟩) (Nat.le_succ _) _).setCell (p := ⟨W.heap.size + 1, 4, none⟩) (Nat.le_succ _) _).setCell (p := ⟨W.heap.size + 1, 5, none⟩) (Nat.le_succ _) _
end Go.Proofs.YtehabjiacgibpaaGreat
