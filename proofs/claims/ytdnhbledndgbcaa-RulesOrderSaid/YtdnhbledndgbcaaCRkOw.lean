/-
  RulesOrder, walked. Conditions: the arguments are there.
-/
import Derived.Test.YtdnhbledndgbcaaCPaSz0
import Derived.Test.YtdnhbledndgbcaaCClose
import Derived.Test.YtdnhbledndgbcaaCRkCut
import Derived.Test.YtdnhbledndgbcaaCLaOpW
import Derived.Deep.Cut
import Derived.Deep.CutRange
namespace Go.Proofs.Ytdnhbledndgbcaa
open Go.RowKit
set_option linter.unusedSimpArgs false in
set_option maxRecDepth 100000 in
set_option maxHeartbeats 4000000 in
theorem rulesOrder_walk (s : Sc) (A : Option Addr) (c : Nat) (ki : Int) (W : World) (hs : ScAt W noF A s) (hl : s.length ≤ 9223372036854775807 ∧ s.length ≤ c) (_ : -9223372036854775808 ≤ ki) (_ : ki ≤ 9223372036854775807) :
    Calls Try.prog 6 #[.agg #[.slice A s.length c], .int .i64 ki] W fun e w' => e = .returned (.bool true) ∧ Below W.heap.size W w' := by
  obtain ⟨hl, hcap⟩ := hl
  obtain ⟨W1, hW⟩ : ∃ W1, W1 = W.alloc (.cells #[.slice A s.length c] 25) := ⟨_, rfl⟩
  have HK0 : Hid (Blk W1 W.heap.size [.slice A s.length c] 25) := by rw [hW]; exact Lib.hid (Blk.new W _ _)
  have HB0 : Hid (Below W.heap.size W W1) := by rw [hW]; exact Lib.hid ((Below.refl W.heap.size W).alloc (Nat.le_refl _) _)
  have HW := Lib.hid hW
  have HX : Hid (∀ w, Below W1.heap.size W1 w → w.cell? ⟨W.heap.size, 0, none⟩ = some (.slice A s.length c)) := Lib.hid (fun w hw => (HK0.out.below hw HK0.out.lt).cell (i := 0) (by simp))
  have HS : Hid (∀ w, Below W1.heap.size W1 w → ScAt w noF A s) := Lib.hid (fun w hw => hs.below (HB0.out.trans (hw.mono HB0.out.size)))
  have HA := Lib.hid (awake_any W1)
  clear hW hs
  go_enter Try.func6, Try.ntmps6
  go_wp2_with fail
  rw [← HW.out]
  refine HA.out.mono ?_
  rintro e w1 ⟨rfl, hb1⟩
  have HB1 := Lib.hid hb1
  have x1 := HX.out w1 hb1
  have HF := Lib.hid (few_any s 80 w1 noF A c (HS.out w1 hb1) hl (by omega))
  obtain ⟨q, hq⟩ : ∃ q, fewS s 80 = q := ⟨_, rfl⟩
  rw [hq] at HF
  have HQ := Lib.hid hq
  clear hb1 hq HA
  cases q
  · go_wp2_with fail
    refine HF.out.mono ?_
    rintro e w2 ⟨rfl, hb2⟩
    go_wp2_with fail
    go_ret
    have hb := hop HB1.out hb2
    exact ⟨rfl, HB0.out.trans (hb.mono HB0.out.size)⟩
  have HFL := Lib.hid (few_ln (few_80 HQ.out))
  have HRF := Lib.hid (few_refs (few_80 HQ.out))
  go_wp2_with fail
  refine HF.out.mono ?_
  rintro e w2 ⟨rfl, hb2⟩
  have HB2 := Lib.hid (hop HB1.out hb2)
  have x2 := HX.out w2 HB2.out
  clear hb2 HF x1
  by_cases hs0 : s.length = 0
  · have e0 : ((s.length : Int) == 0) = true := by rw [hs0]; rfl
    go_wp2_with fail
    go_ret
    exact ⟨rfl, HB0.out.trans (HB2.out.mono HB0.out.size)⟩
  have e0 : ((s.length : Int) == 0) = false := beq_eq_false_iff_ne.2 (by omega)
  have e0' : ¬ (s.length : Int) = 0 := by omega
  by_cases hk0 : ki < 0
  · go_wp2_with fail
    go_ret
    exact ⟨rfl, HB0.out.trans (HB2.out.mono HB0.out.size)⟩
  by_cases hkl : (s.length : Int) ≤ ki
  · go_wp2_with fail
    go_ret
    exact ⟨rfl, HB0.out.trans (HB2.out.mono HB0.out.size)⟩
  obtain ⟨m, rfl⟩ := Int.eq_ofNat_of_zero_le (show 0 ≤ ki by omega)
  have hm : m < s.length := by omega
  have hsl := Nat.le_trans (wTs_len s) (few_80 HQ.out)
  have hs2 := HS.out w2 HB2.out
  rcases hs2 with h | ⟨b, off, rfl, hb, _, hk⟩
  · rw [h] at hs0; exact absurd rfl hs0
  obtain ⟨news, hnl, hnc, hno, hnr⟩ := row_news (by decide) hk (fun x cs h => h.one.1) (fun x cs h => h.one.2)
  obtain ⟨L1, hL1⟩ : ∃ L1, L1 = news.drop (m * 2) := ⟨_, rfl⟩
  obtain ⟨L2, hL2⟩ : ∃ L2, L2 = news.take (m * 2) := ⟨_, rfl⟩
  have hl1 : L1.length = (s.length - m) * 2 := by rw [hL1, List.length_drop, hnl, Nat.sub_mul]
  have hl2 : L2.length = m * 2 := by rw [hL2, List.length_take, hnl]; omega
  have HC1 : Hid (∀ w, Below w2.heap.size w2 w → ∀ (j : Nat) u, L1[j]? = some u → w.cell? ((⟨b, off + m * 2, none⟩ : Addr).add j) = some u) := Lib.hid (fun w hw j u hu => by
    rw [hL1, List.getElem?_drop] at hu
    rw [add_plain, Nat.add_assoc, ← hnc (m * 2 + j) u hu]
    exact hw.cell (p := ⟨b, off + (m * 2 + j), none⟩) hb)
  have HC2 : Hid (∀ w, Below w2.heap.size w2 w → ∀ (j : Nat) u, L2[j]? = some u → w.cell? ((⟨b, off, none⟩ : Addr).add j) = some u) := Lib.hid (fun w hw j u hu => by
    rw [hL2, List.getElem?_take] at hu
    split at hu
    · rw [add_plain, ← hnc j u hu]
      exact hw.cell (p := ⟨b, off + j, none⟩) hb
    · cases hu)
  have HO1 : Hid (∀ u ∈ L1, u.oneCell' = true) := Lib.hid (fun u hu => hno u (by rw [hL1] at hu; exact List.mem_of_mem_drop hu))
  have HO2 : Hid (∀ u ∈ L2, u.oneCell' = true) := Lib.hid (fun u hu => hno u (by rw [hL2] at hu; exact List.mem_of_mem_take hu))
  have HNR : Hid (∀ j (h : j < (s.drop m ++ s.take m).length), ∃ cs, TyAt w2 noF (s.drop m ++ s.take m)[j] cs ∧ ∀ q, q < 2 → (L1 ++ L2)[j * 2 + q]? = cs[q]?) := Lib.hid (by rw [hL1, hL2]; exact part_at hnr m (by omega) hnl)
  have HN12 : Hid ((L1 ++ L2).length = (s.drop m ++ s.take m).length * 2) := Lib.hid (by rw [List.length_append, hl1, hl2]; simp; omega)
  have HLT : Hid ((s.drop m ++ s.take m).length = s.length) := Lib.hid (by simp; omega)
  have HNN : Hid (s.length - m + m = s.length) := Lib.hid (by omega)
  have HL1 := Lib.hid hl1
  have HL2 := Lib.hid hl2
  have hct : ∀ W, (Instr.slice 23 (.slice (some ⟨b, off, none⟩) s.length c) (some (.int .i64 (m : Int))) none none).run Try.prog W = .ok (.slice (some ⟨b, off + m * 2, none⟩) (s.length - m) (c - m)) W := fun W => by
    have h := cutT_tail (some ⟨b, off, none⟩) s.length c m hm hcap W
    rw [h, Option.map_some, add_plain]
  have hch : ∀ W, (Instr.slice 23 (.slice (some ⟨b, off, none⟩) s.length c) none (some (.int .i64 (m : Int))) none).run Try.prog W = .ok (.slice (some ⟨b, off, none⟩) m c) W := fun W => cutT_head _ _ _ m (by omega) W
  obtain ⟨i0, z0, hRW⟩ := rowTs
  have HRW := Lib.hid hRW
  have hn1 : 0 + (s.length - m) ≤ 1000000 := by omega
  have hn2 : (s.length - m) + m ≤ 1000000 := by omega
  have hw2lt : W.heap.size < w2.heap.size := by
    have h1 := HK0.out.lt
    have h2 := HB2.out.size
    omega
  have hX2 : ∀ w, Below w2.heap.size w2 w → w.cell? ⟨W.heap.size, 0, none⟩ = some (.slice (some ⟨b, off, none⟩) s.length c) := fun w hw => HX.out w (hop HB2.out hw)
  have HX2 := Lib.hid hX2
  have HW2L := Lib.hid hw2lt
  have HSA : Hid (∀ (w : World) o, w.cell? ⟨W.heap.size, 0, none⟩ = some (.slice (some ⟨b, off, none⟩) s.length c) → (w.alloc o).cell? ⟨W.heap.size, 0, none⟩ = some (.slice (some ⟨b, off, none⟩) s.length c)) := Lib.hid (fun w o h => by
    have hlt := World.block_lt_of_cell? w _ h
    exact (World.cell?_of_block ((Below.refl w.heap.size w).alloc (Nat.le_refl _) o |>.block _ hlt)).trans h)
  have HSS : Hid (∀ (w : World) g i v, W.heap.size ≠ g → w.cell? ⟨W.heap.size, 0, none⟩ = some (.slice (some ⟨b, off, none⟩) s.length c) → (w.setCell ⟨g, i, none⟩ v).cell? ⟨W.heap.size, 0, none⟩ = some (.slice (some ⟨b, off, none⟩) s.length c)) := Lib.hid (fun w g i v hg h => (World.cell?_of_block (Below.heap_setCell w ⟨g, i, none⟩ v _ hg)).trans h)
  have hS0 : w2.drew.cell? ⟨W.heap.size, 0, none⟩ = some (.slice (some ⟨b, off, none⟩) s.length c) := hX2 w2.drew (Below.refl _ _).drew
  have hS0a := HSA.out w2 (.cells #[.slice none 0 0] 25) (hX2 w2 (Below.refl _ _))
  have hS0b : (w2.alloc (.cells #[.slice none 0 0] 25)).drew.cell? ⟨W.heap.size, 0, none⟩ = some (.slice (some ⟨b, off, none⟩) s.length c) := hS0a
  have HBA : Hid (Below w2.heap.size w2 (w2.alloc (.cells #[.slice none 0 0] 25)).drew) := Lib.hid ((Below.refl _ _).alloc (Nat.le_refl _) _).drew
  have HKA : Hid (Blk (w2.alloc (.cells #[.slice none 0 0] 25)).drew w2.heap.size [.slice none 0 0] 25) := Lib.hid (Blk.new w2 [.slice none 0 0] 25)
  clear hnl hnc hno hnr hL1 hL2 hl1 hl2 hk hRW hX2 hb
  have d1 : decide ((m : Int) < 0) = false := decide_eq_false (by omega)
  have d2 : decide ((s.length : Int) ≤ (m : Int)) = false := decide_eq_false (by omega)
  have d3 : decide (s.length ≤ m) = false := decide_eq_false (by omega)
  go_upto_region 5 with (fail)
  clear d1 d2 d3 hk0 hkl e0 e0' hs0
  go_cut [7] from 39 to 49 (fun v wx => ∃ g A' c', v = .pointer (some ⟨g, 0, none⟩) ∧ Hid (Blk wx g [.slice A' s.length c'] 25) ∧ Hid (RowCp 2 TyAt w2 noF 49 (s.drop m ++ s.take m) A' wx) ∧ Hid (s.length ≤ c') ∧ Hid (Below w2.heap.size w2 wx))
  case first =>
    go_region_held_law (fun (w : World) => w.cell? ⟨W.heap.size, 0, none⟩ = some (.slice (some ⟨b, off, none⟩) s.length c))
      (first | with_reducible assumption | (apply HSA.out; with_reducible assumption) | (refine HSS.out _ _ _ _ (by omega) ?_; with_reducible assumption))
      (first
        | (refine step_append_rows_g w2.drew rfl (.const (.slice none 0 0)) (.tmp 42) 23 rfl HRW.out (by decide) (by decide) w2.heap.size none 0 0 [] ⟨b, off + m * 2, none⟩ (s.length - m) (c - m) L1 HL1.out rfl (by first | rfl | (simp [Act.eval]; done) | (simp [Act.eval, Act.put]; done)) (HC1.out _ (Below.refl w2.heap.size w2).drew) (Nat.le_refl _) (World.ownsRow_nil _ _ _ _) HO1.out hn1 ?_; intro A5 c5 w5 ho5 hb5 hg5 ht5; rw [Nat.zero_add] at ho5 ht5; have HOW5 := Lib.hid ho5; have HB5 : Hid (Below w2.heap.size w2 w5) := Lib.hid ((Below.refl w2.heap.size w2).drew.trans hb5); have hs5 := HX2.out w5 HB5.out; have HOB5 := Lib.hid (own_lt ho5); have hl5 := HB5.out.size; clear ho5 hb5 hg5 ht5)
        | (refine step_append_rows_g (w2.alloc (.cells #[.slice none 0 0] 25)).drew rfl (.const (.slice none 0 0)) (.tmp 42) 23 rfl HRW.out (by decide) (by decide) (w2.heap.size + 1) none 0 0 [] ⟨b, off + m * 2, none⟩ (s.length - m) (c - m) L1 HL1.out rfl (by first | rfl | (simp [Act.eval]; done) | (simp [Act.eval, Act.put]; done)) (HC1.out _ HBA.out) (by simp) (World.ownsRow_nil _ _ _ _) HO1.out hn1 ?_; intro A5 c5 w5 ho5 hb5 hg5 ht5; rw [Nat.zero_add] at ho5 ht5; have HOW5 := Lib.hid (own_mono ho5 (Nat.le_succ _)); have HNE5 := Lib.hid (fun e => Nat.not_succ_le_self _ (World.ownsRow.lt ho5 w2.heap.size e).1); have HB5 : Hid (Below w2.heap.size w2 w5) := Lib.hid (HBA.out.trans (hb5.mono (Nat.le_succ _))); have HK5 := Lib.hid (HKA.out.below hb5 (Nat.lt_succ_self _)); have hs5 := HX2.out w5 HB5.out; have HOB5 := Lib.hid (own_lt ho5); have hl5 := HB5.out.size; clear ho5 hb5 hg5 ht5)
        | (refine step_append_rows_g w5 rfl (.tmp 43) (.tmp 47) 23 rfl HRW.out (by decide) (by decide) w2.heap.size A5 (s.length - m) c5 ([] ++ L1) ⟨b, off, none⟩ m c L2 HL2.out (by first | rfl | (simp [Act.eval]; done) | (simp [Act.eval, Act.put]; done)) (by first | rfl | (simp [Act.eval]; done) | (simp [Act.eval, Act.put]; done)) (HC2.out _ HB5.out) HB5.out.size HOW5.out HO2.out hn2 ?_; intro A6 c6 w6 ho6 hb6 hg6 ht6; rw [HNN.out] at ho6 ht6; have HOW6 := Lib.hid ho6; have HG6 := Lib.hid hg6; have HT6 := Lib.hid ht6; have HB6 : Hid (Below w2.heap.size w2 w6) := Lib.hid (HB5.out.trans hb6); have hs6 := HX2.out w6 HB6.out; have hl6 := HB6.out.size; try (have HK6 := Lib.hid (Spared.blk (F := fun k => (Value.slice A5 (s.length - m) c5).ownBlock = some k) (Spared.of_grown hg6 (fun k h _ => h)) HK5.out HNE5.out); have v6 := HK6.out.cell (i := 0) (by simp); have f6 := HK6.out.free 0; simp only [List.getElem_cons_zero] at v6); clear ho6 hb6 hg6 ht6)
        | (refine step_append_rows_g (w5.alloc (.cells #[.slice none 0 0] 25)) rfl (.tmp 43) (.tmp 47) 23 rfl HRW.out (by decide) (by decide) w2.heap.size A5 (s.length - m) c5 ([] ++ L1) ⟨b, off, none⟩ m c L2 HL2.out (by first | rfl | (simp [Act.eval]; done) | (simp [Act.eval, Act.put]; done)) (by first | rfl | (simp [Act.eval]; done) | (simp [Act.eval, Act.put]; done)) (HC2.out _ (HB5.out.alloc HB5.out.size _)) (HB5.out.alloc HB5.out.size _).size (HOW5.out.alloc _) HO2.out hn2 ?_; intro A6 c6 w6 ho6 hb6 hg6 ht6; rw [HNN.out] at ho6 ht6; have HOW6 := Lib.hid ho6; have HG6 := Lib.hid hg6; have HT6 := Lib.hid ht6; have HB6 : Hid (Below w2.heap.size w2 w6) := Lib.hid ((HB5.out.alloc HB5.out.size _).trans hb6); have hs6 := HX2.out w6 HB6.out; have hl6 := HB6.out.size; have HK6 := Lib.hid (Spared.blk (F := fun k => (Value.slice A5 (s.length - m) c5).ownBlock = some k) (Spared.of_grown hg6 (fun k h _ => h)) (Blk.new w5 [.slice none 0 0] 25) (fun e => Nat.lt_irrefl _ (HOB5.out _ e))); have v6 := HK6.out.cell (i := 0) (by simp); have f6 := HK6.out.free 0; simp only [List.getElem_cons_zero] at v6; clear ho6 hb6 hg6 ht6))
    all_goals go_wp2_with fail
    all_goals go_meet
    all_goals rw [HNN.out]
    all_goals first
      | exact ⟨w6.heap.size, A6, c6, rfl, Lib.hid (Blk.new w6 [.slice A6 s.length c6] 25), Lib.hid (RowCp.of_own HN12.out (HOW6.out.alloc _) HLT.out.symm HNR.out), Lib.hid (own_cap HOW6.out), Lib.hid (HB6.out.alloc HB6.out.size _)⟩
      | exact ⟨w5.heap.size, A6, c6, rfl, Lib.hid (HK6.out.set 0 (.slice A6 s.length c6)), Lib.hid (RowCp.of_own HN12.out (own_other HOW6.out (fun e => by
          rcases HT6.out with h | h
          · exact Nat.lt_irrefl _ (HOB5.out _ (h.symm.trans e))
          · rw [e] at h
            injection h with h
            rw [World.size_alloc] at h
            omega) 0 _) HLT.out.symm HNR.out), Lib.hid (own_cap HOW6.out), Lib.hid (HB6.out.setCell (p := ⟨w5.heap.size, 0, none⟩) hl5 _)⟩
      | exact ⟨w2.heap.size, A6, c6, rfl, Lib.hid (HK6.out.set 0 (.slice A6 s.length c6)), Lib.hid (RowCp.of_own HN12.out (own_other HOW6.out (fun e => by
          have h5 := HK5.out.lt
          rcases HT6.out with h | h
          · exact HNE5.out (h.symm.trans e)
          · rw [e] at h
            injection h with h
            omega) 0 _) HLT.out.symm HNR.out), Lib.hid (own_cap HOW6.out), Lib.hid (HB6.out.setCell (p := ⟨w2.heap.size, 0, none⟩) (Nat.le_refl _) _)⟩
  case rest =>
  obtain ⟨g, A', c', rfl, HKG, HRC, HCAP, HBC⟩ := hcut
  have x3 := HX2.out wc HBC.out
  have HST : Hid (ScAt wc noF A' (s.drop m ++ s.take m)) := Lib.hid (RowCp.row HRC.out (fun _ h => h.elim) (fun x cs h => h.below HBC.out))
  have HLP := Lib.hid (levels2_any s noF _ c hl hcap HRF.out wc (HS.out wc (hop HB2.out HBC.out)))
  have HRF2 : Hid (∀ t ∈ s.drop m ++ s.take m, ∀ r ∈ t.rels, r.refs.length ≤ 1000000) := Lib.hid (fun t ht => by
    rcases List.mem_append.1 ht with h | h
    · exact HRF.out t (List.mem_of_mem_drop h)
    · exact HRF.out t (List.mem_of_mem_take h))
  have HPM : Hid ((s.drop m ++ s.take m).Perm s) := Lib.hid (List.perm_append_comm.trans (by rw [List.take_append_drop]))
  clear hS0 hS0a hS0b hct hch HC1 HC2 HO1 HO2 HNR HN12 HL1 HL2 HSA HSS HBA HKA
  obtain ⟨ST, hST⟩ : ∃ ST, ST = s.drop m ++ s.take m := ⟨_, rfl⟩
  rw [← hST] at HRC HST HRF2 HPM HLT
  have HTT := Lib.hid hST
  clear hST
  go_wp2_with fail
  refine HLP.out.mono ?_
  rintro e w4 ⟨z, A3, n3, c3, rfl, hb4, hex, hn3, hc3⟩
  obtain ⟨q, hq⟩ : ∃ q, decide (z.2.2 = 0) = q := ⟨_, rfl⟩
  rw [hq]
  have HB4 := Lib.hid (hop HBC.out hb4)
  have hk4 := HKG.out.below hb4 HKG.out.lt
  have y4 := hk4.cell (i := 0) (by simp)
  simp only [List.getElem_cons_zero] at y4
  have HLP2 : Hid (Calls Try.prog 15 #[.agg #[.slice A' s.length c']] w4 (LsAre ST w4)) := Lib.hid (by
    have h := levels2_any ST noF A' c' (by rw [HLT.out]; exact hl) (by rw [HLT.out]; exact HCAP.out) HRF2.out w4 (HST.out.below hb4)
    rw [HLT.out] at h
    exact h)
  have HEX := Lib.hid hex
  have HC3 := Lib.hid hc3
  clear hb4 hex hn3 hc3 hk4 x3
  go_wp2_with fail
  refine HLP2.out.mono ?_
  rintro e w5 ⟨z', A4, n4, c4, rfl, hb5, hex', _, _⟩
  have HB5 := Lib.hid (hop HB4.out hb5)
  have hex1 : ExIs s z (fun ls => n3 = s.length ∧ IlAt w5 (fun k => k < wc.heap.size) A3 ls) := HEX.out.mono (fun ls h => ⟨h.1, h.2.below hb5⟩)
  obtain ⟨hdq, hlv⟩ := order_same HPM.out hex1 hex'
  have hq' := hdq.symm.trans hq
  rw [hq']
  have HLVS : Hid (q = true → ∃ HL, (n3 = s.length ∧ IlAt w5 (fun k => k < wc.heap.size) A3 (hvS HL s)) ∧ n4 = ST.length ∧ IlAt w5 (fun k => k < w4.heap.size) A4 (hvS HL ST)) := Lib.hid (fun h => hlv (of_decide_eq_true (hq.trans h)))
  clear hb5 hex' hex1 hlv hq hq' hdq
  cases q
  · go_wp2_with fail
    go_ret
    exact ⟨rfl, HB0.out.trans ((hop HB2.out HB5.out).mono HB0.out.size)⟩
  obtain ⟨HL, ⟨rfl, hil3⟩, rfl, hil4⟩ := HLVS.out rfl
  rw [HLT.out] at *
  have hls : (hvS HL s).length = s.length := hvS_len HL s
  have hst : hvS HL ST = (hvS HL s).drop m ++ (hvS HL s).take m := by
    rw [HTT.out, hvS_app]
    unfold hvS
    rw [List.map_drop, List.map_take]
  have hrs : ∀ x ∈ hvS HL s, x.length ≤ 1000000 := fun x hx => by
    obtain ⟨t, ht, rfl⟩ := List.mem_map.1 hx
    have h1 := wRs_len t.rels
    have h2 := wTs_mem ht
    have h3 := few_80 HQ.out
    unfold hvT
    rw [List.length_map]
    omega
  rw [hst] at hil4
  clear hst
  generalize hvS HL s = ls at *
  rcases hil3 with h | ⟨bl, ol, rfl, hbl, _, hkl⟩
  · rw [h] at hls; have h0 : 0 = s.length := hls; omega
  obtain ⟨news, hnl, hnc, hno, hnr⟩ := row_news (by decide) hkl (fun x cs h => h.one.1) (fun x cs h => h.one.2)
  rw [hls] at hnl
  obtain ⟨L1, hL1⟩ : ∃ L1, L1 = news.drop (m * 1) := ⟨_, rfl⟩
  obtain ⟨L2, hL2⟩ : ∃ L2, L2 = news.take (m * 1) := ⟨_, rfl⟩
  have hl1 : L1.length = (s.length - m) * 1 := by rw [hL1, List.length_drop, hnl, Nat.sub_mul]
  have hl2 : L2.length = m * 1 := by rw [hL2, List.length_take, hnl]; omega
  have HC1 : Hid (∀ w, Below w5.heap.size w5 w → ∀ (j : Nat) u, L1[j]? = some u → w.cell? ((⟨bl, ol + m * 1, none⟩ : Addr).add j) = some u) := Lib.hid (fun w hw j u hu => by
    rw [hL1, List.getElem?_drop] at hu
    rw [add_plain, Nat.add_assoc, ← hnc (m * 1 + j) u hu]
    exact hw.cell (p := ⟨bl, ol + (m * 1 + j), none⟩) hbl)
  have HC2 : Hid (∀ w, Below w5.heap.size w5 w → ∀ (j : Nat) u, L2[j]? = some u → w.cell? ((⟨bl, ol, none⟩ : Addr).add j) = some u) := Lib.hid (fun w hw j u hu => by
    rw [hL2, List.getElem?_take] at hu
    split at hu
    · rw [add_plain, ← hnc j u hu]
      exact hw.cell (p := ⟨bl, ol + j, none⟩) hbl
    · cases hu)
  have HO1 : Hid (∀ u ∈ L1, u.oneCell' = true) := Lib.hid (fun u hu => hno u (by rw [hL1] at hu; exact List.mem_of_mem_drop hu))
  have HO2 : Hid (∀ u ∈ L2, u.oneCell' = true) := Lib.hid (fun u hu => hno u (by rw [hL2] at hu; exact List.mem_of_mem_take hu))
  have HNR : Hid (∀ j (h : j < (ls.drop m ++ ls.take m).length), ∃ cs, IrAt w5 (fun k => k < wc.heap.size) (ls.drop m ++ ls.take m)[j] cs ∧ ∀ q, q < 1 → (L1 ++ L2)[j * 1 + q]? = cs[q]?) := Lib.hid (by rw [hL1, hL2]; exact part_at hnr m (by omega) (by rw [hls]; exact hnl))
  have HLL : Hid ((ls.drop m ++ ls.take m).length = s.length) := Lib.hid (by simp; omega)
  have HN12 : Hid ((L1 ++ L2).length = (ls.drop m ++ ls.take m).length * 1) := Lib.hid (by rw [List.length_append, hl1, hl2, HLL.out]; omega)
  have HL1 := Lib.hid hl1
  have HL2 := Lib.hid hl2
  have hct : ∀ W, (Instr.slice 43 (.slice (some ⟨bl, ol, none⟩) s.length c3) (some (.int .i64 (m : Int))) none none).run Try.prog W = .ok (.slice (some ⟨bl, ol + m * 1, none⟩) (s.length - m) (c3 - m)) W := fun W => by
    have h := cutL_tail (some ⟨bl, ol, none⟩) s.length c3 m hm HC3.out W
    rw [h, Option.map_some, add_plain]
  have hch : ∀ W, (Instr.slice 43 (.slice (some ⟨bl, ol, none⟩) s.length c3) none (some (.int .i64 (m : Int))) none).run Try.prog W = .ok (.slice (some ⟨bl, ol, none⟩) m c3) W := fun W => cutL_head _ _ _ m (by have := HC3.out; omega) W
  obtain ⟨i1, z1, hRW1⟩ := rowNs
  have HRN := Lib.hid hRW1
  have HIL4 := Lib.hid hil4
  have HRS : Hid (∀ x ∈ ls.drop m ++ ls.take m, x.length ≤ 1000000) := Lib.hid (fun x hx => by
    rcases List.mem_append.1 hx with h | h
    · exact hrs x (List.mem_of_mem_drop h)
    · exact hrs x (List.mem_of_mem_take h))
  clear hnl hnc hno hnr hL1 hL2 hl1 hl2 hkl hRW1 hbl hil4 hrs HLVS HEX
  have hT : True := trivial
  go_wp2_with fail
  go_region_held_law (fun (_ : World) => True)
    (exact trivial)
    (first
      | (refine step_append_rows_g w5.drew rfl (.const (.slice none 0 0)) (.tmp 72) 43 rfl HRN.out (by decide) (by decide) w5.heap.size none 0 0 [] ⟨bl, ol + m * 1, none⟩ (s.length - m) (c3 - m) L1 HL1.out rfl (by first | rfl | (simp [Act.eval]; done) | (simp [Act.eval, Act.put]; done)) (HC1.out _ (Below.refl w5.heap.size w5).drew) (Nat.le_refl _) (World.ownsRow_nil _ _ _ _) HO1.out hn1 ?_; intro A6 c6 w6 ho6 hb6 _ _; rw [Nat.zero_add] at ho6; have HOW6 := Lib.hid ho6; have HB6 : Hid (Below w5.heap.size w5 w6) := Lib.hid ((Below.refl w5.heap.size w5).drew.trans hb6); clear ho6 hb6)
      | (refine step_append_rows_g w6 rfl (.tmp 73) (.tmp 76) 43 rfl HRN.out (by decide) (by decide) w5.heap.size A6 (s.length - m) c6 ([] ++ L1) ⟨bl, ol, none⟩ m c3 L2 HL2.out (by first | rfl | (simp [Act.eval]; done) | (simp [Act.eval, Act.put]; done)) (by first | rfl | (simp [Act.eval]; done) | (simp [Act.eval, Act.put]; done)) (HC2.out _ HB6.out) HB6.out.size HOW6.out HO2.out hn2 ?_; intro A7 c7 w7 ho7 hb7 _ _; rw [HNN.out] at ho7 ⊢; have HB7 : Hid (Below w5.heap.size w5 w7) := Lib.hid (HB6.out.trans hb7); have HRC7 := Lib.hid (RowCp.of_own HN12.out ho7 HLL.out.symm HNR.out); have hEQ := levelsEq_any (ls.drop m ++ ls.take m) (ls.drop m ++ ls.take m) noF _ A7 A4 c7 c4 w7 (RowCp.row HRC7.out (fun _ h => h.elim) (fun x cs h => keeps_ir _ _ _ _ (Spared.of_below HB7.out (fun k => k < wc.heap.size)) (fun _ h => h.elim) _ _ h)) (HIL4.out.below HB7.out) (by rw [HLL.out]; omega) HRS.out HRS.out; rw [HLL.out, decide_eq_true rfl] at hEQ; have HEQ := Lib.hid hEQ; clear ho7 hb7 hEQ)
      | (go_at_call 16; (with_reducible refine HEQ.out.mono ?_); rintro r w8 ⟨rfl, hb8⟩; have HB8 := Lib.hid (hop HB7.out hb8); clear hb8))
  go_wp2_with fail
  go_ret
  exact ⟨rfl, HB0.out.trans ((hop HB2.out (hop HB5.out HB8.out)).mono HB0.out.size)⟩
end Go.Proofs.Ytdnhbledndgbcaa
