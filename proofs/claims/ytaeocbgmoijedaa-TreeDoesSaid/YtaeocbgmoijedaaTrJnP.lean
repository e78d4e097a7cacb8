/-
  joined of two of leaves: what two neighbors have. Conditions: at most 1000 each.
-/
import Derived.Test.YtaeocbgmoijedaaTrParts
namespace Go.Proofs.Ytaeocbgmoijedaa
open Go.RowKit

/-- what a call that makes a page of l answers -/
def PageOut (w : World) (F : Nat → Prop) (h : Nat) (l : List (El h)) (e : Ending) (w' : World) : Prop :=
  (∃ q : Pg h, e = .returned (pval h q) ∧ IsPg w' F h l q) ∧ Below w.heap.size w w'

set_option maxHeartbeats 1000000 in
set_option maxRecDepth 100000 in
theorem joinedP_any (w : World) (F : Nat → Prop) (hF : ∀ b, F b → b < w.heap.size) (p r : Pg 0) (hp : EOk w F (0 + 1) p) (hpi : Inner (0 + 1) p) (hr : EOk w F (0 + 1) r) (hri : Inner (0 + 1) r) (hpn : p.els.length ≤ 1000) (hrn : r.els.length ≤ 1000) (h0 : 0 < p.els.length) :
    Calls Try.prog 53 #[pval 0 p, pval 0 r] w (PageOut w F 0 (p.els ++ r.els)) := by
  obtain ⟨f, A, els, c⟩ := p
  obtain ⟨f', A', els', c'⟩ := r
  obtain ⟨n, hnn⟩ : ∃ n, n = els.length := ⟨_, rfl⟩
  obtain ⟨n', hnn'⟩ : ∃ n', n' = els'.length := ⟨_, rfl⟩
  have HPV : Hid (pval 0 ⟨f, A, els, c⟩ = .agg #[.slice f.1 f.2.1.length f.2.2, .slice A n c, .slice none 0 0]) := by rw [hnn]; rfl
  have HRV : Hid (pval 0 ⟨f', A', els', c'⟩ = .agg #[.slice f'.1 f'.2.1.length f'.2.2, .slice A' n' c', .slice none 0 0]) := by rw [hnn']; rfl
  obtain ⟨Af, hAf⟩ : ∃ Af, Af = f.1 := ⟨_, rfl⟩
  obtain ⟨nf, hnf⟩ : ∃ nf, nf = f.2.1.length := ⟨_, rfl⟩
  obtain ⟨cf, hcf⟩ : ∃ cf, cf = f.2.2 := ⟨_, rfl⟩
  obtain ⟨Ag, hAg⟩ : ∃ Ag, Ag = f'.1 := ⟨_, rfl⟩
  obtain ⟨ng, hng⟩ : ∃ ng, ng = f'.2.1.length := ⟨_, rfl⟩
  obtain ⟨cg, hcg⟩ : ∃ cg, cg = f'.2.2 := ⟨_, rfl⟩
  rw [← hAf, ← hnf, ← hcf] at HPV
  rw [← hAg, ← hng, ← hcg] at HRV
  obtain ⟨w2, hw2⟩ : ∃ w2, w2 = ((w.alloc (.cells #[.slice Af nf cf, .slice A n c, .slice none 0 0] 55)).alloc (.cells #[.slice Ag ng cg, .slice A' n' c', .slice none 0 0] 55)).alloc (.cells #[.slice none 0 0, .slice none 0 0, .slice none 0 0] 55) := ⟨_, rfl⟩
  have HBW : Hid (Below w.heap.size w w2) := by rw [hw2]; exact (((Below.refl _ _).alloc (Nat.le_refl _) _).alloc (by simp) _).alloc (by simp; omega) _
  have hp2 := EOk.wider hp HBW.out
  have hr2 := EOk.wider hr HBW.out
  have hF2 := Wider.lt hF HBW.out.size
  obtain ⟨F2, hF2e⟩ : ∃ F2, F2 = Wider w w2 F := ⟨_, rfl⟩
  have HF2 := Lib.hid hF2e
  rw [← hF2e] at hp2 hr2 hF2
  clear hF2e hF hp hr hAf hnf hcf hAg hng hcg
  obtain ⟨_, h2, h3, h4⟩ := hp2
  obtain ⟨_, h2', h3', h4'⟩ := hr2
  dsimp only at h2 h3 h4 h2' h3' h4' hpn hrn h0 ⊢
  obtain ⟨L, hL⟩ : ∃ L, L = els ++ els' := ⟨_, rfl⟩
  obtain ⟨N, hN⟩ : ∃ N, L.length = N := ⟨_, rfl⟩
  have hN2 : N = n + n' := by rw [← hN, hL, List.length_append]; omega
  rw [← hL]
  have HCON : Hid (∀ W, Below w2.heap.size w2 W → Calls Try.prog 48 #[.slice (some ⟨W.heap.size, 0, none⟩) 2 2] (W.alloc (.cells #[.slice A n c, .slice A' n' c'] 28)) fun e w' =>
      (∃ A2 c2, e = .returned (.slice A2 N c2) ∧ Cells w' F2 A2 (rowCells 0 L) ∧ N ≤ c2) ∧ Below W.heap.size W w') := fun W hW => by
    have hal : Below W.heap.size W (W.alloc (.cells #[.slice A n c, .slice A' n' c'] 28)) := (Below.refl _ _).alloc (Nat.le_refl _) _
    have hB := Blk.new W [.slice A n c, .slice A' n' c'] 28
    have hL2 : (([(A, els, c), (A', els', c')] : List (Option Addr × List (El 0) × Nat)).map fun r => r.2.1).flatten = L := by rw [hL]; simp
    have := joinP (W.alloc (.cells #[.slice A n c, .slice A' n' c'] 28)) F2 (fun b hb => by have := hF2 b hb; have := hW.size; simp; omega) W.heap.size 2 2 [(A, els, c), (A', els', c')] N rfl (by omega) (by simp) (fun t ht => by
      rw [Nat.zero_add]
      match t, ht with
      | 0, _ => rw [hB.cell (i := 0) (by simp)]; simp [hnn]
      | 1, _ => rw [hB.cell (i := 1) (by simp)]; simp [hnn']) (fun r hr => by
      rcases List.mem_cons.1 hr with rfl | hr
      · exact (h2.below hW).below hal
      · rw [List.mem_singleton.1 hr]; exact (h2'.below hW).below hal) (by rw [hL2]; exact hN) (by omega)
    rw [hL2] at this
    refine this.mono ?_
    rintro e w' ⟨h1, hb⟩
    exact ⟨h1, hop hal hb⟩
  have HABV : Hid (∀ W, Below w2.heap.size w2 W → ∀ (A2 : Option Addr) (c2 : Nat), Cells W F2 A2 (rowCells 0 L) → N ≤ c2 → Calls Try.prog 44 #[.slice A2 N c2] W fun e w' =>
      (∃ q : Pg 0, e = .returned (pval 0 q) ∧ IsPg W F2 0 L q) ∧ Below W.heap.size W w') := fun W hW A2 c2 hc hm => by
    have hall : ∀ x ∈ L, Full 0 x := fun x hx => by
      rw [hL] at hx
      exact (List.mem_append.1 hx).elim (fun hx => hpi.full hx) (fun hx => hri.full hx)
    have hok : AllOk W F2 0 L := by
      rw [hL]
      exact AllOk.append (AllOk.below h4 hW) (AllOk.below h4' hW)
    exact leaf_any W F2 A2 L N c2 hc hok hN hm
  have hn0 : 0 < n := by omega
  rw [HPV.out, HRV.out]
  clear h2 h3 h4 h2' h3' h4' hnn hnn' hpi hri HPV HRV hL hN hN2
  have HW : Hid (((w.alloc (.cells #[.slice Af nf cf, .slice A n c, .slice none 0 0] 55)).alloc (.cells #[.slice Ag ng cg, .slice A' n' c', .slice none 0 0] 55)).alloc (.cells #[.slice none 0 0, .slice none 0 0, .slice none 0 0] 55) = w2) := hw2.symm
  have HB0 : Hid (Blk w2 w.heap.size [.slice Af nf cf, .slice A n c, .slice none 0 0] 55) := by rw [hw2]; exact ((Blk.new w _ _).alloc _).alloc _
  have HB1 : Hid (Blk w2 (w.heap.size + 1) [.slice Ag ng cg, .slice A' n' c', .slice none 0 0] 55) := by
    have := Blk.new (w.alloc (.cells #[.slice Af nf cf, .slice A n c, .slice none 0 0] 55)) [.slice Ag ng cg, .slice A' n' c', .slice none 0 0] 55
    rw [show (w.alloc (.cells #[.slice Af nf cf, .slice A n c, .slice none 0 0] 55)).heap.size = w.heap.size + 1 by simp] at this
    rw [hw2]; exact this.alloc _
  have HB2 : Hid (Blk w2 (w.heap.size + 1 + 1) [.slice none 0 0, .slice none 0 0, .slice none 0 0] 55) := by
    have := Blk.new ((w.alloc (.cells #[.slice Af nf cf, .slice A n c, .slice none 0 0] 55)).alloc (.cells #[.slice Ag ng cg, .slice A' n' c', .slice none 0 0] 55)) [.slice none 0 0, .slice none 0 0, .slice none 0 0] 55
    rw [show ((w.alloc (.cells #[.slice Af nf cf, .slice A n c, .slice none 0 0] 55)).alloc (.cells #[.slice Ag ng cg, .slice A' n' c', .slice none 0 0] 55)).heap.size = w.heap.size + 1 + 1 by simp] at this
    rw [hw2]; exact this
  have HSZ : Hid (w2.heap.size = w.heap.size + 1 + 1 + 1) := by rw [hw2]; show _ = _; simp
  clear hw2
  have x0 := HB0.out.cell (i := 0) (by simp)
  have x1 := HB0.out.cell (i := 1) (by simp)
  have x2 := HB0.out.cell (i := 2) (by simp)
  simp only [List.getElem_cons_zero, List.getElem_cons_succ] at x0 x1 x2
  go_enter Try.func53, Try.ntmps53
  go_wp2_with fail
  rw [HW.out]
  with_reducible refine (isLeaf_yes _ Af A nf cf n c).mono ?_
  rintro e w3 ⟨rfl, hb3⟩
  have bd3 : Below w2.heap.size w2 w3 := hb3
  clear x0 x1 x2 hb3
  have x1 := (HB0.out.below bd3 HB0.out.lt).cell (i := 1) (by simp)
  have y1 := (HB1.out.below bd3 HB1.out.lt).cell (i := 1) (by simp)
  simp only [List.getElem_cons_zero, List.getElem_cons_succ] at x1 y1
  go_wp2_with fail
  with_reducible refine (HCON.out _ bd3).mono ?_
  rintro e w4 ⟨⟨A2, c2, rfl, hc4, hm4⟩, hb4⟩
  have bd4 : Below w2.heap.size w2 w4 := hop bd3 hb4
  have C4 := Lib.hid hc4
  have M4 := Lib.hid hm4
  clear hb4 hc4 hm4 x1 y1
  go_wp2_with fail
  with_reducible refine (HABV.out _ bd4 A2 c2 C4.out M4.out).mono ?_
  rintro e w5 ⟨⟨q, rfl, hq⟩, hb5⟩
  have bd5 : Below w2.heap.size w2 w5 := hop bd4 hb5
  have Q5 := Lib.hid (hq.below hb5)
  clear hb5 hq
  obtain ⟨a0, m0, d0, a1, n1, d1, a2, m2', d2, hxf⟩ := page_form 0 q
  have HQV : Hid (pval 0 q = .agg #[.slice a0 m0 d0, .slice a1 n1 d1, .slice a2 m2' d2]) := by show pval _ _ = _; unfold pval; rw [hxf]
  rw [HQV.out]
  clear hxf
  have r0 := (HB2.out.below bd5 HB2.out.lt).cell (i := 0) (by simp)
  have r1 := (HB2.out.below bd5 HB2.out.lt).cell (i := 1) (by simp)
  have r2 := (HB2.out.below bd5 HB2.out.lt).cell (i := 2) (by simp)
  have f0 := (HB2.out.below bd5 HB2.out.lt).free 0
  have f1 := (HB2.out.below bd5 HB2.out.lt).free 1
  have f2 := (HB2.out.below bd5 HB2.out.lt).free 2
  simp only [List.getElem_cons_zero, List.getElem_cons_succ] at r0 r1 r2
  have HBE : Hid (∀ u0 u1 u2 : Value, Below w.heap.size w (((w5.setCell ⟨w.heap.size + 1 + 1, 0, none⟩ u0).setCell ⟨w.heap.size + 1 + 1, 1, none⟩ u1).setCell ⟨w.heap.size + 1 + 1, 2, none⟩ u2)) := fun u0 u1 u2 => (((hop HBW.out bd5).setCell (by simp; omega) _).setCell (by simp; omega) _).setCell (by simp; omega) _
  have HQE : Hid (∀ u0 u1 u2 : Value, IsPg (((w5.setCell ⟨w.heap.size + 1 + 1, 0, none⟩ u0).setCell ⟨w.heap.size + 1 + 1, 1, none⟩ u1).setCell ⟨w.heap.size + 1 + 1, 2, none⟩ u2) F 0 L q) := fun u0 u1 u2 => by
    refine ⟨Q5.out.els, ?_, Q5.out.inner⟩
    have := Q5.out.ok
    rw [HF2.out] at this
    have hsz := HSZ.out
    exact this.narrow ((((Spared.refl w5 _).setCell (by omega) _ _).setCell (by omega) _ _).setCell (by omega) _ _)
  go_wp2_with fail
  exact bodyPost_ret (v := pval 0 q) (by rw [HQV.out]; simp [results, Try.results53, go_sem, r0, r1, r2]) rfl ⟨⟨q, rfl, HQE.out _ _ _⟩, HBE.out _ _ _⟩
end Go.Proofs.Ytaeocbgmoijedaa
