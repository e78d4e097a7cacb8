/-
  height and sound of a page. Conditions: the page may be searched; at most 1,000,000 levels.
-/
import Derived.Test.YtaeocbgmoijedaaTrGet
namespace Go.Proofs.Ytaeocbgmoijedaa
open Go.RowKit

set_option maxHeartbeats 1000000 in
set_option maxRecDepth 100000 in
theorem height_any (w : World) (F : Nat → Prop) (h : Nat) (p : Pg h) (hp : Good w F h p) (hh : h ≤ 1000000) :
    Calls Try.prog 37 #[pval h p] w fun e w' => e = .returned (.int .i64 ((h : Int) + 1)) ∧ Below w.heap.size w w' := by
  have HP := Lib.hid hp
  obtain ⟨A0, n0, c0, A1, n1, c1, A2, n2, c2, hv⟩ := page_form h p
  have HV := Lib.hid hv
  unfold pval
  rw [hv]
  clear hp hv
  have HB1 : Hid (Blk (w.alloc (.cells #[.slice A0 n0 c0, .slice A1 n1 c1, .slice A2 n2 c2] 55)) w.heap.size [.slice A0 n0 c0, .slice A1 n1 c1, .slice A2 n2 c2] 55) := Blk.new w _ _
  have HBW : Hid (Below w.heap.size w (w.alloc (.cells #[.slice A0 n0 c0, .slice A1 n1 c1, .slice A2 n2 c2] 55))) := (Below.refl _ _).alloc (Nat.le_refl _) _
  go_enter Try.func37, Try.ntmps37
  go_wp2_with fail
  go_loopg [3] h (fun kx s3 wr => ∃ p : Pg kx, kx ≤ h ∧ s3 = .int .i64 ((h - kx : Nat) + 1 : Int) ∧ Good w F kx p ∧ Blk wr w.heap.size (ecells (kx + 1) p) 55 ∧ Below w.heap.size w wr)
  case atStart => exact ⟨p, Nat.le_refl _, by rw [Nat.sub_self]; rfl, HP.out, by rw [HV.out]; exact HB1.out, HBW.out⟩
  case round =>
    obtain ⟨p, hk, rfl, hp, hb1, hbw⟩ := hrel
    clear HP HV HB1 HBW
    have HP := Lib.hid hp
    have HB1 := Lib.hid hb1
    have HBW := Lib.hid hbw
    clear hp hb1 hbw
    cases gk with
    | zero =>
      obtain ⟨f, A, els, c⟩ := p
      have HB1' : Hid (Blk wr w.heap.size [.slice f.1 f.2.1.length f.2.2, .slice A els.length c, .slice none 0 0] 55) := HB1.out
      clear HP HB1
      generalize els.length = n at *
      generalize f.2.1.length = nf at *
      generalize f.1 = Af at *
      generalize f.2.2 = cf at *
      have x0 := HB1'.out.cell (i := 0) (by simp)
      have x1 := HB1'.out.cell (i := 1) (by simp)
      have x2 := HB1'.out.cell (i := 2) (by simp)
      simp only [List.getElem_cons_zero, List.getElem_cons_succ] at x0 x1 x2
      go_wp2_with fail
      refine (isLeaf_yes _ Af A nf cf n c).mono ?_
      rintro e w3 ⟨rfl, hb3⟩
      have HW3 := Lib.hid (hop HBW.out hb3)
      clear hb3 x0 x1 x2 HB1'
      go_wp2_with fail
      go_ret
      exact ⟨rfl, HW3.out⟩
    | succ j =>
      obtain ⟨f, A, els, c⟩ := p
      have h0 : 0 < els.length := HP.out.some_ (by omega)
      have HKID := Lib.hid (HP.out.kid 0 h0)
      obtain ⟨K0, k0, e0, K1, k1, e1, K2, k2, e2, hkv⟩ := page_form j els[0]
      obtain ⟨b, off, rfl, hb, hFb, hcell⟩ := (HP.out.ok.2.1).elem 0 h0
      have HKC : Hid (∀ W, Below w.heap.size w W → W.cell? ⟨b, off, none⟩ = some (.slice K0 k0 e0) ∧ W.cell? ⟨b, off + 1, none⟩ = some (.slice K1 k1 e1) ∧ W.cell? ⟨b, off + 2, none⟩ = some (.slice K2 k2 e2)) := fun W hW => by
        have k : ∀ t, t < 3 → w.cell? ⟨b, off + 0 * 3 + t, none⟩ = ([.slice K0 k0 e0, .slice K1 k1 e1, .slice K2 k2 e2] : List Value)[t]? := fun t ht => (hcell t ht).trans (by
          have hkv' : ecells (j + 1) els[0] = [.slice K0 k0 e0, .slice K1 k1 e1, .slice K2 k2 e2] := hkv
          rw [← hkv'])
        have q0 := k 0 (by decide)
        have q1 := k 1 (by decide)
        have q2 := k 2 (by decide)
        rw [Nat.zero_mul, Nat.add_zero] at q0 q1 q2
        exact ⟨(hW.cell (p := ⟨b, off, none⟩) hb).trans q0, (hW.cell (p := ⟨b, off + 1, none⟩) hb).trans q1, (hW.cell (p := ⟨b, off + 2, none⟩) hb).trans q2⟩
      have HKV := Lib.hid hkv
      have hn1 : els.length ≤ 1000 := HP.out.few
      obtain ⟨kid, hkid⟩ : ∃ kid : Pg j, kid = els[0] := ⟨_, rfl⟩
      rw [← hkid] at HKID HKV
      have HB1' : Hid (Blk wr w.heap.size [.slice f.1 f.2.1.length f.2.2, .slice none 0 0, .slice (some ⟨b, off, none⟩) els.length c] 55) := HB1.out
      have h00 := h0
      clear hkv hkid hcell HB1 HP h0 hFb hb
      generalize els.length = n at *
      generalize f.2.1.length = nf at *
      generalize f.1 = Af at *
      generalize f.2.2 = cf at *
      have x0 := HB1'.out.cell (i := 0) (by simp)
      have x1 := HB1'.out.cell (i := 1) (by simp)
      have x2 := HB1'.out.cell (i := 2) (by simp)
      simp only [List.getElem_cons_zero, List.getElem_cons_succ] at x0 x1 x2
      have hi1 : (0 : Int) < (n : Int) := by omega
      go_wp2_with fail
      refine (isLeaf_no _ Af none (some ⟨b, off, none⟩) nf cf 0 0 n c h00).mono ?_
      rintro e w3 ⟨rfl, hb3⟩
      have HX3 := Lib.hid (HB1'.out.below hb3 HB1'.out.lt)
      have HW3 := Lib.hid (hop HBW.out hb3)
      clear hb3 x0 x1 x2 HB1'
      have x2 := HX3.out.cell (i := 2) (by simp)
      have f0 := HX3.out.free 0
      have f1 := HX3.out.free 1
      have f2 := HX3.out.free 2
      have x0 := HX3.out.cell (i := 0) (by simp)
      have x1 := HX3.out.cell (i := 1) (by simp)
      simp only [List.getElem_cons_zero, List.getElem_cons_succ] at x0 x1 x2
      obtain ⟨y0, y1, y2⟩ := HKC.out w3 HW3.out
      have hle : (h - (j + 1) : Nat) ≤ 1000000 := by omega
      go_wp2_with fail
      go_roundg j
      case measure => omega
      case rel =>
        refine ⟨kid, by omega, ?_, HKID.out, ?_, ?_⟩
        · congr 1; omega
        · rw [HKV.out]; exact ((HX3.out.set 0 (.slice K0 k0 e0)).set 1 (.slice K1 k1 e1)).set 2 (.slice K2 k2 e2)
        · exact ((HW3.out.setCell (Nat.le_refl _) _).setCell (Nat.le_refl _) _).setCell (Nat.le_refl _) _

set_option maxHeartbeats 2000000 in
set_option maxRecDepth 100000 in
theorem sound_leaf (w : World) (p : Pg 0) (least : Nat) (h1 : least ≤ p.els.length) (h8 : p.els.length ≤ 8) :
    Calls Try.prog 38 #[pval 0 p, .int .i64 1, .int .i64 (least : Int)] w fun e w' => e = .returned (.bool true) ∧ Below w.heap.size w w' := by
  obtain ⟨f, A, els, c⟩ := p
  dsimp only at h1 h8
  obtain ⟨n, hnn⟩ : ∃ n, n = els.length := ⟨_, rfl⟩
  have HPV : Hid (pval 0 ⟨f, A, els, c⟩ = .agg #[.slice f.1 f.2.1.length f.2.2, .slice A n c, .slice none 0 0]) := by rw [hnn]; rfl
  rw [HPV.out]
  rw [← hnn] at h1 h8
  clear HPV hnn
  generalize f.1 = Af at *
  generalize f.2.1.length = nf at *
  generalize f.2.2 = cf at *
  obtain ⟨w1, hw1⟩ : ∃ w1, w1 = w.alloc (.cells #[.slice Af nf cf, .slice A n c, .slice none 0 0] 55) := ⟨_, rfl⟩
  have HW : Hid (w.alloc (.cells #[.slice Af nf cf, .slice A n c, .slice none 0 0] 55) = w1) := hw1.symm
  have HB1 : Hid (Blk w1 w.heap.size [.slice Af nf cf, .slice A n c, .slice none 0 0] 55) := by rw [hw1]; exact Blk.new w _ _
  have HBW : Hid (Below w.heap.size w w1) := by rw [hw1]; exact (Below.refl _ _).alloc (Nat.le_refl _) _
  clear hw1
  have hlt : decide (n < least) = false := decide_eq_false (by omega)
  have hgt : decide ((8 : Int) < (n : Int)) = false := decide_eq_false (by omega)
  have x0 := HB1.out.cell (i := 0) (by simp)
  have x1 := HB1.out.cell (i := 1) (by simp)
  have x2 := HB1.out.cell (i := 2) (by simp)
  simp only [List.getElem_cons_zero, List.getElem_cons_succ] at x0 x1 x2
  go_enter Try.func38, Try.ntmps38
  go_wp2_with fail
  rw [HW.out]
  refine (count_leaf _ Af A nf cf n c (by omega)).mono ?_
  rintro e w3 ⟨rfl, hb3⟩
  have bd3 : Below w1.heap.size w1 w3 := hb3
  clear x0 x1 x2 hb3
  have x0 := (HB1.out.below bd3 HB1.out.lt).cell (i := 0) (by simp)
  have x1 := (HB1.out.below bd3 HB1.out.lt).cell (i := 1) (by simp)
  have x2 := (HB1.out.below bd3 HB1.out.lt).cell (i := 2) (by simp)
  simp only [List.getElem_cons_zero, List.getElem_cons_succ] at x0 x1 x2
  go_wp2_with fail
  refine (count_leaf _ Af A nf cf n c (by omega)).mono ?_
  rintro e w4 ⟨rfl, hb4⟩
  have bd4 : Below w1.heap.size w1 w4 := hop bd3 hb4
  clear x0 x1 x2 hb4
  have x0 := (HB1.out.below bd4 HB1.out.lt).cell (i := 0) (by simp)
  have x1 := (HB1.out.below bd4 HB1.out.lt).cell (i := 1) (by simp)
  have x2 := (HB1.out.below bd4 HB1.out.lt).cell (i := 2) (by simp)
  simp only [List.getElem_cons_zero, List.getElem_cons_succ] at x0 x1 x2
  go_wp2_with fail
  refine (isLeaf_yes _ Af A nf cf n c).mono ?_
  rintro e w5 ⟨rfl, hb5⟩
  have bd5 : Below w1.heap.size w1 w5 := hop bd4 hb5
  clear x0 x1 x2 hb5
  have x2 := (HB1.out.below bd5 HB1.out.lt).cell (i := 2) (by simp)
  simp only [List.getElem_cons_zero, List.getElem_cons_succ] at x2
  go_wp2_with fail
  have HW5 := Lib.hid (hop HBW.out bd5)
  go_loopg [28] 0 (fun kx s wr => s = .int .i64 0 ∧ w5 = wr)
  case atStart => exact ⟨rfl, rfl⟩
  case round =>
    obtain ⟨rfl, rfl⟩ := hrel
    go_wp2_with fail
    go_ret
    exact ⟨rfl, HW5.out⟩

set_option maxHeartbeats 2000000 in
set_option maxRecDepth 100000 in
theorem sound_node (lv : Nat) (ih : ∀ (w : World) (F : Nat → Prop) (p : Pg lv) (H : Int) (_ : Good w F lv p) (_ : H = (lv : Int) + 1) (_ : 4 ≤ p.els.length) (_ : p.els.length ≤ 8), Calls Try.prog 38 #[pval lv p, .int .i64 H, .int .i64 4] w fun e w' => e = .returned (.bool true) ∧ Below w.heap.size w w')
    (w : World) (F : Nat → Prop) (p : Pg (lv + 1)) (H : Int) (least : Nat) (hp : Good w F (lv + 1) p) (hH : H = (lv : Int) + 1 + 1) (hl : lv ≤ 1000000) (h1 : least ≤ p.els.length) (h8 : p.els.length ≤ 8) :
    Calls Try.prog 38 #[pval (lv + 1) p, .int .i64 H, .int .i64 (least : Int)] w fun e w' => e = .returned (.bool true) ∧ Below w.heap.size w w' := by
  obtain ⟨f, A, els, c⟩ := p
  have h0 : 0 < els.length := hp.some_ (by omega)
  dsimp only at h1 h8
  obtain ⟨b, off, rfl, hb, hFb, hdead⟩ := (hp.ok.2.1).elem 0 h0
  clear hdead
  have HKIDS : Hid (∀ t (ht : t < els.length), ∃ kid : Pg lv, (4 ≤ kid.els.length ∧ kid.els.length ≤ 8) ∧ Good w F lv kid ∧ ∃ K0 k0 e0 K1 k1 e1 K2 k2 e2, pval lv kid = .agg #[.slice K0 k0 e0, .slice K1 k1 e1, .slice K2 k2 e2] ∧ ∀ W, Below w.heap.size w W → W.cell? ⟨b, off + t * 3, none⟩ = some (.slice K0 k0 e0) ∧ W.cell? ⟨b, off + t * 3 + 1, none⟩ = some (.slice K1 k1 e1) ∧ W.cell? ⟨b, off + t * 3 + 2, none⟩ = some (.slice K2 k2 e2)) := fun t ht => by
    obtain ⟨K0, k0, e0, K1, k1, e1, K2, k2, e2, hkv⟩ := page_form lv els[t]
    refine ⟨els[t], (hp.inner.full (List.getElem_mem ht)).1, hp.kid t ht, K0, k0, e0, K1, k1, e1, K2, k2, e2, by unfold pval; rw [hkv], fun W hW => ?_⟩
    obtain ⟨b', off', e', hb', hF', hcell⟩ := (hp.ok.2.1).elem t ht
    injection e' with e'
    injection e' with e1' e2'
    subst e1' e2'
    have hkv' : ecells (lv + 1) els[t] = [.slice K0 k0 e0, .slice K1 k1 e1, .slice K2 k2 e2] := hkv
    have k : ∀ j, j < 3 → w.cell? ⟨b, off + t * 3 + j, none⟩ = ([.slice K0 k0 e0, .slice K1 k1 e1, .slice K2 k2 e2] : List Value)[j]? := fun j hj => (hcell j hj).trans (by rw [← hkv'])
    exact ⟨(hW.cell (p := ⟨b, off + t * 3, none⟩) hb').trans (k 0 (by decide)), (hW.cell (p := ⟨b, off + t * 3 + 1, none⟩) hb').trans (k 1 (by decide)), (hW.cell (p := ⟨b, off + t * 3 + 2, none⟩) hb').trans (k 2 (by decide))⟩
  obtain ⟨n, hnn⟩ : ∃ n, n = els.length := ⟨_, rfl⟩
  have HPV : Hid (pval (lv + 1) ⟨f, some ⟨b, off, none⟩, els, c⟩ = .agg #[.slice f.1 f.2.1.length f.2.2, .slice none 0 0, .slice (some ⟨b, off, none⟩) n c]) := by rw [hnn]; rfl
  rw [HPV.out]
  have HNN := Lib.hid hnn
  rw [← hnn] at h1 h8 h0
  have HIH := Lib.hid ih
  have HHH := Lib.hid hH
  have hH1 : (H == 1) = false := by rw [beq_eq_false_iff_ne]; omega
  have hH2 : H ≤ 1000002 := by omega
  have hH3 : 2 ≤ H := by omega
  clear HPV hnn hp ih hH hb hFb
  generalize f.1 = Af at *
  generalize f.2.1.length = nf at *
  generalize f.2.2 = cf at *
  obtain ⟨w1, hw1⟩ : ∃ w1, w1 = w.alloc (.cells #[.slice Af nf cf, .slice none 0 0, .slice (some ⟨b, off, none⟩) n c] 55) := ⟨_, rfl⟩
  have HW : Hid (w.alloc (.cells #[.slice Af nf cf, .slice none 0 0, .slice (some ⟨b, off, none⟩) n c] 55) = w1) := hw1.symm
  have HB1 : Hid (Blk w1 w.heap.size [.slice Af nf cf, .slice none 0 0, .slice (some ⟨b, off, none⟩) n c] 55) := by rw [hw1]; exact Blk.new w _ _
  have HBW : Hid (Below w.heap.size w w1) := by rw [hw1]; exact (Below.refl _ _).alloc (Nat.le_refl _) _
  clear hw1
  have hlt : decide (n < least) = false := decide_eq_false (by omega)
  have hgt : decide ((8 : Int) < (n : Int)) = false := decide_eq_false (by omega)
  have x0 := HB1.out.cell (i := 0) (by simp)
  have x1 := HB1.out.cell (i := 1) (by simp)
  have x2 := HB1.out.cell (i := 2) (by simp)
  simp only [List.getElem_cons_zero, List.getElem_cons_succ] at x0 x1 x2
  go_enter Try.func38, Try.ntmps38
  go_wp2_with fail
  rw [HW.out]
  refine (count_node _ Af (some ⟨b, off, none⟩) nf cf n c (by omega)).mono ?_
  rintro e w3 ⟨rfl, hb3⟩
  have bd3 : Below w1.heap.size w1 w3 := hb3
  clear x0 x1 x2 hb3
  have x0 := (HB1.out.below bd3 HB1.out.lt).cell (i := 0) (by simp)
  have x1 := (HB1.out.below bd3 HB1.out.lt).cell (i := 1) (by simp)
  have x2 := (HB1.out.below bd3 HB1.out.lt).cell (i := 2) (by simp)
  simp only [List.getElem_cons_zero, List.getElem_cons_succ] at x0 x1 x2
  go_wp2_with fail
  refine (count_node _ Af (some ⟨b, off, none⟩) nf cf n c (by omega)).mono ?_
  rintro e w4 ⟨rfl, hb4⟩
  have bd4 : Below w1.heap.size w1 w4 := hop bd3 hb4
  clear x0 x1 x2 hb4
  have x0 := (HB1.out.below bd4 HB1.out.lt).cell (i := 0) (by simp)
  have x1 := (HB1.out.below bd4 HB1.out.lt).cell (i := 1) (by simp)
  have x2 := (HB1.out.below bd4 HB1.out.lt).cell (i := 2) (by simp)
  simp only [List.getElem_cons_zero, List.getElem_cons_succ] at x0 x1 x2
  go_wp2_with fail
  refine (isLeaf_no _ Af none (some ⟨b, off, none⟩) nf cf 0 0 n c h0).mono ?_
  rintro e w5 ⟨rfl, hb5⟩
  have bd5 : Below w1.heap.size w1 w5 := hop bd4 hb5
  clear x0 x1 x2 hb5
  have x2 := (HB1.out.below bd5 HB1.out.lt).cell (i := 2) (by simp)
  simp only [List.getElem_cons_zero, List.getElem_cons_succ] at x2
  go_wp2_with fail
  have HW5 := Lib.hid (hop HBW.out bd5)
  clear x2 bd3 bd4 bd5
  go_loopg [28] n (fun kx s wr => ∃ k, k + kx = n ∧ s = .int .i64 (k : Int) ∧ Below w.heap.size w wr)
  case atStart => exact ⟨0, by omega, rfl, HW5.out⟩
  case round =>
    obtain ⟨k, hk, rfl, hbw⟩ := hrel
    have HBR := Lib.hid hbw
    clear hbw HW5
    by_cases hlt2 : k < n
    · have hkl : (k : Int) < (n : Int) := by omega
      have hk0 : (0 : Int) ≤ (k : Int) := by omega
      obtain ⟨kid, hk48, hgood, K0, k0, e0, K1, k1, e1, K2, k2, e2, hkv, hcell⟩ := HKIDS.out k (by rw [← HNN.out]; exact hlt2)
      obtain ⟨y0, y1, y2⟩ := hcell wr HBR.out
      have HIK : Hid (∀ W, Below w.heap.size w W → Calls Try.prog 38 #[.agg #[.slice K0 k0 e0, .slice K1 k1 e1, .slice K2 k2 e2], .int .i64 (H - 1), .int .i64 4] W fun e w' => e = .returned (.bool true) ∧ Below W.heap.size W w') := fun W hW => by
        have := HIH.out W F kid (H - 1) (hgood.below hW) (by have := HHH.out; omega) hk48.1 hk48.2
        rw [hkv] at this
        exact this
      obtain ⟨w6, hw6⟩ : ∃ w6, w6 = wr.alloc (.cells #[.slice K0 k0 e0, .slice K1 k1 e1, .slice K2 k2 e2] 55) := ⟨_, rfl⟩
      have HW6 : Hid (wr.alloc (.cells #[.slice K0 k0 e0, .slice K1 k1 e1, .slice K2 k2 e2] 55) = w6) := hw6.symm
      have HB6 : Hid (Below w.heap.size w w6) := by rw [hw6]; exact hop HBR.out ((Below.refl _ _).alloc (Nat.le_refl _) _)
      clear hcell hgood hk48 hkv hw6
      go_wp2_with fail
      rw [HW6.out]
      refine (HIK.out w6 HB6.out).mono ?_
      rintro e w7 ⟨rfl, hb7⟩
      have HB7 := Lib.hid (hop HB6.out hb7)
      clear hb7
      go_wp2_with fail
      go_roundg (n - (k + 1))
      case measure => omega
      case rel => exact ⟨k + 1, by omega, by go_num, HB7.out⟩
    · obtain rfl : k = n := by omega
      have hkl : ¬ (k : Int) < (k : Int) := by omega
      go_wp2_with fail
      go_ret
      exact ⟨rfl, HBR.out⟩

theorem sound_any : (lv : Nat) → lv ≤ 1000000 → ∀ (w : World) (F : Nat → Prop) (p : Pg lv) (H : Int) (least : Nat) (_ : Good w F lv p) (_ : H = (lv : Int) + 1) (_ : least ≤ p.els.length) (_ : p.els.length ≤ 8), Calls Try.prog 38 #[pval lv p, .int .i64 H, .int .i64 (least : Int)] w fun e w' => e = .returned (.bool true) ∧ Below w.heap.size w w'
  | 0 => fun _ w _ p H least _ hH h1 h8 => by
    rw [show H = 1 by omega]
    exact sound_leaf w p least h1 h8
  | lv + 1 => fun hl w F p H least hp hH h1 h8 =>
    sound_node lv (fun w F p H hp hH h4 h8 => sound_any lv (by omega) w F p H 4 hp hH h4 h8) w F p H least hp (by omega) (by omega) h1 h8
end Go.Proofs.Ytaeocbgmoijedaa
