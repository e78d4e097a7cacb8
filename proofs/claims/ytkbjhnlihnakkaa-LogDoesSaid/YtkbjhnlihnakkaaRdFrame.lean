/-
  The reader's frame: what is read of bytes, or the panic. Conditions: how the reader lies in memory.
-/
import Derived.Test.YtkbjhnlihnakkaaRd
namespace Go.Proofs.Ytkbjhnlihnakkaa
open Go.RowKit

theorem drop_one (b : List UInt8) (h : 1 ≤ b.length) : ∃ c r, b = c :: r := by
  cases b with
  | nil => simp at h
  | cons c r => exact ⟨c, r, rfl⟩

theorem only_new {w w' : World} {row : Option Nat} {g : Nat} (h : w.grownBy w' row) (hg : w.heap.size ≤ g) (i : Nat) (u : Value) : w.grownBy (w'.setCell ⟨g, i, none⟩ u) row :=
  ⟨h.os, h.tape, h.output, by simpa [World.setCell] using h.size, fun k hk hne => (heap_setCell_other w' ⟨g, i, none⟩ k u (fun e => by simp only at e; omega)).trans (h.block k hk hne)⟩
theorem only_more {w w' : World} {row : Option Nat} (h : w.grownBy w' row) (o : Obj) : w.grownBy (w'.alloc o) row :=
  only_below h ((Below.refl _ _).alloc (Nat.le_refl _) o)

/-- what frame leaves -/
def Framed (w : World) (p : Nat) (F : Nat → Prop) (f : Int × Int × List UInt8) (e : Ending) (w' : World) : Prop :=
  ∃ A n c, e = .returned (.agg #[.int .i64 f.1, .int .i64 f.2.1, .slice A n c]) ∧ f.2.2.length = n ∧ n ≤ c ∧ Away w' F A f.2.2 ∧ w.grownBy w' (some p)

set_option maxRecDepth 100000 in
set_option maxHeartbeats 1000000 in
theorem frame_ok (w : World) (p : Nat) (F : Nat → Prop) (b0 : UInt8) (r : List UInt8) (h : RdAt w p F (b0 :: r)) (hl : r.length ≤ 140737488351232) (f : Int × Int × List UInt8) (hf : readR r = some f) :
    Calls Try.prog 58 #[.pointer (some ⟨p, 0, none⟩)] w (Framed w p F f) := by
  have HR := Lib.hid (h.mono (G := fun b => F b ∨ w.heap.size ≤ b) (.inl h.1) (fun b hb => hb))
  have hF : Hid (F p) := h.1
  obtain ⟨G, hG⟩ : ∃ G, G = fun b => F b ∨ w.heap.size ≤ b := ⟨_, rfl⟩
  rw [← hG] at HR
  have EG := Lib.hid hG
  obtain ⟨h1, h2, h3, h4, h5, h6⟩ := readR_some hf
  obtain ⟨fg, fs, fd⟩ := f
  simp only at h3 h4 h5 h6
  have H3 := Lib.hid h3
  have H4 := Lib.hid h4
  have H5 := Lib.hid h5
  have H6 := Lib.hid h6
  have HN := fun W (hr : RdAt W p G r) => number_ok W p G r hr (by omega) h1
  generalize (getL r 0 0).2 = k at *
  generalize (getL r 0 0).1 = n at *
  have H2 := Lib.hid h2
  have HN' := Lib.hid HN
  clear h h1 h2 h3 h4 h5 h6 hf HN hG
  go_enter Try.func58, Try.ntmps58
  go_wp2_with fail
  refine (take_ok _ p G (b0 :: r) 1 1 rfl ?h1 (by simp)).mono ?_
  case h1 => exact HR.out.below ((Below.refl _ _).alloc (Nat.le_refl _) _)
  rintro e w1 ⟨A1, c1, rfl, _, _, hr1, hg1⟩
  have HR1 : Hid (RdAt w1 p G r) := hr1
  have HG1 := Lib.hid hg1
  clear hr1 hg1
  go_wp2_with fail
  refine (HN'.out w1 HR1.out).mono ?_
  rintro e w2 ⟨rfl, hr2, hg2⟩
  have HR2 := Lib.hid hr2
  have HG2 := Lib.hid hg2
  clear hr2 hg2
  go_wp2_with fail
  refine (wide_ok w2 p G _ HR2.out ?h2).mono ?_
  case h2 => have := H2.out; omega
  rintro e w3 ⟨rfl, hr3, hg3⟩
  have HR3 := Lib.hid hr3
  have HG3 := Lib.hid hg3
  clear hr3 hg3
  go_wp2_with fail
  refine (wide_ok w3 p G _ HR3.out ?h3).mono ?_
  case h3 => have := H2.out; rw [List.length_drop]; omega
  rintro e w4 ⟨rfl, hr4, hg4⟩
  have HR4 := Lib.hid hr4
  have HG4 := Lib.hid hg4
  clear hr4 hg4
  rw [← H5.out, ← H6.out]
  go_wp2_with fail
  refine (take_ok _ p G (List.drop 8 (List.drop 8 (List.drop k r))) n _ rfl ?h5 ?h6).mono ?_
  case h5 => exact HR4.out.below ((Below.refl _ _).alloc (Nat.le_refl _) _)
  case h6 => have := H2.out; simp only [List.length_drop] at this ⊢; omega
  rintro e w5 ⟨A5, c5, rfl, ha5, hc5, _, hg5⟩
  have HA5 : Hid (Away w5 G A5 fd) := by show Away _ _ _ _; rw [H4.out]; exact ha5
  have HG5 := Lib.hid hg5
  clear ha5 hg5
  -- the two new blocks, behind all that
  have hp : p < w.heap.size := by
    have := HR.out.lt; exact this
  have B0 := Blk.new w [.int .i64 0, .int .i64 0, .slice none 0 0] 77
  have B1 := B0.only HG1.out (by omega)
  have B2 := B1.only HG2.out (by omega)
  have B3 := B2.only HG3.out (by omega)
  have B4 := (B3.only HG4.out (by omega)).alloc (.cells #[.int .i64 fg, .int .i64 fs, .slice none 0 0] 77)
  have B5 := B4.only HG5.out (by omega)
  have s1 := HG1.out.size
  have s2 := HG2.out.size
  have s3 := HG3.out.size
  have s4 := HG4.out.size
  have s5 := HG5.out.size
  simp only [World.size_alloc] at s1 s5
  have C5 := (Blk.new w4 [.int .i64 fg, .int .i64 fs, .slice none 0 0] 77).only HG5.out (by omega)
  have r0 := B5.cell (i := 0) (by simp)
  have r1 := B5.cell (i := 1) (by simp)
  have r2 := B5.cell (i := 2) (by simp)
  have f0 := B5.free 0
  have f1 := B5.free 1
  have f2 := B5.free 2
  have q0 := C5.cell (i := 0) (by simp)
  have q1 := C5.cell (i := 1) (by simp)
  have q2 := C5.cell (i := 2) (by simp)
  have g2 := C5.free 2
  simp only [List.getElem_cons_zero, List.getElem_cons_succ] at r0 r1 r2 q0 q1 q2
  have hne : ¬ w.heap.size = w4.heap.size := by omega
  have hne' : ¬ w4.heap.size = w.heap.size := by omega
  have HS := Lib.hid (And.intro s1 (And.intro s2 (And.intro s3 (And.intro s4 s5))))
  clear B0 B1 B2 B3 B4 B5 C5 s1 s2 s3 s4 s5
  go_wp2_with fail
  have hs4 : w.heap.size ≤ w4.heap.size := by have := HS.out; omega
  refine bodyPost_ret (v := .agg #[.int .i64 fg, .int .i64 fs, .slice A5 n c5]) (by simp [results, Try.results58, go_sem, r0, r1, r2]) rfl ⟨A5, n, c5, rfl, H3.out, hc5, ?_, ?_⟩
  · have hg : ∀ k, w.heap.size ≤ k → G k := fun k hk => by rw [EG.out]; exact .inr hk
    refine HA5.out.moved (((((Spared.refl w5 G).setCell (hg _ hs4) 2 _).setCell (hg _ (Nat.le_refl _)) 0 _).setCell (hg _ (Nat.le_refl _)) 1 _).setCell (hg _ (Nat.le_refl _)) 2 _) (fun i hi => .inl ?_)
    rw [EG.out]; exact .inl hi
  · refine only_new (only_new (only_new (only_new ?_ hs4 2 _) (Nat.le_refl _) 0 _) (Nat.le_refl _) 1 _) (Nat.le_refl _) 2 _
    exact only_trans (only_more (only_trans (only_trans (only_trans (only_trans (only_more (World.grownBy.refl w _) _) HG1.out) HG2.out) HG3.out) HG4.out) _) HG5.out

set_option maxRecDepth 100000 in
set_option maxHeartbeats 1000000 in
theorem frame_no (w : World) (p : Nat) (F : Nat → Prop) (b : List UInt8) (h : RdAt w p F b) (hl : b.length ≤ 140737488351232) (hf : readF b = none) :
    Calls Try.prog 58 #[.pointer (some ⟨p, 0, none⟩)] w fun e w' => e = wrong ∧ w.grownBy w' (some p) := by
  have HR := Lib.hid (h.below ((Below.refl w.heap.size w).alloc (Nat.le_refl _) (.cells #[.int .i64 0, .int .i64 0, .slice none 0 0] 77)))
  have HO := Lib.hid (only_more (World.grownBy.refl w (some p)) (.cells #[.int .i64 0, .int .i64 0, .slice none 0 0] 77))
  clear h
  generalize hW : w.alloc (.cells #[.int .i64 0, .int .i64 0, .slice none 0 0] 77) = W at HR HO
  have HW := Lib.hid hW
  clear hW
  cases b with
  | nil =>
    go_enter Try.func58, Try.ntmps58
    go_wp2_with fail
    rw [HW.out]
    refine (take_no W p F [] 1 1 rfl HR.out (by simp)).mono ?_
    rintro e w1 ⟨rfl, rfl⟩
    go_wp2_with fail
    exact ⟨rfl, rfl, HO.out⟩
  | cons b0 r =>
    have hl' : r.length ≤ 140737488351232 := by simp at hl; omega
    clear hl
    have hf' : readR r = none := hf
    clear hf
    unfold readR at hf'
    have HT := Lib.hid (take_ok W p F (b0 :: r) 1 1 rfl HR.out (by simp))
    by_cases hk : (getL r 0 0).2 = 0
    · have HK := Lib.hid hk
      clear hk hf'
      go_enter Try.func58, Try.ntmps58
      go_wp2_with fail
      rw [HW.out]
      refine HT.out.mono ?_
      rintro e w1 ⟨A1, c1, rfl, _, _, hr1, hg1⟩
      have HG1 := Lib.hid hg1
      have HR1 := Lib.hid hr1
      clear hg1 hr1
      go_wp2_with fail
      refine (number_no w1 p F r HR1.out (by omega) HK.out).mono ?_
      rintro e w2 ⟨rfl, rfl⟩
      go_wp2_with fail
      exact ⟨rfl, rfl, only_trans HO.out HG1.out⟩
    · rw [if_neg hk] at hf'
      split at hf'
      · rename_i hlt
        have HN := Lib.hid fun W (hr : RdAt W p F r) => number_ok W p F r hr (by omega) hk
        generalize (getL r 0 0).2 = k at *
        generalize (getL r 0 0).1 = n at *
        have HL := Lib.hid hlt
        clear hk hf' hlt
        by_cases h8 : (r.drop k).length < 8
        · have H8 := Lib.hid h8
          clear h8
          go_enter Try.func58, Try.ntmps58
          go_wp2_with fail
          rw [HW.out]
          refine HT.out.mono ?_
          rintro e w1 ⟨A1, c1, rfl, _, _, hr1, hg1⟩
          have HG1 := Lib.hid hg1
          have HR1 := Lib.hid hr1
          clear hg1 hr1
          go_wp2_with fail
          refine (HN.out w1 HR1.out).mono ?_
          rintro e w2 ⟨rfl, hr2, hg2⟩
          have HG2 := Lib.hid hg2
          have HR2 := Lib.hid hr2
          clear hg2 hr2
          go_wp2_with fail
          refine (wide_no w2 p F _ HR2.out H8.out).mono ?_
          rintro e w3 ⟨rfl, rfl⟩
          go_wp2_with fail
          exact ⟨rfl, rfl, only_trans (only_trans HO.out HG1.out) HG2.out⟩
        · by_cases h16 : ((r.drop k).drop 8).length < 8
          · have H8 := Lib.hid h8
            have H16 := Lib.hid h16
            clear h8 h16
            go_enter Try.func58, Try.ntmps58
            go_wp2_with fail
            rw [HW.out]
            refine HT.out.mono ?_
            rintro e w1 ⟨A1, c1, rfl, _, _, hr1, hg1⟩
            have HG1 := Lib.hid hg1
            have HR1 := Lib.hid hr1
            clear hg1 hr1
            go_wp2_with fail
            refine (HN.out w1 HR1.out).mono ?_
            rintro e w2 ⟨rfl, hr2, hg2⟩
            have HG2 := Lib.hid hg2
            have HR2 := Lib.hid hr2
            clear hg2 hr2
            go_wp2_with fail
            refine (wide_ok w2 p F _ HR2.out ?h8).mono ?_
            case h8 => have := H8.out; omega
            rintro e w3 ⟨rfl, hr3, hg3⟩
            have HG3 := Lib.hid hg3
            have HR3 := Lib.hid hr3
            clear hg3 hr3
            go_wp2_with fail
            refine (wide_no w3 p F _ HR3.out H16.out).mono ?_
            rintro e w4 ⟨rfl, rfl⟩
            go_wp2_with fail
            exact ⟨rfl, rfl, only_trans (only_trans (only_trans HO.out HG1.out) HG2.out) HG3.out⟩
          · have H8 := Lib.hid h8
            have H16 := Lib.hid h16
            clear h8 h16
            go_enter Try.func58, Try.ntmps58
            go_wp2_with fail
            rw [HW.out]
            refine HT.out.mono ?_
            rintro e w1 ⟨A1, c1, rfl, _, _, hr1, hg1⟩
            have HG1 := Lib.hid hg1
            have HR1 := Lib.hid hr1
            clear hg1 hr1
            go_wp2_with fail
            refine (HN.out w1 HR1.out).mono ?_
            rintro e w2 ⟨rfl, hr2, hg2⟩
            have HG2 := Lib.hid hg2
            have HR2 := Lib.hid hr2
            clear hg2 hr2
            go_wp2_with fail
            refine (wide_ok w2 p F _ HR2.out ?h8).mono ?_
            case h8 => have := H8.out; omega
            rintro e w3 ⟨rfl, hr3, hg3⟩
            have HG3 := Lib.hid hg3
            have HR3 := Lib.hid hr3
            clear hg3 hr3
            go_wp2_with fail
            refine (wide_ok w3 p F _ HR3.out ?h9).mono ?_
            case h9 => have := H16.out; omega
            rintro e w4 ⟨rfl, hr4, hg4⟩
            have HG4 := Lib.hid hg4
            have HR4 := Lib.hid hr4
            clear hg4 hr4
            go_wp2_with fail
            refine (take_no _ p F (List.drop 8 (List.drop 8 (List.drop k r))) n _ rfl ?h5 ?h6).mono ?_
            case h5 => exact HR4.out.below ((Below.refl _ _).alloc (Nat.le_refl _) _)
            case h6 => have := HL.out; have := H16.out; have := H8.out; simp only [List.length_drop] at *; omega
            rintro e w5 ⟨rfl, rfl⟩
            go_wp2_with fail
            exact ⟨rfl, rfl, only_more (only_trans (only_trans (only_trans (only_trans HO.out HG1.out) HG2.out) HG3.out) HG4.out) _⟩
      · cases hf'
end Go.Proofs.Ytkbjhnlihnakkaa
