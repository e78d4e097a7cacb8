/-
  The areas of a disk, as the program finds them (areasOf, newest). Conditions: as log's Open.
-/
import Derived.Test.YtdaahapbpnjkfaaGreatCKpS
import Derived.Test.YtdaahapbpnjkfaaGreatCTrRf
import Derived.Deep.RegionHeldLaw
namespace Go.Proofs.YtdaahapbpnjkfaaGreat
open Go.RowKit
theorem kopen_to {w : World} {g : Nat} {F : Nat → Prop} {s : Dsk} {f N E : Int} {lo : Option Lg} {ds : List (List UInt8)} (h : DiskAt w g F s) (hb : OpTo s f N E lo ds) (f0 : IntOk f) :
    Calls Tryz.prog 72 #[.pointer (some ⟨g, 0, none⟩), .int .i64 f, .int .i64 N] w fun e w' => ∃ b A ps n c, e = .returned (.tuple #[lp lo b, .slice A n c, .int .i64 E]) ∧ ps.length = n ∧ bytesOf ps = ds ∧ RecsAt w' 22 (fun k => k < w.heap.size) ps (.slice A n c) ∧ (∀ l, lo = some l → Blk w' b (lgCells g l) 145) ∧ w.heap.size ≤ b ∧ Below w.heap.size w w' := by
  refine (open_any w g F s f N h f0.1 f0.2).mono ?_
  rintro e w' (⟨k1, rfl, k3⟩ | ⟨k1, k2, rfl, k3⟩ | ⟨k1, k2, k4, rfl, k3⟩ | ⟨k1, k2, gen', ds', k4, b, ps, v, rfl, k5, k6, k7, k8, k3⟩)
  · rcases hb with ⟨_, rfl, rfl, rfl⟩ | ⟨j, _⟩ | ⟨j, _⟩ | ⟨j, _⟩
    · exact ⟨w.heap.size, none, [], 0, 0, rfl, rfl, rfl, .nil _ _ _, (fun l h => by cases h), Nat.le_refl _, k3⟩
    all_goals exact absurd j k1
  · rcases hb with ⟨j, _⟩ | ⟨_, _, rfl, rfl, rfl⟩ | ⟨_, j, _⟩ | ⟨_, j, _⟩
    · exact absurd k1 j
    · exact ⟨w.heap.size, none, [], 0, 0, rfl, rfl, rfl, .nil _ _ _, (fun l h => by cases h), Nat.le_refl _, k3⟩
    all_goals (rw [k2] at j; cases j)
  · rcases hb with ⟨j, _⟩ | ⟨_, j, _⟩ | ⟨_, _, _, rfl, rfl, rfl⟩ | ⟨_, _, _, j, _⟩
    · exact absurd k1 j
    · rw [k2] at j; cases j
    · exact ⟨w.heap.size, none, [], 0, 0, rfl, rfl, rfl, .nil _ _ _, (fun l h => by cases h), Nat.le_refl _, k3⟩
    · rw [k4] at j; cases j
  · rcases hb with ⟨j, _⟩ | ⟨_, j, _⟩ | ⟨_, _, j, _⟩ | ⟨_, _, gen2, j, rfl, rfl⟩
    · exact absurd k1 j
    · rw [k2] at j; cases j
    · rw [k4] at j; cases j
    · rw [k4] at j
      injection j with j
      injection j with j1 j2
      subst j1 j2
      obtain ⟨A, c, hv⟩ := k8.form
      subst hv
      exact ⟨b, A, ps, ps.length, c, rfl, rfl, k5, k8.mono (fun x hx => .inl (.inr hx)), (fun l h => by injection h with h; rw [← h]; exact k7), k6, k3⟩
abbrev AreaV := Nat × Option Lg × Nat × Option Addr × Nat × Nat
def AreaIs (w : World) (g : Nat) (x : AreaV) (ds : List (List UInt8)) : Prop := (∃ ps, ps.length = x.2.2.2.2.1 ∧ bytesOf ps = ds ∧ SeenAll w x.2.2.2.1 ps) ∧ ∀ l, x.2.1 = some l → Blk w x.2.2.1 (lgCells g l) 145
theorem AreaIs.below {w w' : World} {g : Nat} {x : AreaV} {ds : List (List UInt8)} (h : AreaIs w g x ds) (hb : Below w.heap.size w w') : AreaIs w' g x ds := by
  obtain ⟨⟨ps, h1, h2, h3⟩, h4⟩ := h
  exact ⟨⟨ps, h1, h2, h3.below hb⟩, fun l hl => (h4 l hl).below hb (h4 l hl).lt⟩
def AreaAt (w : World) (B g : Nat) (x : AreaV) (ds : List (List UInt8)) : Prop := (∃ ps, ps.length = x.2.2.2.2.1 ∧ bytesOf ps = ds ∧ RecsAt w 22 (fun k => k < B) ps (.slice x.2.2.2.1 x.2.2.2.2.1 x.2.2.2.2.2)) ∧ (∀ l, x.2.1 = some l → Blk w x.2.2.1 (lgCells g l) 145) ∧ B ≤ x.2.2.1
theorem AreaAt.is {w : World} {B g : Nat} {x : AreaV} {ds : List (List UInt8)} (h : AreaAt w B g x ds) : AreaIs w g x ds := by
  obtain ⟨⟨ps, h1, h2, h3⟩, h4, _⟩ := h
  exact ⟨⟨ps, h1, h2, h3.shown⟩, h4⟩
theorem AreaAt.spared {w w' : World} {B g : Nat} {x : AreaV} {ds : List (List UInt8)} (h : AreaAt w B g x ds) (hs : Spared w w' (fun k => k < B)) : AreaAt w' B g x ds := by
  obtain ⟨⟨ps, h1, h2, h3⟩, h4, h5⟩ := h
  exact ⟨⟨ps, h1, h2, h3.moved hs (fun _ h => .inl h)⟩, fun l hl => hs.blk (h4 l hl) (by omega), h5⟩
def genO : Option Lg → Int
  | none => 0
  | some l => l.gen
theorem gen_lp {w : World} {g b : Nat} {lo : Option Lg} (h : ∀ l, lo = some l → Blk w b (lgCells g l) 145) : Calls Tryz.prog 67 #[lp lo b] w fun e w' => e = .returned (.int .i64 (genO lo)) ∧ w' = w := by
  cases lo with
  | none => exact gen_nil w
  | some l => exact gen_any (h l rfl)
theorem index_two (a0 a1 a2 a3 a4 a5 : Value) (W : World) : (Instr.index 86 (.agg #[a0, a1, a2, a3, a4, a5]) (.int .i64 0)).run Tryz.prog W = .ok (.agg #[a0, a1, a2]) W ∧ (Instr.index 86 (.agg #[a0, a1, a2, a3, a4, a5]) (.int .i64 1)).run Tryz.prog W = .ok (.agg #[a3, a4, a5]) W := by
  constructor <;> kernel_rfl
set_option maxRecDepth 100000 in
set_option maxHeartbeats 2000000 in
theorem newest_raw (w : World) (f0 : Nat) (P0 : Option Addr) (A0 : Option Addr) (n0 c0 : Nat) (f1 : Nat) (P1 : Option Addr) (A1 : Option Addr) (n1 c1 : Nat) (g0 g1 : Int) (newer : Bool) (hnew : newer = decide (g0 < g1))
    (hG0 : ∀ W, Below w.heap.size w W → Calls Tryz.prog 67 #[.pointer P0] W fun e w' => e = .returned (.int .i64 g0) ∧ w' = W) (hG1 : ∀ W, Below w.heap.size w W → Calls Tryz.prog 67 #[.pointer P1] W fun e w' => e = .returned (.int .i64 g1) ∧ w' = W) :
    Calls Tryz.prog 42 #[.agg #[.int .i64 (f0 : Int), .pointer P0, .slice A0 n0 c0, .int .i64 (f1 : Int), .pointer P1, .slice A1 n1 c1]] w fun e w' => e = .returned (if newer then .agg #[.int .i64 (f1 : Int), .pointer P1, .slice A1 n1 c1] else .agg #[.int .i64 (f0 : Int), .pointer P0, .slice A0 n0 c0]) ∧ Below w.heap.size w w' := by
  have G0 := Lib.hid hG0
  have G1 := Lib.hid hG1
  obtain ⟨R, hR⟩ : ∃ R, R = (if newer then .agg #[.int .i64 (f1 : Int), .pointer P1, .slice A1 n1 c1] else Value.agg #[.int .i64 (f0 : Int), .pointer P0, .slice A0 n0 c0]) := ⟨_, rfl⟩
  rw [← hR]
  have HR := Lib.hid hR
  have HNEW := Lib.hid hnew
  have hix0 := fun (a0 a1 a2 a3 a4 a5 : Value) (W : World) => (index_two a0 a1 a2 a3 a4 a5 W).1
  have hix1 := fun (a0 a1 a2 a3 a4 a5 : Value) (W : World) => (index_two a0 a1 a2 a3 a4 a5 W).2
  clear hG0 hG1 hR hnew
  go_enter Tryz.func42, Tryz.ntmps42
  go_wp2_with fail
  go_loopg [9] 2 (fun kx s9 wr => ∃ (i : Nat) (a0 a1 a2 : Value), i + kx = 2 ∧ s9 = .int .i64 (i : Int) ∧ Below w.heap.size w wr ∧ Blk wr (w.heap.size + 1 + 1) [a0, a1, a2] 85 ∧ Blk wr (w.heap.size + 1) [.int .i64 0, .pointer none, .slice none 0 0] 85 ∧ ((i ≤ 1 ∧ a0 = .int .i64 (f0 : Int) ∧ a1 = .pointer P0 ∧ a2 = .slice A0 n0 c0) ∨ (i = 2 ∧ R = .agg #[a0, a1, a2] ∧ ∃ (f : Nat) (P A : Option Addr) (n c : Nat), a0 = .int .i64 (f : Int) ∧ a1 = .pointer P ∧ a2 = .slice A n c)))
  case atStart =>
    refine ⟨0, _, _, _, by omega, rfl, ?_, ?_, ?_, .inl ⟨by omega, rfl, rfl, rfl⟩⟩
    · exact (((Below.refl _ _).alloc (Nat.le_refl _) _).alloc (by simp) _).alloc (by simp; omega) _
    · have := Blk.new ((w.alloc (.cells #[.int .i64 (f0 : Int), .pointer P0, .slice A0 n0 c0, .int .i64 (f1 : Int), .pointer P1, .slice A1 n1 c1] 86)).alloc (.cells #[.int .i64 0, .pointer none, .slice none 0 0] 85)) [.int .i64 (f0 : Int), .pointer P0, .slice A0 n0 c0] 85
      simp only [World.size_alloc] at this
      exact this
    · have := (Blk.new (w.alloc (.cells #[.int .i64 (f0 : Int), .pointer P0, .slice A0 n0 c0, .int .i64 (f1 : Int), .pointer P1, .slice A1 n1 c1] 86)) [.int .i64 0, .pointer none, .slice none 0 0] 85).alloc (.cells #[.int .i64 (f0 : Int), .pointer P0, .slice A0 n0 c0] 85)
      simp only [World.size_alloc] at this
      exact this
  case round =>
    obtain ⟨i, a0, a1, a2, hi, rfl, hbr, hbf, hbz, hc⟩ := hrel
    have BR := Lib.hid hbr
    have BF := Lib.hid hbf
    have BZ := Lib.hid hbz
    have hlt := hbf.lt
    have x0 := hbf.cell (i := 0) (by simp)
    have x1 := hbf.cell (i := 1) (by simp)
    have x2 := hbf.cell (i := 2) (by simp)
    simp only [List.getElem_cons_zero, List.getElem_cons_succ] at x0 x1 x2
    have y0 := hbf.free 0
    have y1 := hbf.free 1
    have y2 := hbf.free 2
    obtain rfl | rfl | rfl : i = 0 ∨ i = 1 ∨ i = 2 := by omega
    · obtain ⟨rfl, rfl, rfl⟩ : a0 = .int .i64 (f0 : Int) ∧ a1 = .pointer P0 ∧ a2 = .slice A0 n0 c0 := by
        rcases hc with ⟨_, h⟩ | ⟨h, _⟩
        · exact h
        · omega
      obtain rfl : gk = 2 := by omega
      have hgg : decide (g0 < g0) = false := decide_eq_false (by omega)
      obtain ⟨w5, hw5⟩ : ∃ w5, w5 = wr.alloc (.cells #[.int .i64 (f0 : Int), .pointer P0, .slice A0 n0 c0] 85) := ⟨_, rfl⟩
      have hb5 : Below wr.heap.size wr w5 := by rw [hw5]; exact (Below.refl _ _).alloc (Nat.le_refl _) _
      have B5 : Hid (Below w.heap.size w w5) := hop BR.out hb5
      have BF5 := Lib.hid (BF.out.below hb5 hlt)
      have BZ5 := Lib.hid (BZ.out.below hb5 BZ.out.lt)
      have hx5 : Blk w5 wr.heap.size [.int .i64 (f0 : Int), .pointer P0, .slice A0 n0 c0] 85 := by rw [hw5]; exact Blk.new _ _ _
      have HW5 : Hid (wr.alloc (.cells #[.int .i64 (f0 : Int), .pointer P0, .slice A0 n0 c0] 85) = w5) := hw5.symm
      have v1 := hx5.cell (i := 1) (by simp)
      have u1 := BF5.out.cell (i := 1) (by simp)
      simp only [List.getElem_cons_zero, List.getElem_cons_succ] at v1 u1
      have HC0 := Lib.hid (G0.out w5.drew B5.out.drew)
      clear hc hi hbr hbf hbz hlt x0 x1 x2 y0 y1 y2 hw5 hb5 hx5
      go_wp2_with fail
      rw [HW5.out]
      go_region_held_law (fun W => W.cell? ⟨wr.heap.size, 1, none⟩ = some (.pointer P0) ∧ W.cell? ⟨w.heap.size + 1 + 1, 1, none⟩ = some (.pointer P0))
        (first | exact ⟨v1, u1⟩)
        (first
          | (go_at_call 67; (with_reducible refine HC0.out.mono ?_); rintro e w9 ⟨rfl, rfl⟩))
      go_wp2_with fail
      go_roundg 1
      case measure => omega
      case rel => exact ⟨1, _, _, _, by omega, rfl, B5.out.drew, BF5.out, BZ5.out, .inl ⟨by omega, rfl, rfl, rfl⟩⟩
    · obtain ⟨rfl, rfl, rfl⟩ : a0 = .int .i64 (f0 : Int) ∧ a1 = .pointer P0 ∧ a2 = .slice A0 n0 c0 := by
        rcases hc with ⟨_, h⟩ | ⟨h, _⟩
        · exact h
        · omega
      obtain rfl : gk = 1 := by omega
      obtain ⟨w5, hw5⟩ : ∃ w5, w5 = wr.alloc (.cells #[.int .i64 (f1 : Int), .pointer P1, .slice A1 n1 c1] 85) := ⟨_, rfl⟩
      have hb5 : Below wr.heap.size wr w5 := by rw [hw5]; exact (Below.refl _ _).alloc (Nat.le_refl _) _
      have B5 : Hid (Below w.heap.size w w5) := hop BR.out hb5
      have BF5 := Lib.hid (BF.out.below hb5 hlt)
      have BZ5 := Lib.hid (BZ.out.below hb5 BZ.out.lt)
      have hx5 : Blk w5 wr.heap.size [.int .i64 (f1 : Int), .pointer P1, .slice A1 n1 c1] 85 := by rw [hw5]; exact Blk.new _ _ _
      have HW5 : Hid (wr.alloc (.cells #[.int .i64 (f1 : Int), .pointer P1, .slice A1 n1 c1] 85) = w5) := hw5.symm
      have v0 := hx5.cell (i := 0) (by simp)
      have v1 := hx5.cell (i := 1) (by simp)
      have v2 := hx5.cell (i := 2) (by simp)
      have u0 := BF5.out.cell (i := 0) (by simp)
      have u1 := BF5.out.cell (i := 1) (by simp)
      have u2 := BF5.out.cell (i := 2) (by simp)
      simp only [List.getElem_cons_zero, List.getElem_cons_succ] at v0 v1 v2 u0 u1 u2
      have z0 := BF5.out.free 0
      have z1 := BF5.out.free 1
      have z2 := BF5.out.free 2
      have HC0 := Lib.hid (G0.out w5.drew B5.out.drew)
      have HC1 := Lib.hid (G1.out w5.drew B5.out.drew)
      have hbw : w.heap.size + 1 + 1 ≠ wr.heap.size := by omega
      clear hc hi hbr hbf hbz x0 x1 x2 y0 y1 y2 hw5 hb5 hx5
      cases newer
      · have hgg : decide (g0 < g1) = false := HNEW.out.symm
        have HRR : Hid (R = .agg #[.int .i64 (f0 : Int), .pointer P0, .slice A0 n0 c0]) := HR.out
        go_wp2_with fail
        rw [HW5.out]
        go_region_held_law (fun W => W.cell? ⟨wr.heap.size, 1, none⟩ = some (.pointer P1) ∧ W.cell? ⟨w.heap.size + 1 + 1, 1, none⟩ = some (.pointer P0))
          (first | exact ⟨v1, u1⟩)
          (first
            | (go_at_call 67; (first | (with_reducible refine HC0.out.mono ?_) | (with_reducible refine HC1.out.mono ?_)); rintro e w9 ⟨rfl, rfl⟩))
        go_wp2_with fail
        go_roundg 0
        case measure => omega
        case rel => exact ⟨2, _, _, _, by omega, rfl, B5.out.drew, BF5.out, BZ5.out, .inr ⟨rfl, HRR.out, _, _, _, _, _, rfl, rfl, rfl⟩⟩
      · have hgg : decide (g0 < g1) = true := HNEW.out.symm
        have HRR : Hid (R = .agg #[.int .i64 (f1 : Int), .pointer P1, .slice A1 n1 c1]) := HR.out
        go_wp2_with fail
        rw [HW5.out]
        go_region_held_law (fun W => W.cell? ⟨wr.heap.size, 1, none⟩ = some (.pointer P1) ∧ W.cell? ⟨w.heap.size + 1 + 1, 1, none⟩ = some (.pointer P0))
          (first | exact ⟨v1, u1⟩)
          (first
            | (go_at_call 67; (first | (with_reducible refine HC0.out.mono ?_) | (with_reducible refine HC1.out.mono ?_)); rintro e w9 ⟨rfl, rfl⟩))
        go_wp2_with fail
        go_roundg 0
        case measure => omega
        case rel =>
          have BS : Blk (((w5.drew.setCell ⟨w.heap.size + 1 + 1, 0, none⟩ (.int .i64 (f1 : Int))).setCell ⟨w.heap.size + 1 + 1, 1, none⟩ (.pointer P1)).setCell ⟨w.heap.size + 1 + 1, 2, none⟩ (.slice A1 n1 c1)) (w.heap.size + 1 + 1) [.int .i64 (f1 : Int), .pointer P1, .slice A1 n1 c1] 85 := ((BF5.out.drew.set 0 (.int .i64 (f1 : Int))).set 1 (.pointer P1)).set 2 (.slice A1 n1 c1)
          exact ⟨2, _, _, _, by omega, rfl, ((B5.out.drew.setCell (by simp; omega) _).setCell (by simp; omega) _).setCell (by simp; omega) _, BS, ((BZ5.out.drew.other _ _ (by simp)).other _ _ (by simp)).other _ _ (by simp), .inr ⟨rfl, HRR.out, _, _, _, _, _, rfl, rfl, rfl⟩⟩
    · obtain ⟨HRR, f, P, A, n, c, rfl, rfl, rfl⟩ : Hid (R = .agg #[a0, a1, a2]) ∧ ∃ (f : Nat) (P A : Option Addr) (n c : Nat), a0 = .int .i64 (f : Int) ∧ a1 = .pointer P ∧ a2 = .slice A n c := by
        rcases hc with ⟨h, _⟩ | ⟨_, h⟩
        · omega
        · exact h
      have z0 := hbz.cell (i := 0) (by simp)
      have z1 := hbz.cell (i := 1) (by simp)
      have z2 := hbz.cell (i := 2) (by simp)
      simp only [List.getElem_cons_zero, List.getElem_cons_succ] at z0 z1 z2
      have q0 := hbz.free 0
      have q1 := hbz.free 1
      have q2 := hbz.free 2
      have BE : Hid (Below w.heap.size w (((wr.setCell ⟨w.heap.size + 1, 0, none⟩ (.int .i64 (f : Int))).setCell ⟨w.heap.size + 1, 1, none⟩ (.pointer P)).setCell ⟨w.heap.size + 1, 2, none⟩ (.slice A n c))) := ((BR.out.setCell (by simp) _).setCell (by simp) _).setCell (by simp) _
      clear hc hi hbr hbf hbz y0 y1 y2
      go_wp2_with fail
      refine bodyPost_ret (v := .agg #[.int .i64 (f : Int), .pointer P, .slice A n c]) (by simp [results, Tryz.results42, go_sem, z0, z1, z2]) rfl ⟨by rw [HRR.out], BE.out⟩
end Go.Proofs.YtdaahapbpnjkfaaGreat
