/-
  What the program's Puts comes to: the puts that the bytes are, or the error. Condition: the bytes are at most 2^40.
-/
import Derived.Test.YtmngcfmlmdhpbaaCatch
import Derived.Test.YtmngcfmlmdhpbaaRdPuts
namespace Go.Proofs.Ytmngcfmlmdhpbaa
open Go.RowKit

/-- the error of bytes that are none -/
def errOf (D : Option (List PutV)) : Int := if D.isSome then 0 else 3
/-- what Puts answers -/
def PutsOut (w : World) (D : Option (List PutV)) (e : Ending) (w' : World) : Prop :=
  ∃ A n c ps, e = .returned (.tuple #[.slice A n c, .int .i64 (errOf D)]) ∧ ps.length = n ∧ PutsSeen w' A ps ∧ valsOf ps = D.getD [] ∧ Below w.heap.size w w'

theorem below_only {w0 w w' : World} {g : Nat} (h : Below w0.heap.size w0 w) (hg : w.grownBy w' (some g)) (hn : w0.heap.size ≤ g) : Below w0.heap.size w0 w' :=
  h.grown hg h.size (fun k hk => by injection hk with hk; omega)
set_option maxRecDepth 100000 in
set_option maxHeartbeats 1000000 in
theorem fputs_any (A : Option Addr) (b : List UInt8) (c : Nat) (w : World) (hs : Seen w A b) (hc : b.length ≤ c) (hb : b.length ≤ 1099511627776) :
    Calls Try.prog 19 #[.slice A b.length c] w (PutsOut w (putsL b)) := by
  have hmf : ∀ (fn : Fn) (first cap : Array Value) (w : World), (Instr.makeFunc fn first cap).run Try.prog w = .ok (.func fn first cap) w := fun _ _ _ _ => rfl
  obtain ⟨D, hD⟩ : ∃ D, D = putsL b := ⟨_, rfl⟩
  rw [← hD]
  -- the three new blocks
  have hz : ∀ o1 o2 o3, (((w.alloc o1).alloc o2).alloc o3).heap.size = w.heap.size + 3 := fun _ _ _ => by simp
  have B1 := ((Blk.new w [.slice none 0 0] 35).alloc (.cells #[.int .i64 0] 37)).alloc (.cells #[.slice A b.length c] 55)
  have B2 := (Blk.new (w.alloc (.cells #[.slice none 0 0] 35)) [.int .i64 0] 37).alloc (.cells #[.slice A b.length c] 55)
  have B3 := Blk.new ((w.alloc (.cells #[.slice none 0 0] 35)).alloc (.cells #[.int .i64 0] 37)) [.slice A b.length c] 55
  have HBW : Below w.heap.size w (((w.alloc (.cells #[.slice none 0 0] 35)).alloc (.cells #[.int .i64 0] 37)).alloc (.cells #[.slice A b.length c] 55)) :=
    (((Below.refl _ _).alloc (Nat.le_refl _) _).alloc (by simp) _).alloc (by simp; omega) _
  have hz3 := hz (.cells #[.slice none 0 0] 35) (.cells #[.int .i64 0] 37) (.cells #[.slice A b.length c] 55)
  obtain ⟨W, hW⟩ : ∃ W, W = (((w.alloc (.cells #[.slice none 0 0] 35)).alloc (.cells #[.int .i64 0] 37)).alloc (.cells #[.slice A b.length c] 55)) := ⟨_, rfl⟩
  have B1' : Blk W w.heap.size [.slice none 0 0] 35 := by rw [hW]; exact B1
  have B2' : Blk W (w.heap.size + 1) [.int .i64 0] 37 := by rw [hW]; have := B2; simp only [World.size_alloc] at this; exact this
  have B3' : Blk W (w.heap.size + 1 + 1) [.slice A b.length c] 55 := by rw [hW]; have := B3; simp only [World.size_alloc] at this; exact this
  rw [← hW] at HBW hz3
  have HR : RdAt W (w.heap.size + 1 + 1) (fun k => w.heap.size ≤ k) b :=
    ⟨by show w.heap.size ≤ _; omega, A, c, B3', (Away.of_seen hs (fun b off _ hlt => by show ¬ w.heap.size ≤ b; omega)).moved (Spared.of_below HBW _) (fun i hi => .inl hi), hc⟩
  have H1 := Lib.hid B1'
  have H2 := Lib.hid B2'
  have HBW' := Lib.hid HBW
  have HR' := Lib.hid HR
  have HZ := Lib.hid hz3
  have HW := Lib.hid hW
  have HP := Lib.hid (puts_any W (w.heap.size + 1 + 1) _ b HR hb)
  rw [← hD] at HP
  clear hs hc B1 B2 B3 hW B1' B2' B3' HBW HR hz3 hz hD
  go_enter_defers Try.func19, Try.ntmps19
  go_wp2_with fail
  rw [← HW.out]
  refine HP.out.mono ?_
  rintro e w1 (⟨rfl, hdn, hg1⟩ | ⟨A1, n1, c1, ps, u, rfl, hps, hla, hdn, hr1, hg1⟩)
  · have HD := Lib.hid hdn
    have HG := Lib.hid hg1
    have C1 := H1.out.only hg1 (by omega)
    have C2 := H2.out.only hg1 (by omega)
    have r1 := C1.cell (i := 0) (by simp)
    have r2 := C2.cell (i := 0) (by simp)
    have f1 := C1.free 0
    have f2 := C2.free 0
    simp only [List.getElem_cons_zero] at r1 r2
    clear hdn hg1 C1 C2
    go_wp2_with fail
    refine leaves_cons (f := 38) (args := #[.pointer (some ⟨w.heap.size, 0, none⟩), .pointer (some ⟨w.heap.size + 1, 0, none⟩)]) (by simp) (by simp [go_sem]) ?_
    refine (putsCatch_wrong w.heap.size (w.heap.size + 1) [] w1 _ 0 r1 f1 r2 f2 (by omega)).mono ?_
    rintro e u' w' ⟨rfl, rfl, rfl⟩
    simp [Leaves, settle, results, Try.results19, go_sem, r1, r2]
    refine ⟨none, 0, 0, [], by rw [HD.out]; rfl, rfl, .inl rfl, by rw [HD.out]; rfl, ?_⟩
    exact ((below_only HBW'.out HG.out (by omega)).setCell (Nat.le_refl _) _).setCell (by simp) _
  · have HLA := Lib.hid hla
    have HG := Lib.hid hg1
    have HRD := Lib.hid hr1
    have HD := Lib.hid hdn
    have HPS := Lib.hid hps
    have C1 := H1.out.only hg1 (by omega)
    have C2 := H2.out.only hg1 (by omega)
    have r1 := C1.cell (i := 0) (by simp)
    have r2 := C2.cell (i := 0) (by simp)
    have f1 := C1.free 0
    have f2 := C2.free 0
    simp only [List.getElem_cons_zero] at r1 r2
    clear hdn hg1 C1 C2 hla hr1 hps
    have hgb := only_setCell (World.grownBy.refl w1 (some w.heap.size)) 0 (.slice A1 n1 c1)
    have HRD2 := Lib.hid (HRD.out.set (g := w.heap.size) (Nat.le_refl _) (by omega) 0 (.slice A1 n1 c1))
    have HLA2 := Lib.hid (HLA.out.through hgb (by have := HZ.out; omega))
    have HB2 : Hid (Below w.heap.size w (w1.setCell ⟨w.heap.size, 0, none⟩ (.slice A1 n1 c1))) := (below_only HBW'.out HG.out (by omega)).setCell (Nat.le_refl _) _
    clear hgb HLA HRD
    by_cases hu : u = []
    · subst hu
      have HE : Hid (D = some (valsOf ps)) := HD.out
      clear HD
      go_wp2_with fail
      refine (end_ok _ _ _ HRD2.out).mono ?_
      rintro e w2 ⟨rfl, rfl⟩
      go_wp2_with fail
      refine leaves_cons (f := 38) (args := #[.pointer (some ⟨w.heap.size, 0, none⟩), .pointer (some ⟨w.heap.size + 1, 0, none⟩)]) (by simp) (by simp [go_sem]) ?_
      refine (putsCatch_idle _ _ _).mono ?_
      rintro e u' w' ⟨rfl, rfl, rfl⟩
      simp [Leaves, settle, results, Try.results19, go_sem, r1, r2]
      have hz := HZ.out
      have g1 := only_setCell (World.grownBy.refl (w1.setCell ⟨w.heap.size, 0, none⟩ (.slice A1 n1 c1)) (some w.heap.size)) 0 (.slice A1 n1 c1)
      have l1 := HLA2.out.through g1 (by omega)
      have g2 := only_setCell (World.grownBy.refl ((w1.setCell ⟨w.heap.size, 0, none⟩ (.slice A1 n1 c1)).setCell ⟨w.heap.size, 0, none⟩ (.slice A1 n1 c1)) (some (w.heap.size + 1))) 0 (.int .i64 0)
      have l2 := l1.through g2 (by omega)
      refine ⟨A1, n1, c1, ps, by rw [HE.out]; rfl, HPS.out, l2.seen, by rw [HE.out]; rfl, ?_⟩
      exact (HB2.out.setCell (Nat.le_refl _) _).setCell (by simp) _
    · have HE : Hid (D = none) := by show _ = _; rw [HD.out, if_neg hu]
      have hul : 0 < u.length := List.length_pos_iff.2 hu
      clear HD hu
      go_wp2_with fail
      refine (end_no _ _ _ u HRD2.out hul).mono ?_
      rintro e w2 ⟨rfl, rfl⟩
      go_wp2_with fail
      refine leaves_cons (f := 38) (args := #[.pointer (some ⟨w.heap.size, 0, none⟩), .pointer (some ⟨w.heap.size + 1, 0, none⟩)]) (by simp) (by simp [go_sem]) ?_
      refine (putsCatch_wrong w.heap.size (w.heap.size + 1) [] _ (.slice A1 n1 c1) 0 ?_ ?_ ?_ ?_ (by omega)).mono ?_
      · simp [go_sem, r1]
      · simp [go_sem, f1]
      · simp [go_sem, r2]
      · simp [go_sem, f2]
      rintro e u' w' ⟨rfl, rfl, rfl⟩
      simp [Leaves, settle, results, Try.results19, go_sem, r1, r2]
      refine ⟨none, 0, 0, [], by rw [HE.out]; rfl, rfl, .inl rfl, by rw [HE.out]; rfl, ?_⟩
      exact (HB2.out.setCell (Nat.le_refl _) _).setCell (by simp) _
end Go.Proofs.Ytmngcfmlmdhpbaa
