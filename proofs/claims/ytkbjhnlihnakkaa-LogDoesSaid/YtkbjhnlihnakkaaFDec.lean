/-
  What bytes.Equal and bytes.HasPrefix come to. No conditions beyond how the bytes lie in memory.
  What the program's Decode comes to: the frame that the bytes begin with, or none. Condition: the bytes are at most 2^46.
-/
import Derived.Test.YtkbjhnlihnakkaaMadeN
import Derived.Test.YtkbjhnlihnakkaaFEnc
import Derived.Test.YtkbjhnlihnakkaaCatch
import Derived.Test.YtkbjhnlihnakkaaRdFrame
import Derived.Test.YtkbjhnlihnakkaaFEncode
namespace Go.Proofs.Ytkbjhnlihnakkaa
open Go.RowKit

def eqB (a b : List UInt8) : Bool := decide (a = b)
def preB (l p : List UInt8) : Bool := decide (l.take p.length = p)

theorem bytesEqual_any (A B : Option Addr) (a b : List UInt8) (n c m k : Nat) (w : World) (hn : a.length = n) (hm : b.length = m) (ha : Seen w A a) (hb : Seen w B b) :
    Calls Try.prog 78 #[.slice A n c, .slice B m k] w fun e w' => e = .returned (.bool (eqB a b)) ∧ w = w' := by
  have ua := text_on ha n c hn w (Below.refl _ _)
  have ub := text_on hb m k hm w (Below.refl _ _)
  have HT : Hid ((a == b) = eqB a b) := by show _ = _; unfold eqB; rw [Bool.eq_iff_iff, beq_iff_eq, decide_eq_true_iff]
  clear ha hb hn hm
  go_enter Try.func78, Try.ntmps78
  go_wp2_with fail
  go_ret
  exact ⟨ret_bool HT.out, rfl⟩

theorem hasPrefix_any (A B : Option Addr) (l p : List UInt8) (n c m k : Nat) (w : World) (hn : l.length = n) (hc : n ≤ c) (hm : p.length = m) (ha : Seen w A l) (hp : Seen w B p) :
    Calls Try.prog 59 #[.slice A n c, .slice B m k] w fun e w' => e = .returned (.bool (preB l p)) ∧ w = w' := by
  by_cases hlt : m ≤ n
  · have HE : Hid (eqB (l.take m) p = preB l p) := by show _ = _; unfold eqB preB; rw [hm]
    have HC := Lib.hid (bytesEqual_any A B (l.take m) p m c m k w (by rw [List.length_take]; omega) hm (ha.take m) hp)
    have hcut := cut_head A n c m (by omega)
    have ht : decide ((m : Int) ≤ (n : Int)) = true := decide_eq_true (by omega)
    clear ha hp hn hm
    go_enter Try.func59, Try.ntmps59
    go_wp2_with fail
    refine HC.out.mono ?_
    rintro e w' ⟨rfl, rfl⟩
    go_wp2_with fail
    go_ret
    exact ⟨ret_bool HE.out, rfl⟩
  · have HE : Hid (preB l p = false) := decide_eq_false (fun e => by have := congrArg List.length e; rw [List.length_take] at this; omega)
    have ht : decide ((m : Int) ≤ (n : Int)) = false := decide_eq_false (by omega)
    clear ha hp hn hm
    go_enter Try.func59, Try.ntmps59
    go_wp2_with fail
    go_ret
    exact ⟨ret_bool HE.out.symm, rfl⟩
end Go.Proofs.Ytkbjhnlihnakkaa

namespace Go.Proofs.Ytkbjhnlihnakkaa
open Go.RowKit

def outF (D : Option (Int × Int × List UInt8)) : Int × Int × List UInt8 := D.getD (0, 0, [])
def sizeF (D : Option (Int × Int × List UInt8)) : Nat :=
  match D with
  | none => 0
  | some f => (frameL f.1 f.2.1 f.2.2).length
/-- what Decode answers -/
def DecodeOut (w : World) (D : Option (Int × Int × List UInt8)) (e : Ending) (w' : World) : Prop :=
  ∃ A n c, e = .returned (.tuple #[.agg #[.int .i64 (outF D).1, .int .i64 (outF D).2.1, .slice A n c], .int .i64 (sizeF D : Nat)]) ∧ MadeN 5 w (outF D).2.2 A n c w'

theorem below_only {w0 w w' : World} {g : Nat} (h : Below w0.heap.size w0 w) (hg : w.grownBy w' (some g)) (hn : w0.heap.size ≤ g) : Below w0.heap.size w0 w' :=
  h.grown hg h.size (fun k hk => by injection hk with hk; omega)
theorem madeN_none {w w' : World} (h : Below w.heap.size w w') : MadeN 5 w [] none 0 0 w' := ⟨rfl, World.ownsRow_nil _ _ _ _, h⟩

set_option maxRecDepth 100000 in
set_option maxHeartbeats 2000000 in
theorem decode_any (A : Option Addr) (b : List UInt8) (c : Nat) (w : World) (hs : Seen w A b) (hc : b.length ≤ c) (hb : b.length ≤ 140737488351232) :
    Calls Try.prog 40 #[.slice A b.length c] w (DecodeOut w (decF b)) := by
  have hmf : ∀ (fn : Fn) (first cap : Array Value) (w : World), (Instr.makeFunc fn first cap).run Try.prog w = .ok (.func fn first cap) w := fun _ _ _ _ => rfl
  obtain ⟨D, hD⟩ : ∃ D, D = decF b := ⟨_, rfl⟩
  rw [← hD]
  -- the three new blocks
  have B1 := ((Blk.new w [.int .i64 0, .int .i64 0, .slice none 0 0] 77).alloc (.cells #[.int .i64 0] 3)).alloc (.cells #[.slice A b.length c] 101)
  have B2 := (Blk.new (w.alloc (.cells #[.int .i64 0, .int .i64 0, .slice none 0 0] 77)) [.int .i64 0] 3).alloc (.cells #[.slice A b.length c] 101)
  have B3 := Blk.new ((w.alloc (.cells #[.int .i64 0, .int .i64 0, .slice none 0 0] 77)).alloc (.cells #[.int .i64 0] 3)) [.slice A b.length c] 101
  have HBW : Below w.heap.size w (((w.alloc (.cells #[.int .i64 0, .int .i64 0, .slice none 0 0] 77)).alloc (.cells #[.int .i64 0] 3)).alloc (.cells #[.slice A b.length c] 101)) :=
    (((Below.refl _ _).alloc (Nat.le_refl _) _).alloc (by simp) _).alloc (by simp; omega) _
  obtain ⟨W, hW⟩ : ∃ W, W = (((w.alloc (.cells #[.int .i64 0, .int .i64 0, .slice none 0 0] 77)).alloc (.cells #[.int .i64 0] 3)).alloc (.cells #[.slice A b.length c] 101)) := ⟨_, rfl⟩
  have hz3 : W.heap.size = w.heap.size + 3 := by rw [hW]; simp
  have B1' : Blk W w.heap.size [.int .i64 0, .int .i64 0, .slice none 0 0] 77 := by rw [hW]; exact B1
  have B2' : Blk W (w.heap.size + 1) [.int .i64 0] 3 := by rw [hW]; have := B2; simp only [World.size_alloc] at this; exact this
  have B3' : Blk W (w.heap.size + 1 + 1) [.slice A b.length c] 101 := by rw [hW]; have := B3; simp only [World.size_alloc] at this; exact this
  rw [← hW] at HBW
  have HR : RdAt W (w.heap.size + 1 + 1) (fun k => w.heap.size ≤ k) b :=
    ⟨by show w.heap.size ≤ _; omega, A, c, B3', (Away.of_seen hs (fun b off _ hlt => by show ¬ w.heap.size ≤ b; omega)).moved (Spared.of_below HBW _) (fun i hi => .inl hi), hc⟩
  have H1 := Lib.hid B1'
  have H2 := Lib.hid B2'
  have HBW' := Lib.hid HBW
  have HZ := Lib.hid hz3
  have HW := Lib.hid hW
  have HS := Lib.hid hs
  rcases hrd : readF b with _ | f
  · have HP := Lib.hid (frame_no W (w.heap.size + 1 + 1) _ b HR hb hrd)
    have HE : Hid (D = none) := by show _ = _; rw [hD]; unfold decF; rw [hrd]
    clear hs hc B1 B2 B3 hW B1' B2' B3' HBW HR hz3 hD hrd
    go_enter_defers Try.func40, Try.ntmps40
    go_wp2_with fail
    rw [← HW.out]
    refine HP.out.mono ?_
    rintro e w1 ⟨rfl, hg1⟩
    have HG := Lib.hid hg1
    have C1 := H1.out.only hg1 (by omega)
    have C2 := H2.out.only hg1 (by omega)
    have r0 := C1.cell (i := 0) (by simp)
    have r1 := C1.cell (i := 1) (by simp)
    have r2 := C1.cell (i := 2) (by simp)
    have r3 := C2.cell (i := 0) (by simp)
    have f0 := C1.free 0
    have f1 := C1.free 1
    have f2 := C1.free 2
    have f3 := C2.free 0
    simp only [List.getElem_cons_zero, List.getElem_cons_succ] at r0 r1 r2 r3
    clear hg1 C1 C2
    go_wp2_with fail
    refine leaves_cons (f := 57) (args := #[.pointer (some ⟨w.heap.size, 0, none⟩), .pointer (some ⟨w.heap.size + 1, 0, none⟩)]) (by simp) (by simp [go_sem]) ?_
    refine (decodeCatch_wrong w.heap.size (w.heap.size + 1) [] w1 _ _ _ 0 r0 r1 r2 f0 f1 f2 r3 f3 (by omega)).mono ?_
    rintro e u' w' ⟨rfl, rfl, rfl⟩
    simp [Leaves, settle, results, Try.results40, go_sem, r0, r1, r2, r3]
    have hb' := below_only HBW'.out HG.out (by omega)
    rw [HE.out]
    exact ⟨none, 0, 0, rfl, madeN_none ((((hb'.setCell (Nat.le_refl _) _).setCell (Nat.le_refl _) _).setCell (Nat.le_refl _) _).setCell (by simp) _)⟩
  · cases b with
    | nil => cases hrd
    | cons b0 r =>
      have hrr : readR r = some f := hrd
      have HP := Lib.hid (frame_ok W (w.heap.size + 1 + 1) _ b0 r HR (by simp at hb; omega) f hrr)
      have hfd := (readR_some hrr).2.2.1
      have hfl : f.2.2.length ≤ r.length := by
        have h3 := (readR_some hrr).2.1
        rw [List.length_drop] at h3; omega
      have hf1 := (readR_some hrr).2.2.2.2.1
      have hf2 := (readR_some hrr).2.2.2.2.2
      have g0 : -9223372036854775808 ≤ f.1 ∧ f.1 ≤ 9223372036854775807 := by rw [hf1]; exact narI_range _
      have s0 : -9223372036854775808 ≤ f.2.1 ∧ f.2.1 ≤ 9223372036854775807 := by rw [hf2]; exact narI_range _
      obtain ⟨fg, fs, fd⟩ := f
      simp only at hfl g0 s0
      have hfd47 : fd.length ≤ 140737488351232 := by simp at hb; omega
      have HDD : Hid (D = if mayB fg fs fd.length = true ∧ (b0 :: r).take (frameL fg fs fd).length = frameL fg fs fd then some (fg, fs, fd) else none) := by
        show _ = _; rw [hD]; unfold decF; rw [hrd]
      have HC := Lib.hid hc
      clear hs hc B1 B2 B3 hW B1' B2' B3' HBW HR hz3 hD hrd hrr hfd hf1 hf2 hfl
      generalize (b0 :: r) = b at *
      go_enter_defers Try.func40, Try.ntmps40
      go_wp2_with fail
      rw [← HW.out]
      refine HP.out.mono ?_
      rintro e w1 ⟨A1, n1, c1, rfl, hn1, hc1, ha1, hg1⟩
      simp only at hn1 ha1
      have HN1 := Lib.hid hn1
      have HZ' := HZ.out
      have hs1 := hg1.size
      have HB1 : Hid (Below w.heap.size w (w1.alloc (.cells #[.int .i64 fg, .int .i64 fs, .slice A1 n1 c1] 77))) := (below_only HBW'.out hg1 (by omega)).alloc (by omega) _
      have HA1 : Hid (Seen (w1.alloc (.cells #[.int .i64 fg, .int .i64 fs, .slice A1 n1 c1] 77)) A1 fd) := ha1.seen.alloc _
      have C1 := (H1.out.only hg1 (by omega)).alloc (.cells #[.int .i64 fg, .int .i64 fs, .slice A1 n1 c1] 77)
      have C2 := (H2.out.only hg1 (by omega)).alloc (.cells #[.int .i64 fg, .int .i64 fs, .slice A1 n1 c1] 77)
      have C3 := Blk.new w1 [.int .i64 fg, .int .i64 fs, .slice A1 n1 c1] 77
      obtain ⟨W1, hW1⟩ : ∃ W1, W1 = w1.alloc (.cells #[.int .i64 fg, .int .i64 fs, .slice A1 n1 c1] 77) := ⟨_, rfl⟩
      have hzW1 : W1.heap.size = w1.heap.size + 1 := by rw [hW1]; simp
      have HW1 := Lib.hid hW1
      have C3' : Blk W1 w1.heap.size [.int .i64 fg, .int .i64 fs, .slice A1 n1 c1] 77 := by rw [hW1]; exact C3
      rw [← hW1] at HB1 HA1 C1 C2
      have HSZ := Lib.hid (And.intro HZ' (And.intro hs1 hzW1))
      have H1' := Lib.hid C1
      have H2' := Lib.hid C2
      have H3' := Lib.hid C3'
      clear hn1 ha1 hg1 HZ' hs1 C1 C2 C3 C3' hW1 hzW1
      go_wp2_with fail
      rw [← HW1.out]
      refine (encode_any fg fs A1 fd n1 c1 W1 HA1.out HN1.out (by have := HN1.out; omega) g0.1 g0.2 s0.1 s0.2).mono ?_
      rintro e w2 ⟨A2, n2, c2, rfl, hm2⟩
      have HM2 := Lib.hid hm2
      have hb2 := hm2.2.2
      have C1 := H1'.out.below hb2 H1'.out.lt
      have C2 := H2'.out.below hb2 H2'.out.lt
      have C3 := H3'.out.below hb2 H3'.out.lt
      have HB2 : Hid (Below w.heap.size w w2) := HB1.out.trans (hb2.mono HB1.out.size)
      have hs2 := hb2.size
      have r0 := C1.cell (i := 0) (by simp)
      have r1 := C1.cell (i := 1) (by simp)
      have r2 := C1.cell (i := 2) (by simp)
      have r3 := C2.cell (i := 0) (by simp)
      have f0 := C1.free 0
      have f1 := C1.free 1
      have f2 := C1.free 2
      have f3 := C2.free 0
      simp only [List.getElem_cons_zero, List.getElem_cons_succ] at r0 r1 r2 r3
      have HC1 := Lib.hid C1
      have HC2 := Lib.hid C2
      have HC3 := Lib.hid C3
      have HS2 := Lib.hid hs2
      have hzf := zeroFrame
      clear hm2 hb2 C1 C2 C3 hs2
      by_cases hm : mayB fg fs fd.length = true
      · have hn0 : Hid (n2 = (frameL fg fs fd).length) := by show _ = _; rw [← HM2.out.1, encF_may hm]
        have hpos := frameL_pos fg fs fd
        have t0 : ((n2 : Int) == 0) = false := by rw [beq_eq_false_iff_ne]; have := hn0.out; omega
        have HSb : Hid (Seen w2 A b) := (HS.out.below HB2.out)
        have HPRE := Lib.hid (hasPrefix_any A A2 b (encF fg fs fd) b.length c n2 c2 w2 rfl HC.out HM2.out.1 HSb.out HM2.out.seen)
        by_cases hp : b.take (frameL fg fs fd).length = frameL fg fs fd
        · have HDS : Hid (D = some (fg, fs, fd)) := by show _ = _; rw [HDD.out, if_pos ⟨hm, hp⟩]
          have hpb : preB b (encF fg fs fd) = true := by rw [encF_may hm]; exact decide_eq_true hp
          rw [hpb] at HPRE
          clear hpb hp hm HDD hpos
          go_wp2_with fail
          refine HPRE.out.mono ?_
          rintro e w2' ⟨rfl, rfl⟩
          have q2 := HC3.out.cell (i := 2) (by simp)
          simp only [List.getElem_cons_zero, List.getElem_cons_succ] at q2
          go_wp2_with fail
          refine (clone_made A1 fd n1 c1 w2 HN1.out (by have := HN1.out; omega) (HA1.out.below HM2.out.2.2)).mono ?_
          rintro e w3 ⟨A3, c3, rfl, hm3⟩
          have HM3 := Lib.hid hm3
          have hb3 := hm3.2
          have C1 := HC1.out.below hb3 HC1.out.lt
          have C2 := HC2.out.below hb3 HC2.out.lt
          have C3 := HC3.out.below hb3 HC3.out.lt
          clear r0 r1 r2 r3 f0 f1 f2 f3 q2
          have r0 := C1.cell (i := 0) (by simp)
          have r1 := C1.cell (i := 1) (by simp)
          have r2 := C1.cell (i := 2) (by simp)
          have r3 := C2.cell (i := 0) (by simp)
          have f0 := C1.free 0
          have f1 := C1.free 1
          have f2 := C1.free 2
          have f3 := C2.free 0
          have q0 := C3.cell (i := 0) (by simp)
          have q1 := C3.cell (i := 1) (by simp)
          have q2 := C3.cell (i := 2) (by simp)
          have z2 := C3.free 2
          simp only [List.getElem_cons_zero, List.getElem_cons_succ] at r0 r1 r2 r3 q0 q1 q2
          have h1 := HSZ.out.1
          have h2 := HSZ.out.2.1
          have d1 : ¬ w1.heap.size = w.heap.size := by omega
          have d2 : ¬ w.heap.size = w1.heap.size := by omega
          have d3 : ¬ w1.heap.size = w.heap.size + 1 := by omega
          have d4 : ¬ w.heap.size + 1 = w1.heap.size := by omega
          have HB3 : Hid (Below w.heap.size w w3) := HB2.out.trans (hb3.mono HB2.out.size)
          clear hm3 hb3 C1 C2 C3 h1 h2
          go_wp2_with fail
          refine leaves_cons (f := 57) (args := #[.pointer (some ⟨w.heap.size, 0, none⟩), .pointer (some ⟨w.heap.size + 1, 0, none⟩)]) (by simp) (by simp [go_sem]) ?_
          refine (decodeCatch_idle _ _ _).mono ?_
          rintro e u' w' ⟨rfl, rfl, rfl⟩
          simp [Leaves, settle, results, Try.results40, go_sem, r0, r1, r2, r3]
          have h1 := HSZ.out
          have h2 := HS2.out
          have k1 : w1.heap.size < w2.heap.size := by omega
          have k2 : w.heap.size < w2.heap.size := by omega
          have k3 : w.heap.size + 1 < w2.heap.size := by omega
          rw [HDS.out]
          have e1 : sizeF (some (fg, fs, fd)) = n2 := hn0.out.symm
          refine ⟨A3, n1, c3, by rw [e1]; rfl, HN1.out, HM3.out.finish (by omega) ?_ ?_⟩
          · exact (((((Spared.refl w3 (fun b => b < w2.heap.size)).setCell k1 2 _).setCell k2 0 _).setCell k2 1 _).setCell k2 2 _).setCell k3 0 _
          · exact ((((HB3.out.setCell (by simp only; omega) _).setCell (Nat.le_refl _) _).setCell (Nat.le_refl _) _).setCell (Nat.le_refl _) _).setCell (by simp) _
        · have HDS : Hid (D = none) := by show _ = _; rw [HDD.out, if_neg (fun h => hp h.2)]
          have hpb : preB b (encF fg fs fd) = false := by rw [encF_may hm]; exact decide_eq_false hp
          rw [hpb] at HPRE
          clear hpb hp hm HDD hpos
          go_wp2_with fail
          refine HPRE.out.mono ?_
          rintro e w2' ⟨rfl, rfl⟩
          go_wp2_with fail
          refine leaves_cons (f := 57) (args := #[.pointer (some ⟨w.heap.size, 0, none⟩), .pointer (some ⟨w.heap.size + 1, 0, none⟩)]) (by simp) (by simp [go_sem]) ?_
          refine (decodeCatch_idle _ _ _).mono ?_
          rintro e u' w' ⟨rfl, rfl, rfl⟩
          simp [Leaves, settle, results, Try.results40, go_sem, r0, r1, r2, r3]
          rw [HDS.out]
          exact ⟨none, 0, 0, rfl, madeN_none ((((HB2.out.setCell (Nat.le_refl _) _).setCell (Nat.le_refl _) _).setCell (Nat.le_refl _) _).setCell (by simp) _)⟩
      · have hmf' : mayB fg fs fd.length = false := by simpa using hm
        have HDS : Hid (D = none) := by show _ = _; rw [HDD.out, if_neg (fun h => hm h.1)]
        have hn0 : n2 = 0 := by rw [← HM2.out.1, encF_not hmf']; rfl
        have HM2' := Lib.hid HM2.out
        clear hm hmf' HDD HM2 HM2'
        subst hn0
        go_wp2_with fail
        refine leaves_cons (f := 57) (args := #[.pointer (some ⟨w.heap.size, 0, none⟩), .pointer (some ⟨w.heap.size + 1, 0, none⟩)]) (by simp) (by simp [go_sem]) ?_
        refine (decodeCatch_idle _ _ _).mono ?_
        rintro e u' w' ⟨rfl, rfl, rfl⟩
        simp [Leaves, settle, results, Try.results40, go_sem, r0, r1, r2, r3]
        rw [HDS.out]
        exact ⟨none, 0, 0, rfl, madeN_none ((((HB2.out.setCell (Nat.le_refl _) _).setCell (Nat.le_refl _) _).setCell (Nat.le_refl _) _).setCell (by simp) _)⟩
end Go.Proofs.Ytkbjhnlihnakkaa
