/-
  What the program's mixing of a block into the words comes to. Conditions: eight words of 32 bits, 64 bytes, and the program's table of constants as its initialiser lays it.
-/
import Derived.Test.YtmmfnfndepijlaaDoorSched
namespace Go.Proofs.YtmmfnfndepijlaaDoor
open Go.RowKit

/-- The program's two tables. -/
def Tabs (w : World) : Prop :=
  (∀ i, i < 64 → w.cell? ⟨0, i, none⟩ = some (.int .u32 (K0.getD i 0 : Nat))) ∧ (∀ i, i < 8 → w.cell? ⟨1, i, none⟩ = some (.int .u32 (H0.getD i 0 : Nat))) ∧ 2 ≤ w.heap.size
theorem Tabs.below {w w' : World} (h : Tabs w) (hb : Below w.heap.size w w') : Tabs w' :=
  ⟨fun i hi => (hb.cell (p := ⟨_, i, none⟩) (by show 0 < _; have := h.2.2; omega)).trans (h.1 i hi), fun i hi => (hb.cell (p := ⟨_, i, none⟩) (by show 1 < _; have := h.2.2; omega)).trans (h.2.1 i hi), by have := hb.size; have := h.2.2; omega⟩
theorem K0_lt : ∀ x ∈ K0, x < 4294967296 := by decide

/-- what the mixing's memory holds: the words, the block, the result's room, the schedule -/
def MixAt (h : List Nat) (b : List UInt8) (w : World) (g : Nat) (wr : World) : Prop :=
  Blk wr w.heap.size (h.map wv) 45 ∧ Blk wr (w.heap.size + 1) (b.map bv) 31 ∧ Blk wr (w.heap.size + 1 + 1) ((padw 8 []).map wv) 45 ∧ Blk wr g ((sched b 64).map wv) 54 ∧ Below w.heap.size w wr ∧ w.heap.size + 2 < g

theorem MixAt.drew {h : List Nat} {b : List UInt8} {w : World} {g : Nat} {wr : World} (H : MixAt h b w g wr) : MixAt h b w g wr.drew :=
  ⟨H.1.drew, H.2.1.drew, H.2.2.1.drew, H.2.2.2.1.drew, H.2.2.2.2.1.drew, H.2.2.2.2.2⟩

/-- what holds ahead of each round -/
def MixR (h : List Nat) (b : List UInt8) (w : World) (g : Nat) (s0 s1 s2 s3 s4 s5 s6 s7 i : Value) (wr : World) : Prop :=
  ∃ (k : Nat) (v : V8), k ≤ 64 ∧ i = .int .i64 k ∧ v.ok ∧ s0 = .int .u32 (v.a : Nat) ∧ s1 = .int .u32 (v.b : Nat) ∧ s2 = .int .u32 (v.c : Nat) ∧ s3 = .int .u32 (v.d : Nat) ∧ s4 = .int .u32 (v.e : Nat) ∧ s5 = .int .u32 (v.f : Nat) ∧ s6 = .int .u32 (v.g : Nat) ∧ s7 = .int .u32 (v.h : Nat) ∧ v = rounds (sched b 64) k (V8.of h) ∧ MixAt h b w g wr

theorem mix_start (h : List Nat) (b : List UInt8) (w w1 : World) (C D Z Y : Array Value) (hC : C = (h.map wv).toArray) (hD : D = (b.map bv).toArray) (hZ : Z = ((padw 8 []).map wv).toArray)
    (hb : Below (((w.alloc (.cells C 45)).alloc (.cells D 31)).alloc (.cells Z 45)).heap.size (((w.alloc (.cells C 45)).alloc (.cells D 31)).alloc (.cells Z 45)) w1) :
    MixAt h b w w1.heap.size ((w1.alloc (.cells Y 54)).setRow w1.heap.size ((sched b 64).map wv).toArray) := by
  subst hC hD hZ
  have hs : (((w.alloc (.cells (h.map wv).toArray 45)).alloc (.cells (b.map bv).toArray 31)).alloc (.cells ((padw 8 []).map wv).toArray 45)).heap.size = w.heap.size + 3 := by simp
  have b1 : Below (w.heap.size + 3) w1 ((w1.alloc (.cells Y 54)).setRow w1.heap.size ((sched b 64).map wv).toArray) := by
    have h1 := hb.size
    exact below_setRow ((Below.refl _ _).alloc (by omega) _) (by omega) _
  have b2 := hb.mono (B' := w.heap.size + 3) (by omega)
  have b3 := b2.trans b1
  have k1 := ((Blk.new w (h.map wv) 45).alloc (.cells (b.map bv).toArray 31)).alloc (.cells ((padw 8 []).map wv).toArray 45)
  have k2 := (Blk.new (w.alloc (.cells (h.map wv).toArray 45)) (b.map bv) 31).alloc (.cells ((padw 8 []).map wv).toArray 45)
  have k3 := Blk.new ((w.alloc (.cells (h.map wv).toArray 45)).alloc (.cells (b.map bv).toArray 31)) ((padw 8 []).map wv) 45
  refine ⟨k1.below b3 (by omega), ?_, ?_, ?_, ?_, ?_⟩
  · have := k2.below b3 (by simp); simpa using this
  · have := k3.below b3 (by simp); simpa using this
  · exact setRow_heap _ w1.heap.size _ _ _ _ (heap_alloc_new w1 _)
  · refine Below.trans ?_ (b3.mono (by omega))
    exact (((Below.refl _ _).alloc (Nat.le_refl _) _).alloc (by simp) _).alloc (by simp; omega) _
  · have := hb.size; omega

theorem mixR_start {h : List Nat} {b : List UInt8} {w : World} {g : Nat} {y0 y1 y2 y3 y4 y5 y6 y7 : Nat} {wr : World} (he : V8.of h = ⟨y0, y1, y2, y3, y4, y5, y6, y7⟩) (hv : (V8.of h).ok) (H : MixAt h b w g wr) :
    MixR h b w g (.int .u32 y0) (.int .u32 y1) (.int .u32 y2) (.int .u32 y3) (.int .u32 y4) (.int .u32 y5) (.int .u32 y6) (.int .u32 y7) (.int .i64 0) wr :=
  ⟨0, ⟨y0, y1, y2, y3, y4, y5, y6, y7⟩, by omega, rfl, he ▸ hv, rfl, rfl, rfl, rfl, rfl, rfl, rfl, rfl, he.symm, H⟩

theorem choose_bits (e f g : Nat) (he : e < 4294967296) (hf : f < 4294967296) (hg : g < 4294967296) :
    bits BinOp.xor IntKind.u32 (bits BinOp.and IntKind.u32 (e : Int) (f : Int)) (bits BinOp.and IntKind.u32 (bits BinOp.xor IntKind.u32 (if IntKind.u32.signed = true then -1 else IntKind.u32.max) (e : Int)) (g : Int)) = ((choose e f g : Nat) : Int) := by
  have e0 : (if IntKind.u32.signed = true then -1 else IntKind.u32.max : Int) = ((4294967295 : Nat) : Int) := rfl
  rw [e0, u32_and_nat _ _ he hf, u32_xor_nat _ _ (by decide) he, u32_and_nat _ _ (xor2_lt (by decide) he) hg, u32_xor_nat _ _ (and2_lt _ he) (and2_lt _ (xor2_lt (by decide) he))]
  rfl
theorem t1_wrap (e f g h k w : Nat) (he : e < 4294967296) (hf : f < 4294967296) (hg : g < 4294967296) :
    IntKind.u32.wrap (IntKind.u32.wrap (IntKind.u32.wrap (IntKind.u32.wrap ((h : Int) + ((bg1 e : Nat) : Int)) + bits BinOp.xor IntKind.u32 (bits BinOp.and IntKind.u32 (e : Int) (f : Int)) (bits BinOp.and IntKind.u32 (bits BinOp.xor IntKind.u32 (if IntKind.u32.signed = true then -1 else IntKind.u32.max) (e : Int)) (g : Int))) + (k : Int)) + (w : Int)) = ((t1 e f g h k w : Nat) : Int) := by
  rw [choose_bits e f g he hf hg]
  simp only [IntKind.wrap_u32]
  rw [sum32, sum32, sum32, sum32]
  rfl
theorem major_bits (a b c : Nat) (ha : a < 4294967296) (hb : b < 4294967296) (hc : c < 4294967296) :
    bits BinOp.xor IntKind.u32 (bits BinOp.xor IntKind.u32 (bits BinOp.and IntKind.u32 (a : Int) (b : Int)) (bits BinOp.and IntKind.u32 (a : Int) (c : Int))) (bits BinOp.and IntKind.u32 (b : Int) (c : Int)) = ((major a b c : Nat) : Int) := by
  rw [u32_and_nat _ _ ha hb, u32_and_nat _ _ ha hc, u32_and_nat _ _ hb hc]
  exact xor3_bits _ _ _ (and2_lt _ ha) (and2_lt _ ha) (and2_lt _ hb)

/-! the second loop: what was mixed is added, word by word -/
theorem eight {α : Type} (l : List α) (h : l.length = 8) : ∃ a b c d e f g x, l = [a, b, c, d, e, f, g, x] := by
  match l, h with
  | [a, b, c, d, e, f, g, x], _ => exact ⟨a, b, c, d, e, f, g, x, rfl⟩
theorem below8 {k : Nat} (h : k < 8) : k = 0 ∨ k = 1 ∨ k = 2 ∨ k = 3 ∨ k = 4 ∨ k = 5 ∨ k = 6 ∨ k = 7 := by omega
def part (h V : List Nat) (k : Nat) : List Nat := List.zipWith add32 (h.take k) V ++ h.drop k
theorem part_get {h V : List Nat} {k : Nat} (hh : h.length = 8) (hV : V.length = 8) (hk : k < 8) : (part h V k).getD k 0 = h.getD k 0 ∧ (part h V k).length = 8 := by
  obtain ⟨a, b, c, d, e, f, g, x, rfl⟩ := eight h hh
  obtain ⟨a', b', c', d', e', f', g', x', rfl⟩ := eight V hV
  rcases below8 hk with rfl | rfl | rfl | rfl | rfl | rfl | rfl | rfl <;> exact ⟨rfl, rfl⟩
theorem part_set {h V : List Nat} {k : Nat} (hh : h.length = 8) (hV : V.length = 8) (hk : k < 8) : (part h V k).set k (add32 (h.getD k 0) (V.getD k 0)) = part h V (k + 1) := by
  obtain ⟨a, b, c, d, e, f, g, x, rfl⟩ := eight h hh
  obtain ⟨a', b', c', d', e', f', g', x', rfl⟩ := eight V hV
  rcases below8 hk with rfl | rfl | rfl | rfl | rfl | rfl | rfl | rfl <;> rfl
theorem part_end {h V : List Nat} (hh : h.length = 8) : part h V 8 = List.zipWith add32 h V := by
  unfold part; rw [← hh, List.take_length, List.drop_length, List.append_nil]
theorem index8 (x0 x1 x2 x3 x4 x5 x6 x7 : Nat) (k : Nat) (hk : k < 8) (w : World) :
    (Instr.index 45 (.agg #[.int .u32 (x0 : Int), .int .u32 (x1 : Int), .int .u32 (x2 : Int), .int .u32 (x3 : Int), .int .u32 (x4 : Int), .int .u32 (x5 : Int), .int .u32 (x6 : Int), .int .u32 (x7 : Int)]) (.int .i64 (k : Int))).run Tryd.prog w
      = .ok (.int .u32 ([x0, x1, x2, x3, x4, x5, x6, x7].getD k 0 : Nat)) w := by
  rcases below8 hk with rfl | rfl | rfl | rfl | rfl | rfl | rfl | rfl <;> kernel_rfl
def Mix2 (h V : List Nat) (w : World) (i : Value) (wr : World) : Prop :=
  ∃ k : Nat, k ≤ 8 ∧ i = .int .i64 k ∧ Blk wr w.heap.size ((part h V k).map wv) 45 ∧ Blk wr (w.heap.size + 1 + 1) ((padw 8 []).map wv) 45 ∧ Below w.heap.size w wr
theorem mix2_step {h V : List Nat} {w wr : World} {k : Nat} (hh : h.length = 8) (hV : V.length = 8) (hk : k < 8) (h1 : Blk wr w.heap.size ((part h V k).map wv) 45) (h2 : Blk wr (w.heap.size + 1 + 1) ((padw 8 []).map wv) 45) (h3 : Below w.heap.size w wr)
    (j : Int) (hj : j = (k : Int) + 1) : Mix2 h V w (.int .i64 j) (wr.setCell ⟨w.heap.size, k, none⟩ (.int .u32 (((h.getD k 0 : Nat) + (V.getD k 0 : Nat)) % 4294967296))) := by
  subst hj
  refine ⟨k + 1, by omega, by go_num, ?_, h2.other _ _ (by show w.heap.size + 1 + 1 ≠ w.heap.size; omega), h3.setCell (Nat.le_refl _) _⟩
  have := h1.set k (.int .u32 ((add32 (h.getD k 0) (V.getD k 0) : Nat) : Int))
  rw [sum32, ← part_set hh hV hk, List.map_set]
  exact this

set_option maxRecDepth 100000 in
set_option maxHeartbeats 1000000 in
theorem mix_any (h : List Nat) (b : List UInt8) (w : World) (hh : h.length = 8) (hlt : ∀ x ∈ h, x < 4294967296) (hb : b.length = 64) (ht : Tabs w) :
    Calls Tryd.prog 25 #[.agg (h.map wv).toArray, .agg (b.map bv).toArray] w fun e w' => e = .returned (.agg ((mixL h b).map wv).toArray) ∧ Below w.heap.size w w' := by
  have HH := Lib.hid hh
  have HLT := Lib.hid hlt
  have HB := Lib.hid hb
  have HT := Lib.hid ht
  clear hh hlt hb ht
  obtain ⟨C, hC⟩ : ∃ C, C = (h.map wv).toArray := ⟨_, rfl⟩
  obtain ⟨D, hD⟩ : ∃ D, D = (b.map bv).toArray := ⟨_, rfl⟩
  obtain ⟨R, hR⟩ : ∃ R, R = (mixL h b).map wv := ⟨_, rfl⟩
  rw [← hC, ← hD, ← hR]
  have HC := Lib.hid hC
  have HD := Lib.hid hD
  have HR := Lib.hid hR
  clear hC hD hR
  go_enter Tryd.func25, Tryd.ntmps25
  have B0 : Hid (Blk (((w.alloc (.cells C 45)).alloc (.cells D 31)).alloc (.cells ((padw 8 []).map wv).toArray 45)) (w.heap.size + 1) (b.map bv) 31) := by
    have h := (Blk.new (w.alloc (.cells C 45)) (b.map bv) 31).alloc (.cells ((padw 8 []).map wv).toArray 45)
    rw [← HD.out] at h
    show Blk _ _ _ _
    simpa using h
  go_wp2_with (refine wpList_load_row rfl 31 (.tmp 3) rfl (w.heap.size + 1) rfl 31 (b.map bv).toArray (0, 0) _ B0.out Tryd.underlying31 rfl (by rw [info44]; simp [HB.out]) ?_)
  refine (schedule_any b _ HB.out).mono ?_
  rintro e w1 ⟨rfl, hb1⟩
  have HL : Hid (((sched b 64).map wv).toArray.size = 64) := by show _ = _; simp [length_sched]
  have HB1 := Lib.hid hb1
  clear hb1
  go_wp2_with (refine wpList_store_row rfl 54 (.tmp 5) (.tmp 20) rfl w1.heap.size ((sched b 64).map wv).toArray rfl rfl 54 _ (heap_alloc_new w1 _) (by rw [info40, HL.out]) (by rw [HL.out]; rfl) (wv_one _) ?_)
  have BM0 := fun Y => mix_start h b w w1 C D _ Y HC.out HD.out rfl HB1.out
  generalize hw2 : World.setRow (w1.alloc _) w1.heap.size ((sched b 64).map wv).toArray = w2
  have BM : Hid (MixAt h b w w1.heap.size w2) := by
    rw [← hw2]
    exact BM0 _
  clear BM0 hw2 HB1 B0 HL
  generalize w1.heap.size = g at *
  clear w1
  simp only [Act.put]
  have c0 := BM.out.1.word (i := 0) (by rw [HH.out]; omega)
  have c1 := BM.out.1.word (i := 1) (by rw [HH.out]; omega)
  have c2 := BM.out.1.word (i := 2) (by rw [HH.out]; omega)
  have c3 := BM.out.1.word (i := 3) (by rw [HH.out]; omega)
  have c4 := BM.out.1.word (i := 4) (by rw [HH.out]; omega)
  have c5 := BM.out.1.word (i := 5) (by rw [HH.out]; omega)
  have c6 := BM.out.1.word (i := 6) (by rw [HH.out]; omega)
  have c7 := BM.out.1.word (i := 7) (by rw [HH.out]; omega)
  have HV := Lib.hid (of_ok HLT.out)
  have HE : Hid (V8.of h = ⟨h.getD 0 0, h.getD 1 0, h.getD 2 0, h.getD 3 0, h.getD 4 0, h.getD 5 0, h.getD 6 0, h.getD 7 0⟩) := rfl
  generalize h.getD 0 0 = y0 at *
  generalize h.getD 1 0 = y1 at *
  generalize h.getD 2 0 = y2 at *
  generalize h.getD 3 0 = y3 at *
  generalize h.getD 4 0 = y4 at *
  generalize h.getD 5 0 = y5 at *
  generalize h.getD 6 0 = y6 at *
  generalize h.getD 7 0 = y7 at *
  refine wp_region_still_lit (by kernel_rfl) (by kernel_rfl) ?_
  change wpStill _ _ w2.drew (fun a' => _) _ _
  repeat still_step
  refine wpStill_nil ?_
  go_wp2
  refine wp_region_still_lit (by kernel_rfl) (by kernel_rfl) ?_
  change wpStill _ _ w2.drew.drew (fun a' => _) _ _
  repeat still_step
  refine wpStill_nil ?_
  go_wp2
  go_loopw [6, 7, 8, 9, 10, 11, 12, 13, 37] (fun s0 s1 s2 s3 s4 s5 s6 s7 i wr => MixR h b w g s0 s1 s2 s3 s4 s5 s6 s7 i wr) (fun _ _ _ _ _ _ _ _ i _ => 64 - (intOf i).toNat)
  case atStart => exact mixR_start HE.out HV.out BM.out.drew.drew
  case round =>
    clear BM c0 c1 c2 c3 c4 c5 c6 c7 HE
    obtain ⟨k, v, hk, rfl, hv, rfl, rfl, rfl, rfl, rfl, rfl, rfl, rfl, hvr, H⟩ := hrel
    have HVR := Lib.hid hvr
    clear hvr
    by_cases hlt : k < 64
    · have cw := H.2.2.2.1.word (i := k) (by rw [length_sched]; omega)
      have ck := (HT.out.below H.2.2.2.2.1).1 k hlt
      obtain ⟨va, vb, vc, vd, ve, vf, vg, vh⟩ := v
      obtain ⟨ha, hb, hc, hd, he, hf, hg, hh⟩ := hv
      simp only at ha hb hc hd he hf hg hh
      have HM := Lib.hid H
      clear H
      have lk : (k : Int) < 64 := by omega
      have HK := Lib.hid (getD_lt K0_lt k)
      have HS := Lib.hid (getD_lt (sched_lt b 64) k)
      generalize hkk : K0.getD k 0 = kk at *
      generalize hww : (sched b 64).getD k 0 = ww at *
      have HKK := Lib.hid hkk
      have HWW := Lib.hid hww
      clear hkk hww
      go_wp2
      refine wp_region_still_lit (by kernel_rfl) (by kernel_rfl) ?_
      change wpStill _ _ wr.drew (fun a' => _) _ _
      repeat still_step
      still_call (bigOne_still _ _ he)
      repeat still_step
      refine wpStill_nil ?_
      rw [t1_wrap ve vf vg vh kk ww he hf hg]
      generalize IntKind.u32.wrap ((vh : Int) + ((bg1 ve : Nat) : Int)) = q1
      generalize bits BinOp.and IntKind.u32 (ve : Int) (vf : Int) = q2
      generalize bits BinOp.xor IntKind.u32 (if IntKind.u32.signed = true then -1 else IntKind.u32.max) (ve : Int) = q3
      generalize bits BinOp.and IntKind.u32 q3 (vg : Int) = q4
      generalize bits BinOp.xor IntKind.u32 q2 q4 = q5
      generalize IntKind.u32.wrap (q1 + q5) = q6
      generalize IntKind.u32.wrap (q6 + (kk : Int)) = q7
      generalize HX : t1 ve vf vg vh kk ww = x1
      have HX1 := Lib.hid HX
      clear HX
      generalize bg1 ve = q8
      go_wp2_with fail
      refine (bigZero_any _ _ ha).mono ?_
      rintro e w' ⟨rfl, rfl⟩
      go_wp2
      go_roundw
      case rel =>
        rw [major_bits va vb vc ha hb hc, sum32, sum32, sum32]
        refine ⟨k + 1, V8.next ⟨va, vb, vc, vd, ve, vf, vg, vh⟩ kk ww, by omega, by go_num, V8.next_ok ⟨ha, hb, hc, hd, he, hf, hg, hh⟩ _ _, ?_, rfl, rfl, rfl, ?_, rfl, rfl, rfl, ?_, HM.out.drew⟩
        · rw [← HX1.out]; rfl
        · rw [← HX1.out]; rfl
        · show _ = (rounds (sched b 64) k (V8.of h)).next (K0.getD k 0) ((sched b 64).getD k 0)
          rw [← HVR.out, HKK.out, HWW.out]
      case measure => simp [intOf]; omega
    · obtain rfl : k = 64 := by omega
      have HM := Lib.hid H
      clear H
      have HRL : Hid (mixL h b = List.zipWith add32 h v.list) := by
        show _ = _
        unfold mixL
        rw [← HVR.out]
      obtain ⟨va, vb, vc, vd, ve, vf, vg, vh⟩ := v
      clear hv HVR HV hk hlt
      have ix := index8 va vb vc vd ve vf vg vh
      have HL8 : Hid ((V8.mk va vb vc vd ve vf vg vh).list.length = 8) := rfl
      have HLE : Hid ([va, vb, vc, vd, ve, vf, vg, vh] = (V8.mk va vb vc vd ve vf vg vh).list) := rfl
      go_wp2
      go_loopw [97] (fun i wr => Mix2 h (V8.mk va vb vc vd ve vf vg vh).list w i wr) (fun i _ => 8 - (intOf i).toNat)
      case atStart => exact ⟨0, by omega, rfl, by have h0 := HM.out.1; exact h0, HM.out.2.2.1, HM.out.2.2.2.2.1⟩
      case round =>
        clear HM
        obtain ⟨k, hk, rfl, H1, H2, H3⟩ := hrel
        by_cases hlt : k < 8
        · have p1 := part_get HH.out HL8.out hlt
          have c1 := H1.word (i := k) (by rw [p1.2]; exact hlt)
          rw [p1.1] at c1
          have f1 := H1.free k
          have ix1 := fun w => ix k hlt w
          rw [HLE.out] at ix1
          clear ix p1
          have HB1 := Lib.hid H1
          have HB2 := Lib.hid H2
          have HB3 := Lib.hid H3
          clear H1 H2 H3
          have HST : Hid (∀ j : Int, j = (k : Int) + 1 → _) := fun j hj => mix2_step HH.out HL8.out hlt HB1.out HB2.out HB3.out j hj
          generalize (V8.mk va vb vc vd ve vf vg vh).list = V at *
          generalize h.getD k 0 = hk0 at *
          generalize V.getD k 0 = vk0 at *
          go_wp2
          go_roundw
          case rel => exact HST.out _ rfl
          case measure => simp [intOf]; omega
        · obtain rfl : k = 8 := by omega
          have HT1 : Hid (Blk wr w.heap.size R 45) := by
            rw [part_end HH.out, ← HRL.out, ← HR.out] at H1
            exact H1
          have HL : Hid (R.length = 8) := by show _ = _; rw [HR.out, List.length_map, length_mixL _ _ HH.out]
          have HR1 : Hid (R.toArray.all (·.oneCell') = true) := by show _ = _; rw [HR.out]; exact wv_one (mixL h b)
          have HZ := Lib.hid H2
          have BB := Lib.hid H3
          clear H1 H2 H3 ix hlt hk
          go_wp2_with (first
            | (refine wpList_load_row rfl 45 (.tmp 2) rfl w.heap.size rfl 45 R.toArray (0, 0) _ HT1.out Tryd.underlying45 rfl (by rw [info41]; simp [HL.out]) ?_)
            | (refine wpList_store_row rfl 45 (.tmp 4) (.tmp 108) rfl (w.heap.size + 1 + 1) R.toArray rfl rfl 45 _ HZ.out (by rw [info41]; simp [HL.out]) (by simp [HL.out, length_padw]) HR1.out ?_))
          have HQ := setRow_heap wr (w.heap.size + 1 + 1) _ R.toArray _ _ HZ.out
          exact bodyPost_ret (v := .agg R.toArray) (results_cell_row Tryd.results25 _ _ (w.heap.size + 1 + 1) 45 R.toArray (0, 0) _ rfl HQ Tryd.underlying45 rfl (by rw [info41]; simp [HL.out])) rfl ⟨rfl, below_setRow BB.out (by omega) _⟩
end Go.Proofs.YtmmfnfndepijlaaDoor
