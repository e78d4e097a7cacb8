/-
  Begin of a log: what it answers and what it leaves. Conditions: as it says.
-/
import Derived.Test.YtkbjhnlihnakkaaLgLog
namespace Go.Proofs.Ytkbjhnlihnakkaa
open Go.RowKit

/-- the area lies on the disk -/
def OnDisk (s : Dsk) (f N : Int) : Prop := 0 ≤ f ∧ 1 ≤ N ∧ N ≤ (s.K.length : Int) - f
/-- a log that a call has made, and its disk -/
def LNew (w : World) (g b : Nat) (F : Nat → Prop) (s : Dsk) (l : Lg) (w' : World) : Prop :=
  w.heap.size ≤ b ∧ ∃ F', DiskAt w' g F' s ∧ Blk w' b (lgCells g l) 74 ∧ ¬ F' b ∧ Spared w w' F ∧ ∀ k, F' k → F k ∨ w.heap.size ≤ k
/-- what Begin answers -/
def BeginOut (w : World) (g : Nat) (F : Nat → Prop) (s : Dsk) (f N gen : Int) (d : List UInt8) (e : Ending) (w' : World) : Prop :=
  (¬ (OnDisk s f N ∧ 1 ≤ gen ∧ gen ≤ 1152921504606846976) ∧ e = .returned (.tuple #[.pointer none, .int .i64 1]) ∧ Below w.heap.size w w') ∨
  ((OnDisk s f N ∧ 1 ≤ gen ∧ gen ≤ 1152921504606846976) ∧ (Lg.new f.toNat N.toNat gen).err s d ≠ 0 ∧ e = .returned (.tuple #[.pointer none, .int .i64 ((Lg.new f.toNat N.toNat gen).err s d)]) ∧ Moved w g F ((Lg.new f.toNat N.toNat gen).dsk s d) w') ∨
  ((OnDisk s f N ∧ 1 ≤ gen ∧ gen ≤ 1152921504606846976) ∧ (Lg.new f.toNat N.toNat gen).err s d = 0 ∧ ∃ b, e = .returned (.tuple #[.pointer (some ⟨b, 0, none⟩), .int .i64 0]) ∧ LNew w g b F ((Lg.new f.toNat N.toNat gen).dsk s d) ((Lg.new f.toNat N.toNat gen).next s d) w')
theorem new_fits {s : Dsk} {f N gen : Int} (h : OnDisk s f N ∧ 1 ≤ gen ∧ gen ≤ 1152921504606846976) : (Lg.new f.toNat N.toNat gen).Fits s := by
  obtain ⟨⟨h1, h2, h3⟩, h4, h5⟩ := h
  exact ⟨by show 1 ≤ N.toNat; omega, by show f.toNat + N.toNat ≤ _; omega, Nat.zero_le _, Nat.le_refl _, h4, h5⟩

set_option maxRecDepth 100000 in
set_option maxHeartbeats 2000000 in
theorem begin_any (w : World) (g : Nat) (F : Nat → Prop) (s : Dsk) (f N gen : Int) (A : Option Addr) (d : List UInt8) (n c q : Nat) (h : DiskAt w g F s) (ha : Seen w A d) (hn : d.length = n) (hl : n ≤ 9223372036854775807) (hf : s.Few q) (hq : q ≤ 700000) (f0 : -9223372036854775808 ≤ f) (f1 : f ≤ 9223372036854775807) :
    Calls Try.prog 14 #[.pointer (some ⟨g, 0, none⟩), .int .i64 f, .int .i64 N, .int .i64 gen, .slice A n c] w (BeginOut w g F s f N gen d) := by
  have hK4 := h.ok.hi
  have HB := Lib.hid (boxA_below w g f N)
  have H1 := Lib.hid (h.still HB.out)
  have HV := Lib.hid (area_valid (boxA w g f N) g F s f N H1.out f0 f1)
  obtain ⟨c0, c1, c2⟩ := area_cells (boxA_blk w g f N)
  have HX1 := Lib.hid (boxA_blk w g f N)
  obtain ⟨v, hv⟩ : ∃ v, v = decide (0 ≤ f ∧ 1 ≤ N ∧ N ≤ (s.K.length : Int) - f) := ⟨_, rfl⟩
  rw [← hv] at HV
  have HVD := Lib.hid hv
  clear hv
  obtain ⟨w1, hw1⟩ : ∃ w1, w1 = boxA w g f N := ⟨_, rfl⟩
  have HW' : Hid (w.alloc (.cells #[.pointer (some ⟨g, 0, none⟩), .int .i64 f, .int .i64 N] 72) = w1) := hw1.symm
  rw [← hw1] at HB H1 HV HX1
  clear c0 c1 c2 hw1 h
  by_cases hgood : OnDisk s f N ∧ 1 ≤ gen ∧ gen ≤ 1152921504606846976
  · have hv' : v = true := by rw [HVD.out]; exact decide_eq_true hgood.1
    subst hv'
    have hg1 : ¬ gen < 1 := by omega
    have hg2 : ¬ 1152921504606846976 < gen := by omega
    have HG := Lib.hid hgood
    have hff : f = ((f.toNat : Nat) : Int) := by have := hgood.1.1; omega
    have hNN : N = ((N.toNat : Nat) : Int) := by have := hgood.1.2.1; omega
    have HFIT := Lib.hid (new_fits hgood)
    have HFF := Lib.hid hff
    have HNN := Lib.hid hNN
    clear hgood hff hNN HVD
    go_enter Try.func14, Try.ntmps14
    go_wp2_with fail
    rw [HW'.out]
    refine HV.out.mono ?_
    rintro e w2 ⟨rfl, hb2⟩
    have HB2 := Lib.hid (hop HB.out hb2)
    have H2 := Lib.hid (H1.out.still hb2)
    obtain ⟨c0, c1, c2⟩ := area_cells (HX1.out.below hb2 HX1.out.lt)
    have HLB := Lib.hid ((Below.refl w2.heap.size w2).alloc (Nat.le_refl _) (.cells #[.pointer (some ⟨g, 0, none⟩), .int .i64 f, .int .i64 N, .int .i64 gen, .int .i64 0, .int .i64 0, .bool false] 74))
    have HL : Hid (LogOn (w2.alloc (.cells #[.pointer (some ⟨g, 0, none⟩), .int .i64 f, .int .i64 N, .int .i64 gen, .int .i64 0, .int .i64 0, .bool false] 74)) g w2.heap.size F s (Lg.new f.toNat N.toNat gen)) := by
      refine ⟨H2.out.still HLB.out, ?_, fun hF => by have := H2.out.lt _ hF; omega, HFIT.out⟩
      have := Blk.new w2 (lgCells g (Lg.new f.toNat N.toNat gen)) 74
      have e : lgCells g (Lg.new f.toNat N.toNat gen) = [.pointer (some ⟨g, 0, none⟩), .int .i64 f, .int .i64 N, .int .i64 gen, .int .i64 0, .int .i64 0, .bool false] := by
        simp only [lgCells, Lg.new]
        rw [← HFF.out, ← HNN.out]
        rfl
      rw [e] at this ⊢
      exact this
    have HAP := Lib.hid (append_any _ g w2.heap.size F s (Lg.new f.toNat N.toNat gen) A d n c q HL.out (ha.below (hop HB2.out HLB.out)) hn hl hf hq)
    obtain ⟨w3, hw3⟩ : ∃ w3, w3 = w2.alloc (.cells #[.pointer (some ⟨g, 0, none⟩), .int .i64 f, .int .i64 N, .int .i64 gen, .int .i64 0, .int .i64 0, .bool false] 74) := ⟨_, rfl⟩
    have HSZ : Hid (w3.heap.size = w2.heap.size + 1) := by show _ = _; rw [hw3]; simp
    rw [← hw3] at HAP HLB HL
    have HW3 : Hid (w2.alloc (.cells #[.pointer (some ⟨g, 0, none⟩), .int .i64 f, .int .i64 N, .int .i64 gen, .int .i64 0, .int .i64 0, .bool false] 74) = w3) := hw3.symm
    clear hb2 hw3
    go_wp2_with fail
    rw [HW3.out]
    obtain ⟨E, hE⟩ : ∃ E, E = (Lg.new f.toNat N.toNat gen).err s d := ⟨_, rfl⟩
    rw [← hE] at HAP
    have HE := Lib.hid hE
    clear hE c0 c1 c2 ha hn hf hg1 hg2
    refine HAP.out.mono ?_
    rintro e w4 ⟨rfl, F4, h41, h42, h43, h44, h45⟩
    have HNF2 : ¬ F w2.heap.size := fun hF => by have := H2.out.lt _ hF; omega
    have HS4 : Hid (Spared w w4 F) := by
      have h1 : Spared w w3 F := .of_below (hop HB2.out HLB.out) F
      exact h1.trans h44 (fun k hk => hk.elim .inl (fun e => .inr (by rw [e]; exact HB2.out.size)))
    have HF4 : Hid (∀ k, F4 k → F k ∨ w.heap.size ≤ k) := fun k hk => (h45 k hk).elim .inl (fun h => .inr (by have := HB2.out.size; rw [HSZ.out] at h; omega))
    have H41 := Lib.hid h41
    have H42 := Lib.hid h42
    have H43 := Lib.hid h43
    clear h41 h42 h43 h44 h45 HNF2 HAP
    by_cases he : E = 0
    · have HE0 : Hid ((Lg.new f.toNat N.toNat gen).err s d = 0) := by show _ = _; rw [← HE.out]; exact he
      subst he
      go_wp2
      go_ret2
      exact .inr (.inr ⟨HG.out, HE0.out, _, rfl, HB2.out.size, F4, H41.out, H42.out, H43.out, HS4.out, HF4.out⟩)
    · have hne : (E == 0) = false := by rw [beq_eq_false_iff_ne]; exact he
      have HE0 : Hid ((Lg.new f.toNat N.toNat gen).err s d ≠ 0) := by show _ ≠ _; rw [← HE.out]; exact he
      go_wp2
      go_ret2
      exact .inr (.inl ⟨HG.out, HE0.out, by rw [← HE.out]; rfl, F4, H41.out, HS4.out, HF4.out⟩)
  · have HG := Lib.hid hgood
    by_cases hv' : v = true
    · subst hv'
      have hod : 0 ≤ f ∧ 1 ≤ N ∧ N ≤ (s.K.length : Int) - f := of_decide_eq_true HVD.out.symm
      by_cases hg1 : gen < 1
      · have d1 : decide (gen < 1) = true := decide_eq_true hg1
        clear hgood hod
        go_enter Try.func14, Try.ntmps14
        go_wp2_with fail
        rw [HW'.out]
        refine HV.out.mono ?_
        rintro e w2 ⟨rfl, hb2⟩
        have HB2 := Lib.hid (hop HB.out hb2)
        clear hb2
        go_wp2
        go_ret2
        exact .inl ⟨HG.out, rfl, HB2.out⟩
      · have hg2 : 1152921504606846976 < gen := by
          rcases Int.lt_or_le 1152921504606846976 gen with h | h
          · exact h
          · exact absurd ⟨hod, by omega, h⟩ hgood
        have d1 : decide (gen < 1) = false := decide_eq_false hg1
        have d2 : decide (1152921504606846976 < gen) = true := decide_eq_true hg2
        clear hgood hod
        go_enter Try.func14, Try.ntmps14
        go_wp2_with fail
        rw [HW'.out]
        refine HV.out.mono ?_
        rintro e w2 ⟨rfl, hb2⟩
        have HB2 := Lib.hid (hop HB.out hb2)
        clear hb2
        go_wp2
        go_ret2
        exact .inl ⟨HG.out, rfl, HB2.out⟩
    · have hv' : v = false := by simpa using hv'
      subst hv'
      clear hgood
      go_enter Try.func14, Try.ntmps14
      go_wp2_with fail
      rw [HW'.out]
      refine HV.out.mono ?_
      rintro e w2 ⟨rfl, hb2⟩
      have HB2 := Lib.hid (hop HB.out hb2)
      clear hb2
      go_wp2
      go_ret2
      exact .inl ⟨HG.out, rfl, HB2.out⟩
end Go.Proofs.Ytkbjhnlihnakkaa
