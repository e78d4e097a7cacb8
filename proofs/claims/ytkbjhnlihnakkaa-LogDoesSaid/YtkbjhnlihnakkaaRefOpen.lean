/-
  The document's log: area, add, Append, Room. Conditions: how the log and its disk lie in memory; as each says.
  The document's Begin of a log. Conditions: as it says.
  The document's Open of a log: what it answers, and that it leaves all as it was. Conditions: as it says.
-/
import Derived.Test.YtkbjhnlihnakkaaRefLay
import Derived.Test.YtkbjhnlihnakkaaLgBegin
import Derived.Test.YtkbjhnlihnakkaaRefF
import Derived.Test.YtkbjhnlihnakkaaLgOpen
import Derived.Test.YtkbjhnlihnakkaaRefDecF
import Derived.Deep.CutRange
namespace Go.Proofs.Ytkbjhnlihnakkaa
open Go.RowKit

/-- what a call leaves of the document's log and its disk -/
def LRMoved (w : World) (r b : Nat) (G : Nat → Prop) (s : Dsk) (l : Lg) (w' : World) : Prop :=
  ∃ G', RefAt w' r G' s ∧ Blk w' b (lgCells r l) 80 ∧ ¬ G' b ∧ Spared w w' (fun k => G k ∨ k = b) ∧ ∀ k, G' k → G k ∨ w.heap.size ≤ k
/-- the document's log and its disk -/
structure LogR (w : World) (r b : Nat) (G : Nat → Prop) (s : Dsk) (l : Lg) : Prop where
  disk : RefAt w r G s
  blk : Blk w b (lgCells r l) 80
  not : ¬ G b
  fits : l.Fits s

section
variable {w : World} {r b : Nat} {G : Nat → Prop} {s : Dsk} {l : Lg}
theorem LogR.still {w' : World} (h : LogR w r b G s l) (hb : Below w.heap.size w w') : LogR w' r b G s l := ⟨h.disk.still hb, h.blk.below hb h.blk.lt, h.not, h.fits⟩
theorem refRoom_any (h : Blk w b (lgCells r l) 80) (hf : l.fin ≤ l.blocks * 64) (hb : l.blocks ≤ 4096) : Calls Try.prog 44 #[.pointer (some ⟨b, 0, none⟩)] w fun e w' => e = .returned (.int .i64 (l.room : Int)) ∧ ∃ m, w' = w.drewN m := by
  obtain ⟨_, _, c2, _, _, c5, _⟩ := lg_cells h
  have HR : Hid ((l.room : Int) = (l.blocks : Int) * 64 - (l.fin : Int)) := by show (l.room : Int) = _; unfold Lg.room; omega
  obtain ⟨r, hr⟩ : ∃ r : Int, r = (l.room : Int) := ⟨_, rfl⟩
  rw [← hr] at HR ⊢
  clear hr
  have hw1 : IntKind.i64.wrap ((l.blocks : Int) * 64) = (l.blocks : Int) * 64 := by rw [IntKind.wrap_i64]; omega
  have hw2 : IntKind.i64.wrap ((l.blocks : Int) * 64 - (l.fin : Int)) = (l.blocks : Int) * 64 - (l.fin : Int) := by rw [IntKind.wrap_i64]; omega
  clear h
  go_enter Try.func44, Try.ntmps44
  go_wp2
  go_quiet (fail)
  go_wp2
  go_ret
  exact ⟨by rw [HR.out]; rfl, _, rfl⟩
end

set_option maxRecDepth 100000 in
set_option maxHeartbeats 1000000 in
theorem refArea_any (w : World) (r : Nat) (G : Nat → Prop) (s : Dsk) (f N : Int) (h : RefAt w r G s) :
    Calls Try.prog 38 #[.pointer (some ⟨r, 0, none⟩), .int .i64 f, .int .i64 N] w fun e w' => e = .returned (.bool (decide (0 ≤ f ∧ 1 ≤ N ∧ N ≤ (s.K.length : Int) - f))) ∧ Below w.heap.size w w' := by
  obtain ⟨vK, vM, PK, PM, armed, left, h⟩ := h
  obtain ⟨⟨A0, c0', rfl, _⟩, _⟩ := h.forms
  have hK4 := h.hi
  obtain ⟨c0, _⟩ := h.cells
  obtain ⟨v, hv⟩ : ∃ v, v = decide (0 ≤ f ∧ 1 ≤ N ∧ N ≤ (s.K.length : Int) - f) := ⟨_, rfl⟩
  rw [← hv]
  have HV := Lib.hid hv
  clear h hv
  by_cases h1 : 1 ≤ N
  · by_cases hN : N ≤ (s.K.length : Int)
    · by_cases h0 : 0 ≤ f
      · have hw : IntKind.i64.wrap ((s.K.length : Int) - N) = (s.K.length : Int) - N := by rw [IntKind.wrap_i64]; omega
        by_cases h3 : f ≤ (s.K.length : Int) - N
        · have hb : v = true := HV.out.trans (decide_eq_true (by omega))
          subst hb
          go_enter Try.func38, Try.ntmps38
          go_wp2
          go_ret
          exact ⟨rfl, Below.refl _ _⟩
        · have hb : v = false := HV.out.trans (decide_eq_false (by omega))
          subst hb
          go_enter Try.func38, Try.ntmps38
          go_wp2
          go_ret
          exact ⟨rfl, Below.refl _ _⟩
      · have hb : v = false := HV.out.trans (decide_eq_false (by omega))
        subst hb
        go_enter Try.func38, Try.ntmps38
        go_wp2
        go_ret
        exact ⟨rfl, Below.refl _ _⟩
    · by_cases h0 : 0 ≤ f
      · have hb : v = false := HV.out.trans (decide_eq_false (by omega))
        subst hb
        go_enter Try.func38, Try.ntmps38
        go_wp2
        go_ret
        exact ⟨rfl, Below.refl _ _⟩
      · have hb : v = false := HV.out.trans (decide_eq_false (by omega))
        subst hb
        go_enter Try.func38, Try.ntmps38
        go_wp2
        go_ret
        exact ⟨rfl, Below.refl _ _⟩
  · have hb : v = false := HV.out.trans (decide_eq_false (by omega))
    subst hb
    go_enter Try.func38, Try.ntmps38
    go_wp2
    go_ret
    exact ⟨rfl, Below.refl _ _⟩

set_option maxRecDepth 100000 in
set_option maxHeartbeats 2000000 in
theorem refAdd_any (w : World) (r b : Nat) (G : Nat → Prop) (s : Dsk) (l : Lg) (A : Option Addr) (d : List UInt8) (n c q : Nat) (h : LogR w r b G s l) (hdn : l.down = false) (ha : Seen w A d) (hn : d.length = n) (hl : n ≤ 9223372036854775807) (hf : s.Few q) (hq : q ≤ 700000) :
    Calls Try.prog 36 #[.pointer (some ⟨b, 0, none⟩), .slice A n c] w fun e w' => e = .returned (.int .i64 (l.err s d)) ∧ LRMoved w r b G (l.dsk s d) (l.next s d) w' := by
  have HSTAY : Hid (∀ w', Below w.heap.size w w' → LRMoved w r b G s l w') := fun w' hb => ⟨G, h.disk.still hb, h.blk.below hb h.blk.lt, h.not, .of_below hb _, fun _ h => .inl h⟩
  have H := Lib.hid h
  have hK4 := h.disk.ok.hi
  have hfin := h.fits.fin
  have hbl := h.fits.area
  have hsq := h.fits.seq
  have hg1 := h.fits.gen1
  have hg2 := h.fits.gen2
  obtain ⟨c0, c1, c2, c3, c4, c5, c6⟩ := lg_cells h.blk
  have f4 := h.blk.free 4
  have f5 := h.blk.free 5
  have f6 := h.blk.free 6
  have HA := Lib.hid ha
  have HN := Lib.hid hn
  have HF := Lib.hid hf
  have HD := Lib.hid hdn
  clear h ha hn hf hdn
  have HENC := Lib.hid (refEncode_any l.gen (l.seq : Int) A d n c w.drew (HA.out.below (Below.refl _ _).drew) HN.out hl (by omega) (by omega) (by omega) (by omega))
  have HCODE : Hid (l.code d = encF l.gen (l.seq : Int) d) := rfl
  rw [← HCODE.out] at HENC
  have hcf := l.code_fits d
  go_enter Try.func36, Try.ntmps36
  go_wp2
  go_still_tail 10, (by kernel_rfl)
  go_wp2_with fail
  refine HENC.out.mono ?_
  rintro e w1 ⟨A1, n1, c1', rfl, hm1⟩
  have HM1 := Lib.hid hm1
  have HB1 : Hid (Below w.heap.size w w1) := undrew hm1.2.2
  have H1 := Lib.hid (H.out.still HB1.out)
  obtain ⟨c0, c1, c2, c3, c4, c5, c6⟩ := lg_cells H1.out.blk
  have f4 := H1.out.blk.free 4
  have f5 := H1.out.blk.free 5
  have f6 := H1.out.blk.free 6
  have hn1 : n1 ≤ 65560 := by rw [← hm1.1]; exact hcf
  have HL1 := Lib.hid hm1.1
  have hw64 : IntKind.i64.wrap ((l.blocks : Int) * 64) = (l.blocks : Int) * 64 := by rw [IntKind.wrap_i64]; omega
  have hw65 : IntKind.i64.wrap ((l.blocks : Int) * 64 - (l.fin : Int)) = (l.blocks : Int) * 64 - (l.fin : Int) := by rw [IntKind.wrap_i64]; omega
  have hroom : l.room = l.blocks * 64 - l.fin := rfl
  clear hm1 HENC
  by_cases hfull : l.full d = true
  · have HE : Hid (l.err s d = 4 ∧ l.dsk s d = s ∧ l.next s d = l) := by
      unfold Lg.err Lg.dsk Lg.next
      rw [HD.out, hfull]
      exact ⟨rfl, rfl, rfl⟩
    have hfl : n1 = 0 ∨ l.room < n1 := by
      unfold Lg.full at hfull
      rw [Bool.or_eq_true, decide_eq_true_iff, decide_eq_true_iff, HL1.out] at hfull
      exact hfull
    clear hfull
    by_cases h0 : n1 = 0
    · have hz : ((n1 : Int) == 0) = true := by rw [h0]; rfl
      clear h0 hfl hroom
      go_wp2
      go_quiet (fail)
      go_wp2
      go_ret
      rw [HE.out.1, HE.out.2.1, HE.out.2.2]
      exact ⟨rfl, HSTAY.out _ (below_drewN HB1.out _)⟩
    · have hz : ((n1 : Int) == 0) = false := by rw [beq_eq_false_iff_ne]; omega
      have hr : (l.blocks : Int) * 64 - (l.fin : Int) < (n1 : Int) := by omega
      clear h0 hfl hroom
      go_wp2
      go_quiet (fail)
      go_wp2
      go_ret
      rw [HE.out.1, HE.out.2.1, HE.out.2.2]
      exact ⟨rfl, HSTAY.out _ (below_drewN HB1.out _)⟩
  have hfull' : l.full d = false := by simpa using hfull
  obtain ⟨p1, p2, p3, p4⟩ := Lg.full_false hfull'
  rw [HL1.out] at p1 p2
  have hz : ((n1 : Int) == 0) = false := by rw [beq_eq_false_iff_ne]; omega
  have hr : ¬ (l.blocks : Int) * 64 - (l.fin : Int) < (n1 : Int) := by omega
  have HERR : Hid (l.err s d = s.layErr (laidL s.view l.f l.blocks l.fin (l.code d)) (l.f + l.fin / 64) ∧ l.dsk s d = s.lay (laidL s.view l.f l.blocks l.fin (l.code d)) (l.f + l.fin / 64)) := by
    unfold Lg.err Lg.dsk
    rw [HD.out, hfull']
    exact ⟨rfl, rfl⟩
  have HNX : Hid (l.next s d = if l.err s d = 0 then l.put d else { l with down := true }) := by
    show l.next s d = _
    unfold Lg.next
    rw [HD.out, hfull']
    rfl
  have HLAY := Lib.hid (fun w2 (hb2 : Below w1.heap.size w1 w2) => refLay_any w2 r b G s l.f l.blocks l.fin l.gen (l.seq : Int) (l.fin : Int) l.down A1 (l.code d) n1 c1' q (H1.out.disk.still hb2) (H1.out.still hb2).blk H.out.not (HM1.out.seen.below hb2) HL1.out p1 (by omega) hbl (by omega) HF.out (by omega))
  rw [← HERR.out.1, ← HERR.out.2] at HLAY
  have hcs : l.err s d = 0 ∨ l.err s d = 5 := by rw [HERR.out.1]; exact layErr_cases _ _ _
  obtain ⟨E, hE⟩ : ∃ E, E = l.err s d := ⟨_, rfl⟩
  rw [← hE] at hcs HNX HLAY
  have HE := Lib.hid hE
  clear hfull hfull' p1 p2 p3 p4 hE hcf hroom
  go_wp2
  go_quiet (fail)
  go_wp2_with fail
  refine (HLAY.out _ (below_drewN (Below.refl _ _) _)).mono ?_
  rintro e w3 ⟨rfl, hp3⟩
  have P3 : Hid (RMoved w r G (l.dsk s d) w3) := (hp3.before (below_drewN (Below.refl _ _) _)).before HB1.out
  have HX3 := Lib.hid (P3.out.blk H.out.blk H.out.not)
  obtain ⟨_, _, _, _, d4, d5, _⟩ := lg_cells HX3.out
  have f4' := HX3.out.free 4
  have f5' := HX3.out.free 5
  have f6' := HX3.out.free 6
  clear hp3 HLAY hz hr c0 c1 c2 c3 c4 c5 c6 f4 f5 f6
  rcases hcs with h0 | h5
  · subst h0
    have hw1 : IntKind.i64.wrap ((l.fin : Int) + (n1 : Int)) = (l.fin : Int) + (n1 : Int) := by rw [IntKind.wrap_i64]; omega
    have hw2 : IntKind.i64.wrap ((l.seq : Int) + 1) = (l.seq : Int) + 1 := by rw [IntKind.wrap_i64]; omega
    have HB3 : Hid (Blk ((w3.setCell ⟨b, 4, none⟩ (.int .i64 ((l.seq : Int) + 1))).setCell ⟨b, 5, none⟩ (.int .i64 ((l.fin : Int) + (n1 : Int)))) b (lgCells r (l.put d)) 80) := by
      have := (HX3.out.set 4 (.int .i64 ((l.seq : Int) + 1))).set 5 (.int .i64 ((l.fin : Int) + (n1 : Int)))
      have e : lgCells r (l.put d) = ((lgCells r l).set 4 (.int .i64 ((l.seq : Int) + 1))).set 5 (.int .i64 ((l.fin : Int) + (n1 : Int))) := by
        have e1 : (((l.fin + n1 : Nat)) : Int) = (l.fin : Int) + (n1 : Int) := by omega
        have e2 : (((l.seq + 1 : Nat)) : Int) = (l.seq : Int) + 1 := by omega
        simp only [lgCells, Lg.put, HL1.out, e1, e2, List.set_cons_succ, List.set_cons_zero]
      show Blk _ b (lgCells r (l.put d)) _
      rw [e]; exact this
    go_wp2
    go_ret
    obtain ⟨F3, h31, h32, h33⟩ := P3.out
    have hbw := H.out.blk.lt
    have hnF3 : ¬ F3 b := fun hf => (h33 b hf).elim H.out.not (fun h => by omega)
    have hs5 : Spared w3 ((w3.setCell ⟨b, 4, none⟩ (.int .i64 ((l.seq : Int) + 1))).setCell ⟨b, 5, none⟩ (.int .i64 ((l.fin : Int) + (n1 : Int)))) (· = b) := ((Spared.refl w3 (· = b)).setCell rfl 4 _).setCell rfl 5 _
    refine ⟨by rw [← HE.out]; rfl, F3, h31.apart hs5 (fun k hk e => hnF3 (by rw [← e]; exact hk)), ?_, hnF3, ?_, h33⟩
    · rw [HNX.out]; exact HB3.out
    · exact (h32.mono (fun _ h => .inl h)).trans (hs5.mono (G := fun k => G k ∨ k = b) (fun _ h => .inr h)) (fun _ h => .inl h)
  · subst h5
    have HB3 : Hid (Blk (w3.setCell ⟨b, 6, none⟩ (.bool true)) b (lgCells r { l with down := true }) 80) := HX3.out.set 6 (.bool true)
    go_wp2
    go_ret
    obtain ⟨F3, h31, h32, h33⟩ := P3.out
    have hbw := H.out.blk.lt
    have hnF3 : ¬ F3 b := fun hf => (h33 b hf).elim H.out.not (fun h => by omega)
    have hs5 : Spared w3 (w3.setCell ⟨b, 6, none⟩ (.bool true)) (· = b) := (Spared.refl w3 (· = b)).setCell rfl 6 _
    refine ⟨by rw [← HE.out]; rfl, F3, h31.apart hs5 (fun k hk e => hnF3 (by rw [← e]; exact hk)), ?_, hnF3, ?_, h33⟩
    · rw [HNX.out]; exact HB3.out
    · exact (h32.mono (fun _ h => .inl h)).trans (hs5.mono (G := fun k => G k ∨ k = b) (fun _ h => .inr h)) (fun _ h => .inl h)

set_option maxRecDepth 100000 in
set_option maxHeartbeats 1000000 in
theorem refAppend_any (w : World) (r b : Nat) (G : Nat → Prop) (s : Dsk) (l : Lg) (A : Option Addr) (d : List UInt8) (n c q : Nat) (h : LogR w r b G s l) (ha : Seen w A d) (hn : d.length = n) (hl : n ≤ 9223372036854775807) (hf : s.Few q) (hq : q ≤ 700000) :
    Calls Try.prog 13 #[.pointer (some ⟨b, 0, none⟩), .slice A n c] w fun e w' => e = .returned (.int .i64 (l.err s d)) ∧ LRMoved w r b G (l.dsk s d) (l.next s d) w' := by
  have HSTAY : Hid (∀ w', Below w.heap.size w w' → LRMoved w r b G s l w') := fun w' hb => ⟨G, h.disk.still hb, h.blk.below hb h.blk.lt, h.not, .of_below hb _, fun _ h => .inl h⟩
  obtain ⟨_, _, _, _, _, _, c6⟩ := lg_cells h.blk
  by_cases hd : l.down = true
  · have HE : Hid (l.err s d = 5 ∧ l.dsk s d = s ∧ l.next s d = l) := by
      unfold Lg.err Lg.dsk Lg.next
      rw [hd]
      exact ⟨rfl, rfl, rfl⟩
    rw [hd] at c6
    clear hd
    go_enter Try.func13, Try.ntmps13
    go_wp2
    go_ret
    rw [HE.out.1, HE.out.2.1, HE.out.2.2]
    exact ⟨rfl, HSTAY.out _ (Below.refl _ _)⟩
  have hd' : l.down = false := by cases h : l.down <;> simp_all
  have HAD := Lib.hid (refAdd_any w r b G s l A d n c q h hd' ha hn hl hf hq)
  rw [hd'] at c6
  obtain ⟨E, hE⟩ : ∃ E, E = l.err s d := ⟨_, rfl⟩
  rw [← hE] at HAD
  have HE := Lib.hid hE
  clear hd hd' h ha hn hf hE
  go_enter Try.func13, Try.ntmps13
  go_wp2_with fail
  refine HAD.out.mono ?_
  rintro e w2 ⟨rfl, hp⟩
  have P := Lib.hid hp
  clear hp HAD
  go_wp2
  go_ret
  exact ⟨by rw [← HE.out]; rfl, P.out⟩
end Go.Proofs.Ytkbjhnlihnakkaa

namespace Go.Proofs.Ytkbjhnlihnakkaa
open Go.RowKit

/-- the document's log that a call has made, and its disk -/
def LRNew (w : World) (r b : Nat) (G : Nat → Prop) (s : Dsk) (l : Lg) (w' : World) : Prop :=
  w.heap.size ≤ b ∧ ∃ G', RefAt w' r G' s ∧ Blk w' b (lgCells r l) 80 ∧ ¬ G' b ∧ Spared w w' G ∧ ∀ k, G' k → G k ∨ w.heap.size ≤ k
/-- what the document's Begin answers -/
def RBeginOut (w : World) (r : Nat) (G : Nat → Prop) (s : Dsk) (f N gen : Int) (d : List UInt8) (e : Ending) (w' : World) : Prop :=
  (¬ (OnDisk s f N ∧ 1 ≤ gen ∧ gen ≤ 1152921504606846976) ∧ e = .returned (.tuple #[.pointer none, .int .i64 1]) ∧ Below w.heap.size w w') ∨
  ((OnDisk s f N ∧ 1 ≤ gen ∧ gen ≤ 1152921504606846976) ∧ (Lg.new f.toNat N.toNat gen).err s d ≠ 0 ∧ e = .returned (.tuple #[.pointer none, .int .i64 ((Lg.new f.toNat N.toNat gen).err s d)]) ∧ RMoved w r G ((Lg.new f.toNat N.toNat gen).dsk s d) w') ∨
  ((OnDisk s f N ∧ 1 ≤ gen ∧ gen ≤ 1152921504606846976) ∧ (Lg.new f.toNat N.toNat gen).err s d = 0 ∧ ∃ b, e = .returned (.tuple #[.pointer (some ⟨b, 0, none⟩), .int .i64 0]) ∧ LRNew w r b G ((Lg.new f.toNat N.toNat gen).dsk s d) ((Lg.new f.toNat N.toNat gen).next s d) w')

set_option maxRecDepth 100000 in
set_option maxHeartbeats 2000000 in
theorem refBegin_any (w : World) (r : Nat) (G : Nat → Prop) (s : Dsk) (f N gen : Int) (A : Option Addr) (d : List UInt8) (n c q : Nat) (h : RefAt w r G s) (ha : Seen w A d) (hn : d.length = n) (hl : n ≤ 9223372036854775807) (hf : s.Few q) (hq : q ≤ 700000) :
    Calls Try.prog 15 #[.pointer (some ⟨r, 0, none⟩), .int .i64 f, .int .i64 N, .int .i64 gen, .slice A n c] w (RBeginOut w r G s f N gen d) := by
  have hK4 := h.ok.hi
  have H1 := Lib.hid h
  have HV := Lib.hid (refArea_any w r G s f N h)
  obtain ⟨v, hv⟩ : ∃ v, v = decide (0 ≤ f ∧ 1 ≤ N ∧ N ≤ (s.K.length : Int) - f) := ⟨_, rfl⟩
  rw [← hv] at HV
  have HVD := Lib.hid hv
  clear hv h
  by_cases hgood : OnDisk s f N ∧ 1 ≤ gen ∧ gen ≤ 1152921504606846976
  · have hv' : v = true := by rw [HVD.out]; exact decide_eq_true hgood.1
    subst hv'
    have hg1 : ¬ gen < 1 := by omega
    have hg2 : ¬ 1152921504606846976 < gen := by omega
    have HG := Lib.hid hgood
    have hff : f = ((f.toNat : Nat) : Int) := by have := hgood.1.1; omega
    have hNN : N = ((N.toNat : Nat) : Int) := by have := hgood.1.2.1; omega
    have HFIT := Lib.hid (new_fits hgood)
    have HFF := Lib.hid hff
    have HNN := Lib.hid hNN
    clear hgood hff hNN HVD
    go_enter Try.func15, Try.ntmps15
    go_wp2_with fail
    refine HV.out.mono ?_
    rintro e w2 ⟨rfl, hb2⟩
    have HB2 := Lib.hid hb2
    have H2 := Lib.hid (H1.out.still hb2)
    have HLB := Lib.hid ((Below.refl w2.heap.size w2).alloc (Nat.le_refl _) (.cells #[.pointer (some ⟨r, 0, none⟩), .int .i64 f, .int .i64 N, .int .i64 gen, .int .i64 0, .int .i64 0, .bool false] 80))
    have HL : Hid (LogR (w2.alloc (.cells #[.pointer (some ⟨r, 0, none⟩), .int .i64 f, .int .i64 N, .int .i64 gen, .int .i64 0, .int .i64 0, .bool false] 80)) r w2.heap.size G s (Lg.new f.toNat N.toNat gen)) := by
      refine ⟨H2.out.still HLB.out, ?_, fun hF => by have := H2.out.lt _ hF; omega, HFIT.out⟩
      have := Blk.new w2 (lgCells r (Lg.new f.toNat N.toNat gen)) 80
      have e : lgCells r (Lg.new f.toNat N.toNat gen) = [.pointer (some ⟨r, 0, none⟩), .int .i64 f, .int .i64 N, .int .i64 gen, .int .i64 0, .int .i64 0, .bool false] := by
        simp only [lgCells, Lg.new]
        rw [← HFF.out, ← HNN.out]
        rfl
      rw [e] at this ⊢
      exact this
    have HAP := Lib.hid (refAdd_any _ r w2.heap.size G s (Lg.new f.toNat N.toNat gen) A d n c q HL.out rfl (ha.below (hop HB2.out HLB.out)) hn hl hf hq)
    obtain ⟨w3, hw3⟩ : ∃ w3, w3 = w2.alloc (.cells #[.pointer (some ⟨r, 0, none⟩), .int .i64 f, .int .i64 N, .int .i64 gen, .int .i64 0, .int .i64 0, .bool false] 80) := ⟨_, rfl⟩
    have HSZ : Hid (w3.heap.size = w2.heap.size + 1) := by show _ = _; rw [hw3]; simp
    rw [← hw3] at HAP HLB HL
    have HW3 : Hid (w2.alloc (.cells #[.pointer (some ⟨r, 0, none⟩), .int .i64 f, .int .i64 N, .int .i64 gen, .int .i64 0, .int .i64 0, .bool false] 80) = w3) := hw3.symm
    clear hb2 hw3
    go_wp2_with fail
    rw [HW3.out]
    obtain ⟨E, hE⟩ : ∃ E, E = (Lg.new f.toNat N.toNat gen).err s d := ⟨_, rfl⟩
    rw [← hE] at HAP
    have HE := Lib.hid hE
    clear hE ha hn hf hg1 hg2
    refine HAP.out.mono ?_
    rintro e w4 ⟨rfl, F4, h41, h42, h43, h44, h45⟩
    have HS4 : Hid (Spared w w4 G) := by
      have h1 : Spared w w3 G := .of_below (hop HB2.out HLB.out) G
      exact h1.trans h44 (fun k hk => hk.elim .inl (fun e => .inr (by rw [e]; exact HB2.out.size)))
    have HF4 : Hid (∀ k, F4 k → G k ∨ w.heap.size ≤ k) := fun k hk => (h45 k hk).elim .inl (fun h => .inr (by have := HB2.out.size; rw [HSZ.out] at h; omega))
    have H41 := Lib.hid h41
    have H42 := Lib.hid h42
    have H43 := Lib.hid h43
    clear h41 h42 h43 h44 h45 HAP
    by_cases he : E = 0
    · have HE0 : Hid ((Lg.new f.toNat N.toNat gen).err s d = 0) := by show _ = _; rw [← HE.out]; exact he
      subst he
      go_wp2
      go_ret2
      exact .inr (.inr ⟨HG.out, HE0.out, _, rfl, HB2.out.size, F4, H41.out, H42.out, H43.out, HS4.out, HF4.out⟩)
    · have hne : (E == 0) = false := by rw [beq_eq_false_iff_ne]; exact he
      have HE0 : Hid ((Lg.new f.toNat N.toNat gen).err s d ≠ 0) := by show _ ≠ _; rw [← HE.out]; exact he
      go_wp2
      go_ret2
      exact .inr (.inl ⟨HG.out, HE0.out, by rw [← HE.out]; rfl, F4, H41.out, HS4.out, HF4.out⟩)
  · have HG := Lib.hid hgood
    by_cases hv' : v = true
    · subst hv'
      have hod : 0 ≤ f ∧ 1 ≤ N ∧ N ≤ (s.K.length : Int) - f := of_decide_eq_true HVD.out.symm
      by_cases hg1 : gen < 1
      · have d1 : decide (gen < 1) = true := decide_eq_true hg1
        clear hgood hod
        go_enter Try.func15, Try.ntmps15
        go_wp2_with fail
        refine HV.out.mono ?_
        rintro e w2 ⟨rfl, hb2⟩
        have HB2 := Lib.hid hb2
        clear hb2
        go_wp2
        go_ret2
        exact .inl ⟨HG.out, rfl, HB2.out⟩
      · have hg2 : 1152921504606846976 < gen := by
          rcases Int.lt_or_le 1152921504606846976 gen with h | h
          · exact h
          · exact absurd ⟨hod, by omega, h⟩ hgood
        have d1 : decide (gen < 1) = false := decide_eq_false hg1
        have d2 : decide (1152921504606846976 < gen) = true := decide_eq_true hg2
        clear hgood hod
        go_enter Try.func15, Try.ntmps15
        go_wp2_with fail
        refine HV.out.mono ?_
        rintro e w2 ⟨rfl, hb2⟩
        have HB2 := Lib.hid hb2
        clear hb2
        go_wp2
        go_ret2
        exact .inl ⟨HG.out, rfl, HB2.out⟩
    · have hv' : v = false := by simpa using hv'
      subst hv'
      clear hgood
      go_enter Try.func15, Try.ntmps15
      go_wp2_with fail
      refine HV.out.mono ?_
      rintro e w2 ⟨rfl, hb2⟩
      have HB2 := Lib.hid hb2
      clear hb2
      go_wp2
      go_ret2
      exact .inl ⟨HG.out, rfl, HB2.out⟩
end Go.Proofs.Ytkbjhnlihnakkaa

namespace Go.Proofs.Ytkbjhnlihnakkaa
open Go.RowKit

/-- what the document's Open answers of a log that is there -/
def RFound (w : World) (r : Nat) (G : Nat → Prop) (f N : Nat) (gen : Int) (ds : List (List UInt8)) (e : Ending) (w' : World) : Prop :=
  ∃ b ps v, e = .returned (.tuple #[.pointer (some ⟨b, 0, none⟩), v, .int .i64 0]) ∧ bytesOf ps = ds ∧ w.heap.size ≤ b ∧ Blk w' b (lgCells r (Lg.found f N gen ds)) 80 ∧ RecsAt w' 22 (fun k => (G k ∨ k < w.heap.size) ∨ k = b) ps v ∧ Below w.heap.size w w'
def ROpenOut (w : World) (r : Nat) (G : Nat → Prop) (s : Dsk) (f N : Int) (e : Ending) (w' : World) : Prop :=
  (¬ OnDisk s f N ∧ e = .returned (.tuple #[.pointer none, .slice none 0 0, .int .i64 1]) ∧ Below w.heap.size w w') ∨
  (OnDisk s f N ∧ s.off = true ∧ e = .returned (.tuple #[.pointer none, .slice none 0 0, .int .i64 5]) ∧ Below w.heap.size w w') ∨
  (OnDisk s f N ∧ s.off = false ∧ openL (s.bytes f.toNat N.toNat) = none ∧ e = .returned (.tuple #[.pointer none, .slice none 0 0, .int .i64 13]) ∧ Below w.heap.size w w') ∨
  (OnDisk s f N ∧ s.off = false ∧ ∃ gen ds, openL (s.bytes f.toNat N.toNat) = some (gen, ds) ∧ RFound w r G f.toNat N.toNat gen ds e w')
theorem refDecode_named (A : Option Addr) (b : List UInt8) (n c : Nat) (w : World) (hn : b.length = n) (hs : Seen w A b) (hc : n ≤ c) (hb : n ≤ 140737488351232) :
    Calls Try.prog 42 #[.slice A n c] w (DecNamed w (decF b)) :=
  (refDecode_made A b n c w hn hc hb hs).mono fun _ _ ⟨A', n', c', he, hm⟩ => ⟨_, _, _, _, A', n', c', ⟨rfl, rfl, rfl, rfl⟩, he, hm⟩

/-- what is found so far: nothing, or k records of one turn up to the place e -/
def RHalf (bs : List UInt8) (gen : Int) (k e : Nat) (ps : List Piece) : Prop :=
  (k = 0 ∧ e = 0 ∧ gen = 0 ∧ ps = []) ∨ (1 ≤ k ∧ 1 ≤ gen ∧ openL bs = some (gen, bytesOf ps ++ scanL gen k (bs.drop e)) ∧ (framesL gen 0 (bytesOf ps)).length = e ∧ ps.length = k)
theorem RHalf.le {bs : List UInt8} {gen : Int} {k e : Nat} {ps : List Piece} (h : RHalf bs gen k e ps) : k ≤ e ∧ 0 ≤ gen ∧ gen ≤ 1152921504606846976 := by
  rcases h with ⟨h1, h2, h3, _⟩ | ⟨_, h1, h4, h2, h3⟩
  · omega
  · have := framesL_seq gen (bytesOf ps) 0
    rw [length_bytesOf, h3, h2] at this
    have := (open_some h4).2.1
    omega
theorem RHalf.none {bs : List UInt8} {gen : Int} {e : Nat} {ps : List Piece} {og os : Int} {od : List UInt8} {oz : Nat} (h : RHalf bs gen 0 e ps) (hd : DecIs (decF (bs.drop e)) og os od oz) (hn : oz = 0 ∨ og < 1 ∨ os ≠ 0) : openL bs = none := by
  rcases h with ⟨_, rfl, _⟩ | ⟨h, _⟩
  · exact open_not (by rw [List.drop_zero] at hd; exact hd) hn
  · omega
theorem RHalf.some {bs : List UInt8} {gen : Int} {k e : Nat} {ps : List Piece} {og os : Int} {od : List UInt8} {oz : Nat} (h : RHalf bs gen k e ps) (hk : 1 ≤ k) (hd : DecIs (decF (bs.drop e)) og os od oz) (hn : oz = 0 ∨ og < 1 ∨ os ≠ (k : Int) ∨ og ≠ gen) : openL bs = some (gen, bytesOf ps) ∧ (framesL gen 0 (bytesOf ps)).length = e := by
  rcases h with ⟨h, _⟩ | ⟨_, h1, h2, h3, _⟩
  · omega
  · rw [scan_not hd (by rcases hn with hn | hn | hn | hn; (· exact .inl hn); (· exact .inr (.inl (by omega))); (· exact .inr (.inr hn)); (· exact .inr (.inl hn))), List.append_nil] at h2
    exact ⟨h2, h3⟩
theorem RHalf.more {bs : List UInt8} {gen : Int} {k e : Nat} {ps : List Piece} {og : Int} {od : List UInt8} {oz : Nat} {A : Option Addr} {c : Nat} (h : RHalf bs gen k e ps) (hd : DecIs (decF (bs.drop e)) og (k : Int) od oz) (h0 : 0 < oz) (h1 : ¬ og < 1) (h2 : k = 0 ∨ og = gen) : RHalf bs og (k + 1) (e + oz) (ps ++ [(A, od, c)]) ∧ oz ≤ (bs.drop e).length := by
  have hsc := scan_yes hd h0
  have hb : bytesOf (ps ++ [(A, od, c)]) = bytesOf ps ++ [od] := by simp [bytesOf]
  refine ⟨.inr ⟨by omega, by omega, ?_, ?_, ?_⟩, hsc.2.2⟩
  · rcases h with ⟨rfl, rfl, rfl, rfl⟩ | ⟨hk, hg, ho, _⟩
    · have e1 := open_yes (bs := bs) (by rw [List.drop_zero] at hd; exact hd) h0 h1 rfl
      have e2 := hsc.1
      rw [List.drop_zero] at e2
      rw [e1, e2, hb]
      simp only [Nat.zero_add]
      rfl
    · obtain rfl : og = gen := h2.resolve_left (by omega)
      rw [ho, hsc.1, hb, List.drop_drop, List.append_assoc]
      rfl
  · rw [hb, framesL_append, List.length_append, Nat.zero_add, length_bytesOf]
    have hl : ps.length = k ∧ (framesL og 0 (bytesOf ps)).length = e := by
      rcases h with ⟨rfl, rfl, rfl, rfl⟩ | ⟨hk, hg, ho, h3, h4⟩
      · exact ⟨rfl, rfl⟩
      · obtain rfl : og = gen := h2.resolve_left (by omega)
        exact ⟨h4, h3⟩
    rw [hl.1, hl.2]
    simp only [framesL, List.append_nil]
    rw [hsc.2.1]
  · rw [List.length_append]
    rcases h with ⟨rfl, _, _, rfl⟩ | ⟨_, _, _, _, h⟩
    · rfl
    · rw [h]; rfl

/-- where the loop stands -/
structure ROpenAt (w6 : World) (r bL f N : Nat) (F : Nat → Prop) (gen : Int) (bs : List UInt8) (wr : World) (k e : Nat) (ps : List Piece) (v : Value) : Prop where
  recs : RecsAt wr 22 (fun q => F q ∨ q = bL) ps v
  own : ∀ q, v.ownBlock = some q → w6.heap.size ≤ q
  len : ps.length = k
  half : RHalf bs gen k e ps
  fits : e ≤ N * 64
  lg : Blk wr bL (lgCells r ⟨f, N, gen, k, e, false⟩) 80
  spared : Spared w6 wr (fun q => q = bL)
section
variable {w6 : World} {r bL f N : Nat} {F : Nat → Prop} {gen : Int} {bs : List UInt8} {wr : World} {k e : Nat} {ps : List Piece} {v : Value}
theorem ROpenAt.more {w1 wq w7 : World} {og : Int} {od : List UInt8} {oz : Nat} {A : Option Addr} {n c gk c5 : Nat} (h : ROpenAt w6 r bL f N F gen bs wr k e ps v) (hd : DecIs (decF (bs.drop e)) og (k : Int) od oz) (h0 : 0 < oz) (h1 : ¬ og < 1) (h2 : k = 0 ∨ og = gen)
    (hF : ∀ q, F q → q < w6.heap.size) (hLb : bL < w6.heap.size) (hlen : bs.length = N * 64) (hm : MadeN 5 wr od A n c w1) (hs : Spared w1 wq (fun q => q = bL)) (hb : Blk wq bL (lgCells r ⟨f, N, og, k + 1, e + oz, false⟩) 80)
    (hown : w7.ownsRow 0 22 1 (.slice (some ⟨gk, 0, none⟩) (k + 1) c5) (k + 1) (ps.map pv ++ [.slice A n c])) (hgr : (wq.alloc (.cells #[.slice A n c] 22)).grownBy w7 v.ownBlock) (hat : v.ownBlock = some gk ∨ gk = wq.heap.size + 1) :
    ROpenAt w6 r bL f N F og bs w7 (k + 1) (e + oz) (ps ++ [(A, od, c)]) (.slice (some ⟨gk, 0, none⟩) (k + 1) c5) := by
  have hh := h.half.more (A := A) (c := c) hd h0 h1 h2
  have hle := hh.2
  rw [List.length_drop, hlen] at hle
  have hfits := h.fits
  have e1 : pv (A, od, c) = .slice A n c := by show Value.slice A od.length c = _; rw [hm.1]
  have hsz : w6.heap.size ≤ wr.heap.size := h.spared.size
  have hsr : wr.heap.size ≤ w1.heap.size := hm.2.2.size
  have hs1 : w1.heap.size ≤ wq.heap.size := hs.size
  have hGlt : ∀ q, (F q ∨ q = bL) → q < wr.heap.size := fun q hq => by
    rcases hq with hq | hq
    · exact Nat.lt_of_lt_of_le (hF q hq) hsz
    · omega
  have hsub : ∀ q, q = bL → (F q ∨ q = bL) := fun q hq => .inr hq
  have hrq : RecsAt wq 22 (fun q => F q ∨ q = bL) ps v := (h.recs.still hm.2.2).moved (hs.mono hsub) (fun _ h => .inl h)
  have hp : PieceAt wq (fun q => (F q ∨ q = bL) ∨ v.ownBlock = some q) (A, od, c) := by
    refine ⟨?_, cap_of hm.2, ?_⟩
    · refine ((Made.past hm.2).mono (G := fun q => (F q ∨ q = bL) ∨ v.ownBlock = some q) (fun q hq => ?_)).moved (hs.mono (fun q hq => .inl (.inr hq))) (fun _ h => .inl h)
      rcases hq with hq | hq
      · exact hGlt q hq
      · exact h.recs.lt q hq
    · have h2 := (hd.some h0).1
      have h3 := (mayB_true (decF_some h2).2.1).2.2.2.2
      exact Nat.le_trans h3 (by decide)
  obtain ⟨hrec, hs7⟩ := hrq.more (w5 := w7) (g := gk) (c := c5) hp (fun q hq => Nat.lt_of_lt_of_le (hGlt q hq) (by omega)) (by rw [h.len, e1]; exact hown) (by rw [e1]; exact hgr) hat
  rw [h.len] at hrec
  refine ⟨hrec, fun q hq => ?_, by rw [List.length_append, h.len]; rfl, hh.1, by omega, hs7.blk hb (fun hq => h.recs.far _ hq (.inr rfl)), ?_⟩
  · injection hq with hq
    change gk = q at hq
    subst hq
    rcases hat with e2 | e2
    · exact h.own gk e2
    · omega
  · have h1 := (h.spared.trans (.of_below hm.2.2 (fun q => q = bL)) (fun _ h => .inl h)).trans hs (fun _ h => .inl h)
    exact h1.trans hs7 (fun q hq => .inr (h.own q hq))
end

set_option maxRecDepth 100000 in
set_option maxHeartbeats 4000000 in
theorem refOpen_any (w : World) (r : Nat) (G : Nat → Prop) (s : Dsk) (f N : Int) (h : RefAt w r G s) :
    Calls Try.prog 17 #[.pointer (some ⟨r, 0, none⟩), .int .i64 f, .int .i64 N] w (ROpenOut w r G s f N) := by
  have hK4 := h.ok.hi
  have OK := Lib.hid h.ok
  have H := Lib.hid h
  have HV := Lib.hid (refArea_any w r G s f N h)
  obtain ⟨v, hv⟩ : ∃ v, v = decide (0 ≤ f ∧ 1 ≤ N ∧ N ≤ (s.K.length : Int) - f) := ⟨_, rfl⟩
  rw [← hv] at HV
  have HVD := Lib.hid hv
  clear hv h
  by_cases hv' : v = true
  · subst hv'
    have hod : 0 ≤ f ∧ 1 ≤ N ∧ N ≤ (s.K.length : Int) - f := of_decide_eq_true HVD.out.symm
    have HOD : Hid (OnDisk s f N) := hod
    obtain ⟨f, rfl⟩ : ∃ k : Nat, f = (k : Int) := ⟨f.toNat, by omega⟩
    obtain ⟨N, rfl⟩ : ∃ k : Nat, N = (k : Int) := ⟨N.toNat, by omega⟩
    have hN1 : 1 ≤ N := by omega
    have hfN : f + N ≤ s.K.length := by omega
    have hN4 : N ≤ 4096 := by omega
    have HLEN := Lib.hid (bytes_length OK.out hfN)
    have HBY : Hid (s.bytes f N = ((s.view.drop f).take N).flatten) := rfl
    have HVL : Hid (s.view.length = s.K.length) := view_length s
    have HV64 := Lib.hid (view_len OK.out)
    obtain ⟨i0, hi, hz0, hz1, hz2⟩ := info_parts info8p
    clear hod HVD
    go_enter Try.func17, Try.ntmps17
    go_wp2_with fail
    refine HV.out.mono ?_
    rintro e w2 ⟨rfl, hb2⟩
    have HB2 := Lib.hid hb2
    clear hb2 HV
    go_wp2
    go_loopw [10, 11] (fun v a wr => ∃ k n A c : Nat, ∃ B : Option Addr, n = k * 64 ∧ k ≤ N ∧ a = .int .i64 k ∧ (k = 0 ∨ s.off = false) ∧ v = .slice B n c ∧ MadeN 5 w ((s.view.drop f).take k).flatten B n c wr) (fun _ a _ => N - (intOf a).toNat)
    case atStart => exact ⟨0, 0, 0, 0, none, rfl, Nat.zero_le _, rfl, .inl rfl, rfl, madeN_start HB2.out⟩
    case round =>
    obtain ⟨k, n, _, c, B, hn, hk, rfl, hoff, rfl, hm⟩ := hrel
    have HM := Lib.hid hm
    have HOF := Lib.hid hoff
    clear hm hoff
    by_cases hlt : k < N
    · have hkl : (k : Int) < (N : Int) := by omega
      have hRD := Lib.hid (refRead_any wr r G s ((f + k : Nat) : Int) (H.out.still HM.out.2.2))
      rw [show ((f + k : Nat) : Int) = (f : Int) + (k : Int) by omega] at hRD
      have hw1 : IntKind.i64.wrap ((f : Int) + (k : Int)) = (f : Int) + (k : Int) := by rw [IntKind.wrap_i64]; omega
      go_wp2_with fail
      refine hRD.out.mono ?_
      rintro e w6 ⟨hb6, ⟨hx, _⟩ | ⟨_, ho, rfl⟩ | ⟨_, ho, x, A6, c6, hx, hs6, rfl⟩⟩
      · exact absurd ⟨by omega, by omega⟩ hx
      · have HO := Lib.hid ho
        have HB6 := Lib.hid (hop HM.out.2.2 hb6)
        clear ho hb6 hRD
        go_wp2
        go_ret3
        exact .inr (.inl ⟨HOD.out, HO.out, rfl, HB6.out⟩)
      · have HO := Lib.hid ho
        have HM6 := Lib.hid (HM.out.below hb6)
        rw [show ((f : Int) + (k : Int)).toNat = f + k by omega] at hx
        have hv := last_view OK.out hx
        have hfk : f + k < s.view.length := by rw [HVL.out]; omega
        rw [List.getElem?_eq_getElem hfk] at hv
        injection hv with hv
        have HT : Hid (((s.view.drop f).take (k + 1)).flatten = ((s.view.drop f).take k).flatten ++ x) := by show _ = _; rw [← hv]; exact (bytes_step hfk).symm
        have H64 : Hid (x.length = 64) := by show _ = _; rw [← hv]; exact HV64.out _ (List.getElem_mem hfk)
        have HS := Lib.hid hs6
        have hnb : n + 64 ≤ 140737488355328 := by omega
        have HNK := Lib.hid hn
        generalize ((s.view.drop f).take k).flatten = d at *
        obtain ⟨d', hd'⟩ : ∃ d', d' = ((s.view.drop f).take (k + 1)).flatten := ⟨_, rfl⟩
        rw [← hd'] at HT
        have HD' := Lib.hid hd'
        clear hd'
        clear ho hb6 hRD hx hv hfk hs6 hn
        go_wp2_with (at_builtin; refine wpList_append_to _ rfl (.tmp 40) (.tmp 41) 22 rfl 5 i0 (.int .u8 0) Try.underlying22 hi hz0 hz1 hz2 rfl w B n c d A6 64 c6 x d' (n + 64) rfl rfl HM6 HS H64 HT (show Hid (n + 64 = n + 64) from rfl) hnb ?_)
        intro A7 c7 w7 hm7 hb7
        go_wp2
        go_roundw
        case rel => exact ⟨k + 1, n + 64, 0, c7, A7, by have := HNK.out; omega, by omega, by go_num, .inr HO.out, rfl, by rw [← HD'.out]; exact hm7.out⟩
        case measure => simp [intOf]; omega
    obtain rfl : k = N := by omega
    subst hn
    have HO : Hid (s.off = false) := HOF.out.resolve_left (by omega)
    rw [← HBY.out] at HM
    obtain ⟨bs, hbs⟩ : ∃ bs, bs = s.bytes f k := ⟨_, rfl⟩
    rw [← hbs] at HLEN HM
    have HBS : Hid (bs = s.bytes ((f : Int)).toNat ((k : Int)).toNat) := hbs
    have hc3 : k * 64 ≤ c := by have := cap_of HM.out.2; rw [HM.out.1] at this; exact this
    have hN64 : k * 64 ≤ 262144 := by omega
    clear hbs HBY HVL HV64
    -- the log's own block
    obtain ⟨w6, hw6⟩ : ∃ w6, w6 = wr.alloc (.cells #[.pointer (some ⟨r, 0, none⟩), .int .i64 (f : Int), .int .i64 (k : Int), .int .i64 0, .int .i64 0, .int .i64 0, .bool false] 80) := ⟨_, rfl⟩
    have B6 : Below wr.heap.size wr w6 := by rw [hw6]; exact (Below.refl _ _).alloc (Nat.le_refl _) _
    have HSZ6 : Hid (w6.heap.size = wr.heap.size + 1) := by show _ = _; rw [hw6]; simp
    have HBW6 := Lib.hid (hop HM.out.2.2 B6)
    have HLB : Hid (Blk w6 wr.heap.size (lgCells r ⟨f, k, 0, 0, 0, false⟩) 80) := by
      show Blk _ _ _ _
      rw [hw6]; exact Blk.new wr (lgCells r ⟨f, k, 0, 0, 0, false⟩) _
    have HFLT : Hid (∀ q, (G q ∨ q < w.heap.size) → q < wr.heap.size) := fun q hq => Nat.lt_of_lt_of_le (hq.elim (H.out.lt q) id) HM.out.2.2.size
    have HAW6 : Hid (Away w6 (fun q => q = wr.heap.size) B bs) := by
      have := Away.of_seen (F := fun q => wr.heap.size ≤ q) HM.out.seen (fun b off _ hb hk => by omega)
      exact this.moved (.of_below B6 _) (fun k hk => by exact .inl (by omega))
    have HW6 : Hid (wr.alloc (.cells #[.pointer (some ⟨r, 0, none⟩), .int .i64 (f : Int), .int .i64 (k : Int), .int .i64 0, .int .i64 0, .int .i64 0, .bool false] 80) = w6) := hw6.symm
    have HR0 : Hid (ROpenAt w6 r wr.heap.size f k (fun q => G q ∨ q < w.heap.size) 0 bs w6 0 0 [] (.slice none 0 0)) :=
      ⟨RecsAt.nil _ _ _, (fun q e => by cases e), rfl, .inl ⟨rfl, rfl, rfl, rfl⟩, Nat.zero_le _, HLB.out, .refl _ _⟩
    have HWS : Hid (w.heap.size ≤ wr.heap.size) := HM.out.2.2.size
    obtain ⟨iB, hiB, hzB, hsB, hbB⟩ := info_parts infoBL
    obtain ⟨bL, hbL⟩ : ∃ bL, bL = wr.heap.size := ⟨_, rfl⟩
    have hkl : ¬ (k : Int) < (k : Int) := by omega
    clear hw6 B6 HLB hlt HOF
    go_wp2
    rw [HW6.out]
    rw [← hbL] at HSZ6 HFLT HAW6 HR0 HWS ⊢
    clear HW6 HM hbL
    go_loopw [15] (fun v wr => ∃ j e ps gen, ROpenAt w6 r bL f k (fun q => G q ∨ q < w.heap.size) gen bs wr j e ps v) (fun v _ => k * 64 + 1 - lenOf v)
    case atStart => exact ⟨0, 0, [], 0, HR0.out⟩
    case round =>
    clear HR0
    obtain ⟨j, e, ps, gen, hat⟩ := hrel
    have hle := hat.half.le
    have hfits := hat.fits
    have HFORM := hat.recs.form
    obtain ⟨AR, cR, hv⟩ := HFORM
    subst hv
    have hlen := hat.len
    rw [hlen] at hat ⊢
    have HR := Lib.hid hat
    have HJ := Lib.hid hlen
    have HBW : Hid (Below w.heap.size w wr) := hat.spared.below HBW6.out (fun q hq => by rw [hq]; exact HWS.out)
    obtain ⟨A9, hcut, hseen⟩ := tail_cut_all B bs (k * 64) c e (e : Int) rfl HLEN.out hfits hc3
    have HS9 := Lib.hid (hseen wr (HAW6.out.moved hat.spared (G := fun q => q = bL) (fun _ h => .inl h)).seen)
    have HL9 : Hid ((bs.drop e).length = k * 64 - e) := by show _ = _; rw [List.length_drop, HLEN.out]
    have hcut9 : k * 64 - e ≤ c - e := by omega
    have HC9 := Lib.hid hcut9
    obtain ⟨_, _, _, l3, l4, l5, _⟩ := lg_cells hat.lg
    clear hat hlen hseen hcut9
    go_wp2_with fail
    refine (refDecode_named A9 (bs.drop e) _ _ _ HL9.out HS9.out HC9.out (by omega)).mono ?_
    rintro ee w1 ⟨og, os, od, oz, A, n, c9, hdec, rfl, hmd⟩
    have HDC := Lib.hid hdec
    have HMD := Lib.hid hmd
    have HB1 := Lib.hid hmd.2.2
    have HLG := Lib.hid (HR.out.lg.below hmd.2.2 HR.out.lg.lt)
    obtain ⟨_, _, _, l3, l4, l5, _⟩ := lg_cells HLG.out
    have f3 := HLG.out.free 3
    have f4 := HLG.out.free 4
    have f5 := HLG.out.free 5
    clear hdec hmd hcut
    have HEND : Hid ((oz = 0 ∨ og < 1 ∨ os ≠ (j : Int) ∨ (0 < j ∧ og ≠ gen)) → ∀ w', Below w1.heap.size w1 w' → (j = 0 → ROpenOut w r G s (f : Int) (k : Int) (.returned (.tuple #[.pointer none, .slice none 0 0, .int .i64 13])) w') ∧ (0 < j → ROpenOut w r G s (f : Int) (k : Int) (.returned (.tuple #[.pointer (some ⟨bL, 0, none⟩), .slice AR j cR, .int .i64 0])) w')) := fun hn w' hb => by
      have hbw := hop (hop HBW.out HB1.out) hb
      refine ⟨fun h0 => ?_, fun h0 => ?_⟩
      · have hno : openL bs = none := by
          have h1 := HR.out.half
          rw [h0] at h1
          exact h1.none HDC.out (by rcases hn with hn | hn | hn | hn; (· exact .inl hn); (· exact .inr (.inl hn)); (· exact .inr (.inr (by rw [h0] at hn; exact hn))); (· omega))
        exact .inr (.inr (.inl ⟨HOD.out, HO.out, by rw [← HBS.out]; exact hno, rfl, hbw⟩))
      · have hy := HR.out.half.some h0 HDC.out (by rcases hn with hn | hn | hn | hn; (· exact .inl hn); (· exact .inr (.inl hn)); (· exact .inr (.inr (.inl hn))); (· exact .inr (.inr (.inr hn.2))))
        refine .inr (.inr (.inr ⟨HOD.out, HO.out, gen, bytesOf ps, by rw [← HBS.out]; exact hy.1, bL, ps, _, rfl, rfl, HWS.out, ?_, ?_, hbw⟩))
        · have e1 : Lg.found f k gen (bytesOf ps) = ⟨f, k, gen, j, e, false⟩ := by
            unfold Lg.found
            rw [hy.2, length_bytesOf, HJ.out]
          show Blk w' bL (lgCells r (Lg.found f k gen (bytesOf ps))) _
          rw [e1]
          exact HLG.out.below hb HLG.out.lt
        · exact (HR.out.recs.still HB1.out).still hb
    obtain ⟨w5, hw5⟩ : ∃ w5, w5 = w1.alloc (.cells #[.int .i64 og, .int .i64 os, .slice A n c9] 77) := ⟨_, rfl⟩
    have HB5 : Hid (Below w1.heap.size w1 w5) := by show Below _ _ _; rw [hw5]; exact (Below.refl _ _).alloc (Nat.le_refl _) _
    have HX5 : Hid (Blk w5 w1.heap.size (frCells og os A n c9) 77) := by show Blk _ _ _ _; rw [hw5]; exact Blk.new w1 (frCells og os A n c9) _
    have HW5 : Hid (w1.alloc (.cells #[.int .i64 og, .int .i64 os, .slice A n c9] 77) = w5) := hw5.symm
    have HL5 := Lib.hid (HLG.out.below HB5.out HLG.out.lt)
    obtain ⟨b0, b1, b2⟩ := fr_cells HX5.out
    obtain ⟨_, _, _, m3, m4, m5, _⟩ := lg_cells HL5.out
    clear hw5
    obtain ⟨stop, hst⟩ : ∃ b : Bool, b = decide (oz = 0 ∨ og < 1 ∨ os ≠ (j : Int) ∨ (0 < j ∧ og ≠ gen)) := ⟨_, rfl⟩
    have HST := Lib.hid hst
    have HYES : Hid (∀ P : Prop, (P → oz = 0 ∨ og < 1 ∨ os ≠ (j : Int) ∨ (0 < j ∧ og ≠ gen)) → P → stop = true) := fun P h hp => HST.out.trans (decide_eq_true (h hp))
    clear hst
    go_upto_region 15 with fail
    rw [HW5.out]
    go_cut [89] from 48 to 115 (fun v wx => v = .bool stop ∧ Below w5.heap.size w5 wx)
    case first =>
      by_cases h0 : oz = 0
      · have HE := Lib.hid (HST.out.trans (decide_eq_true (.inl h0)))
        have d1 : ((oz : Int) == 0) = true := by rw [h0]; rfl
        clear h0 hle hfits
        go_quiet (fail)
        go_wp2
        go_meet
        exact ⟨congrArg Value.bool HE.out.symm, below_drewN (Below.refl _ _) _⟩
      have d1 : ((oz : Int) == 0) = false := by rw [beq_eq_false_iff_ne]; omega
      by_cases h1 : os = (j : Int)
      · have d2 : (os == (j : Int)) = true := by rw [beq_iff_eq]; exact h1
        have d2' : (os != (j : Int)) = false := by rw [bne, d2]; rfl
        by_cases h2 : og < 1
        · have HE := Lib.hid (HST.out.trans (decide_eq_true (.inr (.inl h2))))
          have d3 : decide (og < 1) = true := decide_eq_true h2
          clear h0 h1 h2 hle hfits
          go_quiet (fail)
          go_wp2
          go_meet
          exact ⟨congrArg Value.bool HE.out.symm, below_drewN (Below.refl _ _) _⟩
        have d3 : decide (og < 1) = false := decide_eq_false h2
        by_cases h3 : 0 < j
        · have d4 : decide ((0 : Int) < (j : Int)) = true := decide_eq_true (by omega)
          have d4' : decide (0 < j) = true := decide_eq_true h3
          by_cases h4 : og = gen
          · have HE := Lib.hid (HST.out.trans (decide_eq_false (fun h => by rcases h with h | h | h | h; (· exact h0 h); (· exact h2 h); (· exact h h1); (· exact h.2 h4))))
            have d5 : (og == gen) = true := by rw [beq_iff_eq]; exact h4
            have d5' : (og != gen) = false := by rw [bne, d5]; rfl
            clear h0 h1 h2 h3 h4 hle hfits
            go_quiet (fail)
            go_wp2
            go_meet
            exact ⟨congrArg Value.bool HE.out.symm, below_drewN (Below.refl _ _) _⟩
          · have HE := Lib.hid (HST.out.trans (decide_eq_true (.inr (.inr (.inr ⟨h3, h4⟩)))))
            have d5 : (og == gen) = false := by rw [beq_eq_false_iff_ne]; exact h4
            have d5' : (og != gen) = true := by rw [bne, d5]; rfl
            clear h0 h1 h2 h3 h4 hle hfits
            go_quiet (fail)
            go_wp2
            go_meet
            exact ⟨congrArg Value.bool HE.out.symm, below_drewN (Below.refl _ _) _⟩
        · have d4 : decide ((0 : Int) < (j : Int)) = false := decide_eq_false (by omega)
          have d4' : decide (0 < j) = false := decide_eq_false h3
          have HE := Lib.hid (HST.out.trans (decide_eq_false (fun h => by rcases h with h | h | h | h; (· exact h0 h); (· exact h2 h); (· exact h h1); (· exact h3 h.1))))
          clear h0 h1 h2 h3 hle hfits
          go_quiet (fail)
          go_wp2
          go_meet
          exact ⟨congrArg Value.bool HE.out.symm, below_drewN (Below.refl _ _) _⟩
      · have HE := Lib.hid (HST.out.trans (decide_eq_true (.inr (.inr (.inl h1)))))
        have d2 : (os == (j : Int)) = false := by rw [beq_eq_false_iff_ne]; exact h1
        have d2' : (os != (j : Int)) = true := by rw [bne, d2]; rfl
        clear h0 h1 hle hfits
        go_quiet (fail)
        go_wp2
        go_meet
        exact ⟨congrArg Value.bool HE.out.symm, below_drewN (Below.refl _ _) _⟩
    case rest =>
    obtain ⟨rfl, hbc⟩ := hcut
    have HBC := Lib.hid (hop HB5.out hbc)
    have HLC := Lib.hid (HL5.out.below hbc HL5.out.lt)
    obtain ⟨b0, b1, b2⟩ := fr_cells (HX5.out.below hbc HX5.out.lt)
    obtain ⟨_, _, _, m3, m4, m5, _⟩ := lg_cells HLC.out
    have f3 := HLC.out.free 3
    have f4 := HLC.out.free 4
    have f5 := HLC.out.free 5
    clear hbc b1
    by_cases hs : stop = true
    · have HE := Lib.hid (HEND.out (of_decide_eq_true (HST.out.symm.trans hs)) _ HBC.out)
      subst hs
      by_cases hj : j = 0
      · have dj : ((j : Int) == 0) = true := by rw [hj]; rfl
        have dj' : (j : Int) = 0 := by omega
        have HE' := Lib.hid (HE.out.1 hj)
        clear hj HE HEND
        go_wp2
        go_ret3
        exact HE'.out
      · have dj : ((j : Int) == 0) = false := by rw [beq_eq_false_iff_ne]; omega
        have dj' : ¬ (j : Int) = 0 := by omega
        have HE' := Lib.hid (HE.out.2 (by omega))
        clear hj HE HEND
        go_wp2
        go_ret3
        exact HE'.out
    · have hs' : stop = false := by simpa using hs
      have hno := of_decide_eq_false (HST.out.symm.trans hs')
      subst hs'
      have h0 : 0 < oz := by rcases Nat.eq_zero_or_pos oz with h | h; (· exact absurd (.inl h) hno); (· exact h)
      have h1 : ¬ og < 1 := fun h => hno (.inr (.inl h))
      have h2 : os = (j : Int) := Decidable.byContradiction (fun h => hno (.inr (.inr (.inl h))))
      have h3 : j = 0 ∨ og = gen := by
        rcases Nat.eq_zero_or_pos j with h | h
        · exact .inl h
        · exact .inr (Decidable.byContradiction (fun h' => hno (.inr (.inr (.inr ⟨h, h'⟩)))))
      subst h2
      have hmo := HR.out.half.more (A := A) (c := c9) HDC.out h0 h1 h3
      have hl9 := hmo.2
      rw [HL9.out] at hl9
      have hw1 : IntKind.i64.wrap ((j : Int) + 1) = (j : Int) + 1 := by rw [IntKind.wrap_i64]; omega
      have hw2 : IntKind.i64.wrap ((e : Int) + (oz : Int)) = (e : Int) + (oz : Int) := by rw [IntKind.wrap_i64]; omega
      obtain ⟨w8, hw8⟩ : ∃ w8, w8 = ((wc.setCell ⟨bL, 3, none⟩ (.int .i64 og)).setCell ⟨bL, 4, none⟩ (.int .i64 ((j : Int) + 1))).setCell ⟨bL, 5, none⟩ (.int .i64 ((e : Int) + (oz : Int))) := ⟨_, rfl⟩
      have HS8 : Hid (Spared w1 w8 (fun q => q = bL)) := by
        show Spared _ _ _
        rw [hw8]
        exact ((((Spared.of_below HBC.out (fun q => q = bL))).setCell rfl 3 _).setCell rfl 4 _).setCell rfl 5 _
      have HL8 : Hid (Blk w8 bL (lgCells r ⟨f, k, og, j + 1, e + oz, false⟩) 80) := by
        show Blk _ _ _ _
        rw [hw8]
        have := ((HLC.out.set 3 (.int .i64 og)).set 4 (.int .i64 ((j : Int) + 1))).set 5 (.int .i64 ((e : Int) + (oz : Int)))
        have e1 : ((j + 1 : Nat) : Int) = (j : Int) + 1 := by omega
        have e2 : ((e + oz : Nat) : Int) = (e : Int) + (oz : Int) := by omega
        have ee : lgCells r ⟨f, k, og, j + 1, e + oz, false⟩ = (((lgCells r ⟨f, k, gen, j, e, false⟩).set 3 (.int .i64 og)).set 4 (.int .i64 ((j : Int) + 1))).set 5 (.int .i64 ((e : Int) + (oz : Int))) := by
          simp only [lgCells, e1, e2, List.set_cons_succ, List.set_cons_zero]
        rw [ee]; exact this
      have HRE8 := Lib.hid ((HR.out.recs.still HB1.out).moved (HS8.out.mono (fun q hq => .inr hq)) (fun _ h => .inl h))
      have HOWN : Hid ((w8.alloc (.cells #[.slice A n c9] 22)).ownsRow 0 22 1 (.slice AR j cR) j (ps.map pv)) := by
        have h1 := HRE8.out.list
        rw [HJ.out] at h1
        exact h1.alloc _
      have HX := Lib.hid (fun (w7 : World) (gk c5 : Nat) h4 h5 h6 => HR.out.more (w1 := w1) (wq := w8) (w7 := w7) (gk := gk) (c5 := c5) HDC.out h0 h1 h3 (fun q hq => by have := HFLT.out q hq; rw [HSZ6.out]; omega) (by rw [HSZ6.out]; omega) HLEN.out HMD.out HS8.out HL8.out h4 h5 h6)
      have HW8 : Hid (((wc.setCell ⟨bL, 3, none⟩ (.int .i64 og)).setCell ⟨bL, 4, none⟩ (.int .i64 ((j : Int) + 1))).setCell ⟨bL, 5, none⟩ (.int .i64 ((e : Int) + (oz : Int))) = w8) := hw8.symm
      have hjb : j ≤ 262144 := by omega
      have hjk : j + 1 ≤ k * 64 := by omega
      have HSZ8 : Hid (w8.heap.size = wc.heap.size) := by show _ = _; rw [hw8]; simp
      have HNEW : Hid ((w8.alloc (.cells #[.slice A n c9] 22)).heap[wc.heap.size]? = some (.cells #[.slice A n c9] 22)) := by show _ = _; rw [← HSZ8.out]; exact heap_alloc_new _ _
      have HAS : Hid ((w8.alloc (.cells #[.slice A n c9] 22)).heap.size = wc.heap.size + 1) := by show _ = _; rw [← HSZ8.out]; simp
      clear hno hmo hl9 hw8 h3 hs HEND
      go_wp2_with (at_builtin; rw [HW8.out]; refine wpList_append_lies _ rfl (.tmp 111) (.tmp 114) 42 rfl 0 22 iB (.slice none 0 0) 1 24 Try.underlying42 hiB hzB hsB hbB rfl (by decide) (.slice AR j cR) j (ps.map pv) rfl HOWN.out ⟨wc.heap.size, 0, none⟩ 1 1 [.slice A n c9] rfl rfl (World.news_of_block HNEW.out) (by intro u hu; rw [List.mem_singleton.1 hu]; rfl) (by decide) (by unfold maxLen; omega) (by omega) (Nat.zero_le _) (wc.heap.size + 1) HAS.out ?_); intro gk cap5 w7 hown5 hgr5 hat5 hlt5
      have HOW5 := Lib.hid hown5
      have HGR5 := Lib.hid hgr5
      have HAT5 := Lib.hid hat5
      clear hown5 hgr5 hat5 hlt5 m3 m4 m5 f3 f4 f5 b0 b2
      go_wp2
      go_roundw
      case rel => exact ⟨j + 1, e + oz, ps ++ [(A, od, c9)], og, HX.out w7 gk cap5 HOW5.out HGR5.out (by rw [HSZ8.out]; exact HAT5.out)⟩
      case measure => show k * 64 + 1 - (j + 1) < k * 64 + 1 - j; omega
  · have hv0 : v = false := by simpa using hv'
    subst hv0
    have hnod : ¬ (0 ≤ f ∧ 1 ≤ N ∧ N ≤ (s.K.length : Int) - f) := of_decide_eq_false HVD.out.symm
    have HNOD : Hid (¬ OnDisk s f N) := hnod
    clear hnod
    go_enter Try.func17, Try.ntmps17
    go_wp2_with fail
    refine HV.out.mono ?_
    rintro e w2 ⟨rfl, hb2⟩
    have HB2 := Lib.hid hb2
    clear hb2 HV
    go_wp2
    go_ret3
    exact .inl ⟨HNOD.out, rfl, HB2.out⟩
end Go.Proofs.Ytkbjhnlihnakkaa
