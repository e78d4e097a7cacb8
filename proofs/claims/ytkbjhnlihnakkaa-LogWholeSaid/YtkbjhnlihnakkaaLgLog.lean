/-
  A log's methods: Gen, Seq, Room, and Append. Conditions: how the log and its disk lie in memory; as each says.
-/
import Derived.Test.YtkbjhnlihnakkaaLgWrite
import Derived.Test.YtkbjhnlihnakkaaFEncode
namespace Go.Proofs.Ytkbjhnlihnakkaa
open Go.RowKit

def lgCells (g : Nat) (l : Lg) : List Value := [.pointer (some ⟨g, 0, none⟩), .int .i64 (l.f : Int), .int .i64 (l.blocks : Int), .int .i64 l.gen, .int .i64 (l.seq : Int), .int .i64 (l.fin : Int), .bool l.down]
theorem lg_cells {w : World} {b g : Nat} {l : Lg} {t : TypeId} (h : Blk w b (lgCells g l) t) : w.cell? ⟨b, 0, none⟩ = some (.pointer (some ⟨g, 0, none⟩)) ∧ w.cell? ⟨b, 1, none⟩ = some (.int .i64 (l.f : Int)) ∧ w.cell? ⟨b, 2, none⟩ = some (.int .i64 (l.blocks : Int)) ∧
    w.cell? ⟨b, 3, none⟩ = some (.int .i64 l.gen) ∧ w.cell? ⟨b, 4, none⟩ = some (.int .i64 (l.seq : Int)) ∧ w.cell? ⟨b, 5, none⟩ = some (.int .i64 (l.fin : Int)) ∧ w.cell? ⟨b, 6, none⟩ = some (.bool l.down) :=
  ⟨h.cell (i := 0) (by simp [lgCells]), h.cell (i := 1) (by simp [lgCells]), h.cell (i := 2) (by simp [lgCells]), h.cell (i := 3) (by simp [lgCells]), h.cell (i := 4) (by simp [lgCells]), h.cell (i := 5) (by simp [lgCells]), h.cell (i := 6) (by simp [lgCells])⟩
/-- what a call leaves of a log and its disk -/
def LMoved (w : World) (g b : Nat) (F : Nat → Prop) (s : Dsk) (l : Lg) (w' : World) : Prop :=
  ∃ F', DiskAt w' g F' s ∧ Blk w' b (lgCells g l) 74 ∧ ¬ F' b ∧ Spared w w' (fun k => F k ∨ k = b) ∧ ∀ k, F' k → F k ∨ w.heap.size ≤ k
/-- a log and its disk -/
structure LogOn (w : World) (g b : Nat) (F : Nat → Prop) (s : Dsk) (l : Lg) : Prop where
  disk : DiskAt w g F s
  blk : Blk w b (lgCells g l) 74
  not : ¬ F b
  fits : l.Fits s

section
variable {w : World} {g b : Nat} {F : Nat → Prop} {s : Dsk} {l : Lg}
theorem LogOn.still {w' : World} (h : LogOn w g b F s l) (hb : Below w.heap.size w w') : LogOn w' g b F s l := ⟨h.disk.still hb, h.blk.below hb h.blk.lt, h.not, h.fits⟩
theorem gen_any (h : Blk w b (lgCells g l) 74) : Calls Try.prog 30 #[.pointer (some ⟨b, 0, none⟩)] w fun e w' => e = .returned (.int .i64 l.gen) ∧ w' = w := by
  obtain ⟨_, _, _, c3, _⟩ := lg_cells h
  clear h
  go_enter Try.func30, Try.ntmps30
  go_wp2
  go_ret
  exact ⟨rfl, rfl⟩
theorem seq_any (h : Blk w b (lgCells g l) 74) : Calls Try.prog 29 #[.pointer (some ⟨b, 0, none⟩)] w fun e w' => e = .returned (.int .i64 (l.seq : Int)) ∧ w' = w := by
  obtain ⟨_, _, _, _, c4, _⟩ := lg_cells h
  clear h
  go_enter Try.func29, Try.ntmps29
  go_wp2
  go_ret
  exact ⟨rfl, rfl⟩
theorem room_any (h : Blk w b (lgCells g l) 74) (hf : l.fin ≤ l.blocks * 64) (hb : l.blocks ≤ 4096) : Calls Try.prog 33 #[.pointer (some ⟨b, 0, none⟩)] w fun e w' => e = .returned (.int .i64 (l.room : Int)) ∧ ∃ m, w' = w.drewN m := by
  obtain ⟨_, _, c2, _, _, c5, _⟩ := lg_cells h
  have HR : Hid ((l.room : Int) = (l.blocks : Int) * 64 - (l.fin : Int)) := by show (l.room : Int) = _; unfold Lg.room; omega
  obtain ⟨r, hr⟩ : ∃ r : Int, r = (l.room : Int) := ⟨_, rfl⟩
  rw [← hr] at HR ⊢
  clear hr
  have hw1 : IntKind.i64.wrap ((l.blocks : Int) * 64) = (l.blocks : Int) * 64 := by rw [IntKind.wrap_i64]; omega
  have hw2 : IntKind.i64.wrap ((l.blocks : Int) * 64 - (l.fin : Int)) = (l.blocks : Int) * 64 - (l.fin : Int) := by rw [IntKind.wrap_i64]; omega
  clear h
  go_enter Try.func33, Try.ntmps33
  go_wp2
  go_quiet (fail)
  go_wp2
  go_ret
  exact ⟨by rw [HR.out]; rfl, _, rfl⟩
end
theorem gen_nil (w : World) : Calls Try.prog 30 #[.pointer none] w fun e w' => e = .returned (.int .i64 0) ∧ w' = w := by
  go_enter Try.func30, Try.ntmps30
  go_wp2
  go_ret
  exact ⟨rfl, rfl⟩
theorem putErr_cases (s : Dsk) (i : Nat) (R : List (List UInt8)) : s.putErr i R = 0 ∨ s.putErr i R = 5 := by
  unfold Dsk.putErr
  split
  · exact .inl rfl
  · split
    · exact .inr rfl
    · exact .inl rfl
theorem layErr_cases (s : Dsk) (b : List UInt8) (i : Nat) : s.layErr b i = 0 ∨ s.layErr b i = 5 := putErr_cases _ _ _

set_option maxRecDepth 100000 in
set_option maxHeartbeats 2000000 in
theorem append_any (w : World) (g b : Nat) (F : Nat → Prop) (s : Dsk) (l : Lg) (A : Option Addr) (d : List UInt8) (n c q : Nat) (h : LogOn w g b F s l) (ha : Seen w A d) (hn : d.length = n) (hl : n ≤ 9223372036854775807) (hf : s.Few q) (hq : q ≤ 700000) :
    Calls Try.prog 12 #[.pointer (some ⟨b, 0, none⟩), .slice A n c] w fun e w' => e = .returned (.int .i64 (l.err s d)) ∧ LMoved w g b F (l.dsk s d) (l.next s d) w' := by
  have HSTAY : Hid (∀ w', Below w.heap.size w w' → LMoved w g b F s l w') := fun w' hb => ⟨F, h.disk.still hb, h.blk.below hb h.blk.lt, h.not, .of_below hb _, fun _ h => .inl h⟩
  have H := Lib.hid h
  have hK4 := h.disk.ok.hi
  have hfin := h.fits.fin
  have hbl := h.fits.area
  have hsq := h.fits.seq
  have hg1 := h.fits.gen1
  have hg2 := h.fits.gen2
  obtain ⟨c0, c1, c2, c3, c4, c5, c6⟩ := lg_cells h.blk
  have f4 := h.blk.free 4
  have f5 := h.blk.free 5
  have f6 := h.blk.free 6
  have HA := Lib.hid ha
  have HN := Lib.hid hn
  have HF := Lib.hid hf
  clear h ha hn hf
  by_cases hd : l.down = true
  · have HE : Hid (l.err s d = 5 ∧ l.dsk s d = s ∧ l.next s d = l) := by
      unfold Lg.err Lg.dsk Lg.next
      rw [hd]
      exact ⟨rfl, rfl, rfl⟩
    rw [hd] at c6
    clear hd
    go_enter Try.func12, Try.ntmps12
    go_wp2
    go_ret
    rw [HE.out.1, HE.out.2.1, HE.out.2.2]
    exact ⟨rfl, HSTAY.out _ (Below.refl _ _)⟩
  have hd' : l.down = false := by cases h : l.down <;> simp_all
  have HD := Lib.hid hd'
  rw [hd'] at c6
  clear hd hd'
  have HENC := Lib.hid (encode_any l.gen (l.seq : Int) A d n c w.drew (HA.out.below (Below.refl _ _).drew) HN.out hl (by omega) (by omega) (by omega) (by omega))
  have HCODE : Hid (l.code d = encF l.gen (l.seq : Int) d) := rfl
  rw [← HCODE.out] at HENC
  have hcf := l.code_fits d
  go_enter Try.func12, Try.ntmps12
  go_wp2
  go_still_tail 10, (by kernel_rfl)
  go_wp2_with fail
  refine HENC.out.mono ?_
  rintro e w1 ⟨A1, n1, c1', rfl, hm1⟩
  have HM1 := Lib.hid hm1
  have HB1 : Hid (Below w.heap.size w w1) := undrew hm1.2.2
  have H1 := Lib.hid (H.out.still HB1.out)
  obtain ⟨c0, c1, c2, c3, c4, c5, c6⟩ := lg_cells H1.out.blk
  have f4 := H1.out.blk.free 4
  have f5 := H1.out.blk.free 5
  have f6 := H1.out.blk.free 6
  have hn1 : n1 ≤ 65560 := by rw [← hm1.1]; exact hcf
  have HL1 := Lib.hid hm1.1
  have HROOM : Hid (Calls Try.prog 33 #[.pointer (some ⟨b, 0, none⟩)] w1 fun e w' => e = .returned (.int .i64 (l.room : Int)) ∧ Below w1.heap.size w1 w') := (room_any (w := w1) H1.out.blk hfin (by omega)).mono fun e w' ⟨he, m, hm⟩ => ⟨he, by rw [hm]; exact below_drewN (Below.refl _ _) m⟩
  clear hm1 HENC
  by_cases hfull : l.full d = true
  · have HE : Hid (l.err s d = 4 ∧ l.dsk s d = s ∧ l.next s d = l) := by
      unfold Lg.err Lg.dsk Lg.next
      rw [HD.out, hfull]
      exact ⟨rfl, rfl, rfl⟩
    have hfl : n1 = 0 ∨ l.room < n1 := by
      unfold Lg.full at hfull
      rw [Bool.or_eq_true, decide_eq_true_iff, decide_eq_true_iff, HL1.out] at hfull
      exact hfull
    clear hfull
    by_cases h0 : n1 = 0
    · have hz : ((n1 : Int) == 0) = true := by rw [h0]; rfl
      have hz' : (n1 : Int) = 0 := by omega
      clear h0 hfl
      go_wp2
      go_ret
      rw [HE.out.1, HE.out.2.1, HE.out.2.2]
      exact ⟨rfl, HSTAY.out _ HB1.out⟩
    · have hz : ((n1 : Int) == 0) = false := by rw [beq_eq_false_iff_ne]; omega
      have hz' : ¬ (n1 : Int) = 0 := by omega
      have hr : (l.room : Int) < (n1 : Int) := by omega
      clear h0 hfl
      go_wp2_with (go_at_call 33; refine HROOM.out.mono ?_; rintro e w2 ⟨rfl, hb2⟩; have HB2 := Lib.hid hb2; clear hb2)
      go_ret
      rw [HE.out.1, HE.out.2.1, HE.out.2.2]
      exact ⟨rfl, HSTAY.out _ (hop HB1.out HB2.out)⟩
  have hfull' : l.full d = false := by simpa using hfull
  obtain ⟨p1, p2, p3, p4⟩ := Lg.full_false hfull'
  obtain ⟨m, r1, r2, r3⟩ := Lg.rows (s := s) H.out.fits H.out.disk.ok hfull'
  rw [HL1.out] at p1 p2 r3
  have hz : ((n1 : Int) == 0) = false := by rw [beq_eq_false_iff_ne]; omega
  have hz' : ¬ (n1 : Int) = 0 := by omega
  have hr : ¬ (l.room : Int) < (n1 : Int) := by omega
  have hroom : l.room = l.blocks * 64 - l.fin := rfl
  have HERR : Hid (l.err s d = s.layErr (l.laid s d) (l.f + l.fin / 64) ∧ l.dsk s d = s.lay (l.laid s d) (l.f + l.fin / 64)) := by
    unfold Lg.err Lg.dsk
    rw [HD.out, hfull']
    exact ⟨rfl, rfl⟩
  have HNX : Hid (l.next s d = if l.err s d = 0 then l.put d else { l with down := true }) := by
    show l.next s d = _
    unfold Lg.next
    rw [HD.out, hfull']
    rfl
  have haw : Away w1 F A1 (l.code d) := (Made.past HM1.out.2).mono (fun b hb => H.out.disk.lt b hb)
  have HWR := Lib.hid (fun w2 (hb2 : Below w1.heap.size w1 w2) => area_write w2.drew g F s l.f l.blocks l.fin A1 (l.code d) n1 c1' q (H1.out.disk.still hb2.drew) (haw.moved (.of_below hb2.drew F) (fun _ h => .inl h)) HL1.out p1 hbl (by omega) HF.out (by omega))
  have HLD : Hid (l.laid s d = laidL s.view l.f l.blocks l.fin (l.code d)) := rfl
  rw [← HLD.out, ← HERR.out.1, ← HERR.out.2] at HWR
  have hcs : l.err s d = 0 ∨ l.err s d = 5 := by rw [HERR.out.1]; exact layErr_cases _ _ _
  obtain ⟨E, hE⟩ : ∃ E, E = l.err s d := ⟨_, rfl⟩
  rw [← hE] at hcs HNX HWR
  have HE := Lib.hid hE
  have HFL := Lib.hid p2
  clear hfull hfull' p1 p2 p3 p4 r1 r2 r3 haw hE hcf hroom
  go_wp2_with (go_at_call 33; refine HROOM.out.mono ?_; rintro e w2 ⟨rfl, hb2⟩; have HB2 := Lib.hid hb2; clear hb2)
  obtain ⟨c0, c1, c2, c3, c4, c5, c6⟩ := lg_cells (H1.out.still HB2.out).blk
  go_still_tail 9, (by kernel_rfl)
  go_wp2_with fail
  refine (HWR.out _ HB2.out).mono ?_
  rintro e w3 ⟨rfl, hp3⟩
  have P3 : Hid (Moved w g F (l.dsk s d) w3) := hp3.before (hop HB1.out HB2.out).drew
  have HX3 := Lib.hid (P3.out.blk H.out.blk H.out.not)
  obtain ⟨_, _, _, _, d4, d5, _⟩ := lg_cells HX3.out
  have f4' := HX3.out.free 4
  have f5' := HX3.out.free 5
  have f6' := HX3.out.free 6
  clear hp3 HWR hz hz' hr c0 c1 c2 c3 c4 c5 c6 f4 f5 f6
  rcases hcs with h0 | h5
  · subst h0
    have hw1 : IntKind.i64.wrap ((l.fin : Int) + (n1 : Int)) = (l.fin : Int) + (n1 : Int) := by rw [IntKind.wrap_i64]; omega
    have hw2 : IntKind.i64.wrap ((l.seq : Int) + 1) = (l.seq : Int) + 1 := by rw [IntKind.wrap_i64]; omega
    have HB3 : Hid (Blk ((w3.setCell ⟨b, 5, none⟩ (.int .i64 ((l.fin : Int) + (n1 : Int)))).setCell ⟨b, 4, none⟩ (.int .i64 ((l.seq : Int) + 1))) b (lgCells g (l.put d)) 74) := by
      have := (HX3.out.set 5 (.int .i64 ((l.fin : Int) + (n1 : Int)))).set 4 (.int .i64 ((l.seq : Int) + 1))
      have e : lgCells g (l.put d) = ((lgCells g l).set 5 (.int .i64 ((l.fin : Int) + (n1 : Int)))).set 4 (.int .i64 ((l.seq : Int) + 1)) := by
        have e1 : (((l.fin + n1 : Nat)) : Int) = (l.fin : Int) + (n1 : Int) := by omega
        have e2 : (((l.seq + 1 : Nat)) : Int) = (l.seq : Int) + 1 := by omega
        simp only [lgCells, Lg.put, HL1.out, e1, e2, List.set_cons_succ, List.set_cons_zero]
      show Blk _ b (lgCells g (l.put d)) _
      rw [e]; exact this
    go_wp2
    go_ret
    obtain ⟨F3, h31, h32, h33⟩ := P3.out
    have hbw := H.out.blk.lt
    have hnF3 : ¬ F3 b := fun hf => (h33 b hf).elim H.out.not (fun h => by omega)
    have hs5 : Spared w3 ((w3.setCell ⟨b, 5, none⟩ (.int .i64 ((l.fin : Int) + (n1 : Int)))).setCell ⟨b, 4, none⟩ (.int .i64 ((l.seq : Int) + 1))) (· = b) := ((Spared.refl w3 (· = b)).setCell rfl 5 _).setCell rfl 4 _
    refine ⟨by rw [← HE.out]; rfl, F3, h31.apart hs5 (fun k hk e => hnF3 (by rw [← e]; exact hk)), ?_, hnF3, ?_, h33⟩
    · rw [HNX.out]; exact HB3.out
    · exact (h32.mono (fun _ h => .inl h)).trans (hs5.mono (G := fun k => F k ∨ k = b) (fun _ h => .inr h)) (fun _ h => .inl h)
  · subst h5
    have HB3 : Hid (Blk (w3.setCell ⟨b, 6, none⟩ (.bool true)) b (lgCells g { l with down := true }) 74) := HX3.out.set 6 (.bool true)
    go_wp2
    go_ret
    obtain ⟨F3, h31, h32, h33⟩ := P3.out
    have hbw := H.out.blk.lt
    have hnF3 : ¬ F3 b := fun hf => (h33 b hf).elim H.out.not (fun h => by omega)
    have hs5 : Spared w3 (w3.setCell ⟨b, 6, none⟩ (.bool true)) (· = b) := (Spared.refl w3 (· = b)).setCell rfl 6 _
    refine ⟨by rw [← HE.out]; rfl, F3, h31.apart hs5 (fun k hk e => hnF3 (by rw [← e]; exact hk)), ?_, hnF3, ?_, h33⟩
    · rw [HNX.out]; exact HB3.out
    · exact (h32.mono (fun _ h => .inl h)).trans (hs5.mono (G := fun k => F k ∨ k = b) (fun _ h => .inr h)) (fun _ h => .inl h)
end Go.Proofs.Ytkbjhnlihnakkaa
