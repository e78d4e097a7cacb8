/-
  An area's write: the bytes of a frame are laid at a place, the block of the place last. Conditions: the frame fits into the area; as it says.
-/
import Derived.Test.YtkbjhnlihnakkaaLgFilled
import Derived.Test.YtkbjhnlihnakkaaRd
import Derived.Deep.RegionHeldLaw
import Derived.Deep.RegionLawGrows
namespace Go.Proofs.Ytkbjhnlihnakkaa
open Go.RowKit

theorem area_of {w w' : World} {b g : Nat} {f N : Int} {t : TypeId} (h : Blk w b (areaCells g f N) t) (hb : Below w.heap.size w w') : Blk w' b (areaCells g f N) t := h.below hb h.lt

set_option maxRecDepth 100000 in
set_option maxHeartbeats 2000000 in
theorem area_write (w : World) (g : Nat) (F : Nat → Prop) (s : Dsk) (f N pos : Nat) (A : Option Addr) (code : List UInt8) (n c q : Nat) (h : DiskAt w g F s) (ha : Away w F A code) (hl : code.length = n) (h0 : 0 < n) (hN : f + N ≤ s.K.length) (hfit : pos + n ≤ N * 64) (hf : s.Few q) (hq : q + n / 64 ≤ 800000) :
    Calls Try.prog 35 #[.agg #[.pointer (some ⟨g, 0, none⟩), .int .i64 (f : Int), .int .i64 (N : Int)], .int .i64 (pos : Int), .slice A n c] w fun e w' => e = .returned (.int .i64 (s.layErr (laidL s.view f N pos code) (f + pos / 64))) ∧ Moved w g F (s.lay (laidL s.view f N pos code) (f + pos / 64)) w' := by
  have hK4 := h.ok.hi
  obtain ⟨m, hB1, hB2, hB3⟩ := laidL_rows (V := s.view) (f := f) (blocks := N) (pos := pos) (code := code) (view_len h.ok) (by rw [view_length]; exact hN) (by omega) (by omega)
  have HB1 := Lib.hid hB1
  have HLB : Hid (laidL s.view f N pos code = filledL (aheadL s.view f pos ++ code) (N - pos / 64)) := rfl
  generalize laidL s.view f N pos code = B at HB1 HLB ⊢
  have HOFF := Lib.hid (fun h => Dsk.lay_off (s := s) (b := B) (i := f + pos / 64) (n := m) h HB1.out)
  obtain ⟨k, hk⟩ : ∃ k, k = pos / 64 := ⟨_, rfl⟩
  obtain ⟨n1, hn1⟩ : ∃ n1, n1 = pos % 64 := ⟨_, rfl⟩
  have HBB := Lib.hid (boxA_below w g f N)
  have HBX := Lib.hid (boxA_blk w g f N)
  have HNF : Hid (¬ F w.heap.size) := fun hF => by have := h.lt _ hF; omega
  have H1 := Lib.hid (h.still HBB.out)
  have HA1 : Hid (Away (boxA w g f N) F A code) := ha.moved (.of_below HBB.out F) (fun _ h => .inl h)
  have HBEF := Lib.hid (area_before (boxA w g f N) g F s f N pos n1 k H1.out hn1.symm hk.symm (by omega))
  have hdiv : (pos : Int) / 64 = (k : Int) := by omega
  have HL := Lib.hid hl
  have HF := Lib.hid hf
  have OK := Lib.hid h.ok
  have hfit' : n1 + n ≤ (N - k) * 64 := by omega
  have hkN : k < N := by omega
  have hp : (pos : Int) ≤ 262144 := by omega
  rw [← hk] at HLB HOFF ⊢
  have HFR : Hid (F = F) := rfl
  clear h ha hl hf hB1 hk hn1
  obtain ⟨w1, hw1⟩ : ∃ w1, w1 = boxA w g f N := ⟨_, rfl⟩
  rw [← hw1] at HBB HBX H1 HA1 HBEF
  have HW' : Hid (w.alloc (.cells #[.pointer (some ⟨g, 0, none⟩), .int .i64 (f : Int), .int .i64 (N : Int)] 72) = w1) := hw1.symm
  clear hw1
  go_enter Try.func35, Try.ntmps35
  go_wp2_with fail
  rw [HW'.out]
  refine HBEF.out.mono ?_
  rintro e w2 ⟨hb2, ⟨ho, _, rfl⟩ | ⟨_, Ak, rfl, hnone, hsk, hlk⟩⟩
  · have HM2 : Hid (Moved w g F s w2) := .before (.still H1.out hb2) HBB.out
    have HE := Lib.hid (HOFF.out ho)
    clear hb2 ho
    go_wp2
    go_ret
    rw [HE.out.1, HE.out.2]
    exact ⟨rfl, HM2.out⟩
  · have B2 := Lib.hid hb2
    have HX2 := Lib.hid (HBX.out.below hb2 HBX.out.lt)
    obtain ⟨c0, c1, c2⟩ := area_cells HX2.out
    have HSK := Lib.hid hsk
    have HLK := Lib.hid hlk
    have HNO := Lib.hid hnone
    clear hb2 hsk hlk hnone
    generalize aheadL s.view f pos = hd at *
    have HA2 := Lib.hid (HA1.out.moved (.of_below B2.out F) (G := F) (fun _ h => .inl h))
    have HC2 : Hid (∀ W, Below w2.heap.size w2 W → Blk W w.heap.size (areaCells g (f : Int) (N : Int)) 72) := fun W hb => HX2.out.below hb HX2.out.lt
    have HK : Hid (∀ W, Below w2.heap.size w2 W → Below w2.heap.size w2 W ∧ W.cell? ⟨w.heap.size, 0, none⟩ = some (.pointer (some ⟨g, 0, none⟩)) ∧ W.cell? ⟨w.heap.size, 1, none⟩ = some (.int .i64 (f : Int)) ∧ W.cell? ⟨w.heap.size, 2, none⟩ = some (.int .i64 (N : Int))) := fun W hb => ⟨hb, area_cells (HC2.out W hb)⟩
    obtain ⟨ab, ao, rfl, hcc⟩ : ∃ b off, A = some ⟨b, off, none⟩ ∧ ∀ j (h : j < code.length), w2.cell? ⟨b, off + j, none⟩ = some (.int .u8 (code[j].toNat : Int)) := by
      rcases HA2.out with h | ⟨b, off, e, _, _, hc⟩
      · have := HL.out; rw [h] at this; simp at this; omega
      · exact ⟨b, off, e, hc⟩
    have HNEWS : Hid (∀ j u, (code.map bv)[j]? = some u → w2.drew.cell? ((⟨ab, ao, none⟩ : Addr).add j) = some u) := fun j u hu => by
      obtain ⟨hj, hju⟩ := List.getElem?_eq_some_iff.1 hu
      rw [List.length_map] at hj
      rw [add_plain, ← hju, List.getElem_map]
      exact hcc j hj
    have HOLDS : Hid (∀ b, Ak = some b → ∀ j u, (hd.map bv)[j]? = some u → w2.drew.cell? (b.add j) = some u) := fun b hb j u hu => by
      obtain ⟨hj, hju⟩ := List.getElem?_eq_some_iff.1 hu
      rw [List.length_map] at hj
      rcases HSK.out with h | ⟨b', off, e, _, hc⟩
      · rw [h] at hj; simp at hj
      · rw [e] at hb
        injection hb with hb
        rw [← hb, add_plain, ← hju, List.getElem_map]
        exact hc j hj
    have HNO2 : Hid (Ak = none → n1 = 0 ∧ n1 = 0) := fun h => ⟨HNO.out h, HNO.out h⟩
    have bd : Below w2.heap.size w2 w2.drew := (Below.refl _ _).drew
    obtain ⟨i0, hi, hz0, hz1, hz2⟩ := info_parts info8p
    have hl1 : Hid ((hd.map bv).length = n1 * 1) := by show _ = _; rw [List.length_map, HLK.out, Nat.mul_one]
    have hl2 : Hid ((code.map bv).length = n * 1) := by show _ = _; rw [List.length_map, HL.out, Nat.mul_one]
    have hdl : Hid ((hd ++ code).length = n1 + n) := by show _ = _; rw [List.length_append, HLK.out, HL.out]
    have hN4 : N ≤ 4096 := by omega
    clear hcc c0 c1 c2
    go_wp2_with fail
    go_region_held_law (fun w' => Below w2.heap.size w2 w' ∧ w'.cell? ⟨w.heap.size, 0, none⟩ = some (.pointer (some ⟨g, 0, none⟩)) ∧ w'.cell? ⟨w.heap.size, 1, none⟩ = some (.int .i64 (f : Int)) ∧ w'.cell? ⟨w.heap.size, 2, none⟩ = some (.int .i64 (N : Int)))
      (first | exact HK.out _ bd | assumption | (exact HK.out _ (by assumption)))
      (first
        | (refine step_append_grows rfl (.tmp 25) (.tmp 26) 22 rfl 5 i0 (.int .u8 0) 1 1 Try.underlying22 hi hz0 hz1 hz2 rfl (by decide) Ak n1 n1 (hd.map bv) (by simp [Act.eval]) HNO2.out hl1.out HOLDS.out ⟨ab, ao, none⟩ n c (code.map bv) (by simp [Act.eval]) hl2.out HNEWS.out (bytes_one code) (by omega) (by unfold maxLen; omega) (by omega) ?_
           intro v4 w4 hown4 hgr4
           have hb4 : Below w2.heap.size w2 w4 := undrew ⟨hgr4.os, hgr4.tape, hgr4.output, hgr4.size, fun k hk => hgr4.block k hk (by simp)⟩
           have hmade : Made 5 w2 (hd ++ code) v4 w4 := ⟨by rw [hdl.out, List.map_append]; exact hown4, hb4⟩
           obtain ⟨A4, n4, c4, rfl, hm4⟩ := hmade.named
           have hf4 : n4 ≤ (N - k) * 64 := Nat.le_trans (Nat.le_of_eq (hm4.1.symm.trans hdl.out)) hfit'
           have HF4 := Lib.hid hf4
           have HM4 := Lib.hid hm4
           clear hown4 hgr4 hmade hm4 hf4)
        | (go_at_call 52; refine (area_filled w4 w2 g f N k (hd ++ code) A4 n4 c4 HM4.out hkN hN4 HF4.out).mono ?_; rintro e w5 ⟨A5, n5, c5, rfl, hm5⟩; have HM5 := Lib.hid hm5; have hb5 : Below w2.heap.size w2 w5 := hm5.2.2; clear hm5))
    have HM5' : Hid (MadeN 5 w2 B A5 n5 c5 w5) := by show MadeN _ _ _ _ _ _ _; rw [HLB.out]; exact HM5.out
    have hn5 : n5 = (m + 1) * 64 := by rw [← HM5'.out.1]; exact HB1.out
    have hc5 : n5 ≤ c5 := by have := cap_of HM5'.out.2; rw [HM5'.out.1] at this; exact this
    have haw : Away w5 F A5 B := (Made.past HM5'.out.2).mono (fun b hb => Nat.lt_of_lt_of_le (H1.out.lt b hb) B2.out.size)
    have hcut : ∀ W, (Instr.slice 22 (.slice A5 n5 c5) (some (.int .i64 (64 : Int))) none none).run Try.prog W = .ok (.slice (if c5 = 64 then A5 else A5.map (·.add (64 * 1))) (n5 - 64) (c5 - 64)) W := cut_tail A5 n5 c5 64 (by omega)
    have hhead : ∀ W, (Instr.slice 22 (.slice A5 n5 c5) none (some (.int .i64 (64 : Int))) none).run Try.prog W = .ok (.slice A5 64 c5) W := cut_head A5 n5 c5 64 (by omega)
    have hdr := haw.drop 64 c5 (by rw [HB1.out]; omega)
    generalize (if c5 = 64 then A5 else A5.map (·.add (64 * 1))) = AT at hcut hdr
    rw [show n5 - 64 = m * 64 by omega] at hcut
    have HAW5 := Lib.hid (haw.take 64)
    have HBL : Hid (Below w2.heap.size w2 w5) := hb5
    have D5 := Lib.hid (H1.out.still (hop B2.out hb5))
    have HP1 : Hid (Calls Try.prog 53 #[.agg #[.pointer (some ⟨g, 0, none⟩), .int .i64 (f : Int), .int .i64 (N : Int)], .int .i64 ((k : Int) + 1), .slice AT (m * 64) (c5 - 64)] w5.drew fun e w' => e = .returned (.int .i64 (s.putErr (f + k + 1) (rowsOf (B.drop 64)))) ∧ Moved w5 g F (s.putAll (f + k + 1) (rowsOf (B.drop 64))) w') := by
      have := area_put w5.drew g F s f (k + 1) N AT (B.drop 64) (c5 - 64) m q (D5.out.still (Below.refl _ _).drew) (hdr.moved (Spared.drew (Spared.refl w5 F)) (fun _ h => .inl h)) (by rw [List.length_drop, HB1.out]; omega) (by omega) (by omega) HF.out (by omega)
      rw [show ((k + 1 : Nat) : Int) = (k : Int) + 1 by omega, show f + (k + 1) = f + k + 1 by omega] at this
      exact this.mono fun e w' ⟨he, hm⟩ => ⟨he, hm.before ⟨rfl, rfl, rfl, Nat.le_refl _, fun _ _ => rfl⟩⟩
    have HFIRST := Lib.hid (fun h => Dsk.lay_first (s := s) (b := B) (i := f + k) (n := m) HB1.out h)
    have HLAY : Hid (s.lay B (f + k) = (s.putAll (f + k + 1) (rowsOf (B.drop 64))).putAll (f + k) (rowsOf (B.take 64)) ∧ s.layErr B (f + k) = (s.putAll (f + k + 1) (rowsOf (B.drop 64))).putErr (f + k) (rowsOf (B.take 64))) := ⟨rfl, rfl⟩
    have HFEW1 : Hid ((s.putAll (f + k + 1) (rowsOf (B.drop 64))).Few (q + m + 1)) := by
      have := HF.out.putAll (f + k + 1) (rowsOf (B.drop 64))
      rw [rowsOf_length, List.length_drop, HB1.out] at this
      exact this.mono (by omega)
    have HKL : Hid ((s.putAll (f + k + 1) (rowsOf (B.drop 64))).K.length = s.K.length) := Dsk.klen_putAll _ _ _
    have HTL : Hid ((B.take 64).length = 1 * 64) := by show _ = _; rw [List.length_take, HB1.out]; omega
    generalize s.putErr (f + k + 1) (rowsOf (B.drop 64)) = E1 at HP1 HFIRST
    generalize s.putAll (f + k + 1) (rowsOf (B.drop 64)) = s1 at *
    obtain ⟨c0, c1, c2⟩ := area_cells (HC2.out w5 hb5)
    clear hdr haw hb5 HM5' HM5 bd hi hz0 hz1 hz2 HNEWS HOLDS
    have HHEAD := Lib.hid hhead
    have HC5 : Hid (1 * 64 ≤ c5) := by show _ ≤ _; omega
    have hw : IntKind.i64.wrap ((k : Int) + 1) = (k : Int) + 1 := by rw [IntKind.wrap_i64]; omega
    clear hn5 hc5 hhead hdiv
    go_wp2
    go_still_tail 5, (by kernel_rfl)
    go_wp2_with fail
    refine HP1.out.mono ?_
    rintro e w6 ⟨rfl, hp6⟩
    have P6 := Lib.hid hp6
    have HX6 := Lib.hid (hp6.blk (HC2.out w5 HBL.out) HNF.out)
    obtain ⟨c0, c1, c2⟩ := area_cells HX6.out
    clear hp6 HP1 hcut hw
    by_cases he : E1 = 0
    · subst he
      have HP2 : Hid (Calls Try.prog 53 #[.agg #[.pointer (some ⟨g, 0, none⟩), .int .i64 (f : Int), .int .i64 (N : Int)], .int .i64 (k : Int), .slice A5 64 c5] w6.drew fun e w' => e = .returned (.int .i64 (s1.putErr (f + k) (rowsOf (B.take 64)))) ∧ Moved w5 g F (s1.putAll (f + k) (rowsOf (B.take 64))) w') := by
        obtain ⟨F6, hd6, hs6, hf6⟩ := P6.out
        have := area_put w6.drew g F6 s1 f k N A5 (B.take 64) c5 1 (q + m + 1) (hd6.still (Below.refl _ _).drew) ((HAW5.out.moved hs6 hf6).moved (Spared.drew (Spared.refl w6 F6)) (fun _ h => .inl h)) HTL.out HC5.out (by rw [HKL.out]; omega) HFEW1.out (by omega)
        exact this.mono fun e w' ⟨he, hm⟩ => ⟨he, .trans hs6 hf6 (hm.before ⟨rfl, rfl, rfl, Nat.le_refl _, fun _ _ => rfl⟩)⟩
      have hhead := HHEAD.out
      rw [← HLAY.out.1, ← HLAY.out.2] at HP2
      obtain ⟨E2, hE2⟩ : ∃ E2, E2 = s.layErr B (f + k) := ⟨_, rfl⟩
      rw [← hE2] at HP2
      have HE2 := Lib.hid hE2
      clear hE2
      go_wp2
      go_still_tail 4, (by kernel_rfl)
      go_wp2_with fail
      refine HP2.out.mono ?_
      rintro e w7 ⟨rfl, hp7⟩
      have P7 := Lib.hid (hp7.before (hop HBB.out (hop B2.out HBL.out)))
      clear hp7 HP2 hhead
      go_wp2
      go_ret
      exact ⟨by rw [← HE2.out]; rfl, P7.out⟩
    · have hne : (E1 == 0) = false := by rw [beq_eq_false_iff_ne]; exact he
      have HE := Lib.hid (HFIRST.out he)
      have HE1 : Hid (E1 = s.layErr B (f + k)) := by show E1 = _; rw [HE.out.1, HE.out.2.2]
      have HP7 : Hid (Moved w g F (s.lay B (f + k)) w6) := by show Moved _ _ _ _ _; rw [HE.out.2.1]; exact P6.out.before (hop HBB.out (hop B2.out HBL.out))
      clear HHEAD
      go_wp2
      go_ret
      exact ⟨by rw [← HE1.out]; rfl, HP7.out⟩
end Go.Proofs.Ytkbjhnlihnakkaa
