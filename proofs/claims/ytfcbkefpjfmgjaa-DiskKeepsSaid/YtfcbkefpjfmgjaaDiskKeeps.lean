/-
  The statement DiskKeeps: what was kept stays through any writes that are not kept, when the power goes. Condition: the row's own.
-/
import Derived.Test.YtfcbkefpjfmgjaaKeepsL
import Derived.Test.YtfcbkefpjfmgjaaDiskOwn
namespace Go.Proofs.Ytfcbkefpjfmgjaa
open Go.RowKit

theorem cut_mid (A : Option Addr) (n c a : Nat) (ha : a + 64 ≤ n) (hn : n ≤ c) (W : World) : (Instr.slice 22 (.slice A n c) (some (.int .i64 (a : Int))) (some (.int .i64 ((a : Int) + 64))) none).run Try.prog W = .ok (.slice (if c = a then A else A.map (·.add (a * 1))) 64 (c - a)) W := by
  have e2 : Try.prog.elem 22 = 5 := by kernel_rfl
  obtain ⟨i, hi, hz⟩ := Option.map_eq_some_iff.1 info8d
  simp only [Prod.mk.injEq] at hz
  rw [run_slice_lh W 22 A n c (by kernel_rfl) .i64 .i64 (a : Int) ((a : Int) + 64) (by omega) (by omega) (by omega), e2]
  simp [sizeOf, typeInfo, hi, hz.2.1, sliced]
  omega
theorem cap_of {e : TypeId} {w0 w : World} {l : List UInt8} {A : Option Addr} {n c : Nat} (h : Made e w0 l (.slice A n c) w) : l.length ≤ c := by
  obtain ⟨A', c', e, _, hc⟩ := h.form_cap
  injection e with _ _ e
  omega
theorem Seen.mid {w : World} {A : Option Addr} {l : List UInt8} (h : Seen w A l) (m c k : Nat) (hc : l.length ≤ c) : Seen w (if c = m then A else A.map (·.add (m * 1))) ((l.drop m).take k) := by
  rcases h.drop m c hc with h | ⟨b, off, e, hb, hcc⟩
  · exact .inl (by rw [h]; simp)
  · refine .inr ⟨b, off, e, hb, fun j hj => ?_⟩
    rw [List.length_take] at hj
    rw [hcc j (by omega), List.getElem_take]
theorem wrote_uni {K : List (List UInt8)} {lb : List Int} {s : Dsk} {k : Nat} (hw : Wrote K lb s k) (hu : ∀ r ∈ K, ∃ c : UInt8, r = List.replicate 64 c) (pick : Nat → Bool) : ∀ r ∈ (s.crash pick).K, ∃ c : UInt8, r = List.replicate 64 c := fun r hr => by
  rcases kept_mem _ r hr with h | ⟨p, hp, rfl⟩
  · rw [hw.1] at h; exact hu r h
  · obtain ⟨j, _, _, e⟩ := hw.2 p hp
    exact ⟨_, e⟩

set_option maxRecDepth 100000 in
set_option maxHeartbeats 4000000 in
theorem diskKeeps_walk (A : Option Addr) (l : List Int) (c : Nat) (B : Option Addr) (lb : List Int) (cb : Nat) (C : Option Addr) (p : List Int) (d : Nat) (w : World) (hl : l.length ≤ 9223372036854775807) (hs : Ints w A l) (_ : ∀ x ∈ l, -9223372036854775808 ≤ x ∧ x ≤ 9223372036854775807)
    (hlb : lb.length ≤ 9223372036854775807) (hsb : Ints w B lb) (_ : ∀ x ∈ lb, -9223372036854775808 ≤ x ∧ x ≤ 9223372036854775807) (hl' : p.length ≤ 9223372036854775807) (hs' : Ints w C p) (hb' : ∀ x ∈ p, -9223372036854775808 ≤ x ∧ x ≤ 9223372036854775807) :
    Calls Try.prog 5 #[.slice A l.length c, .slice B lb.length cb, .slice C p.length d] w fun e w' => e = .returned (.bool true) ∧ Below w.heap.size w w' := by
  have HS := Lib.hid hs
  have HSB := Lib.hid hsb
  have HP := Lib.hid hs'
  have HPB := Lib.hid hb'
  obtain ⟨m, hm⟩ : ∃ m, m = p.length := ⟨_, rfl⟩
  have HM := Lib.hid hm
  have HL' := Lib.hid hl'
  rw [← hm]
  clear hs hs' hb' hl' hm hsb
  obtain ⟨n, hn⟩ : ∃ n, n = l.length := ⟨_, rfl⟩
  have HN := Lib.hid hn
  rw [← hn] at hl ⊢
  clear hn
  obtain ⟨nb, hnb⟩ : ∃ nb, nb = lb.length := ⟨_, rfl⟩
  have HNB := Lib.hid hnb
  rw [← hnb] at hlb ⊢
  clear hnb
  have HNEW : Hid (∀ (w : World), Calls Try.prog 10 #[.int .i64 20] w (Fresh w (Dsk.new 20))) := fun w => new_any w 20 (by decide) (by decide)
  by_cases hbad : 60 < (n : Int) ∨ 60 < (nb : Int)
  · rcases hbad with hb | hb
    all_goals
      go_enter Try.func5, Try.ntmps5
      go_wp2_with fail
      refine (awake_any _).mono ?_
      rintro e w1 ⟨rfl, hb1⟩
      have B1 := Lib.hid hb1
      clear hb1
      go_wp2_with fail
      all_goals go_ret
      all_goals exact ⟨rfl, B1.out⟩
  have hn60 : ¬ 60 < (n : Int) := by omega
  have hnb60 : ¬ 60 < (nb : Int) := by omega
  clear hbad
  go_enter Try.func5, Try.ntmps5
  go_wp2_with fail
  refine (awake_any _).mono ?_
  rintro e w1 ⟨rfl, hb⟩
  have B1 := Lib.hid hb
  clear hb
  go_wp2_with fail
  refine (HNEW.out _).mono ?_
  rintro e w2 ⟨g, F, rfl, hd, hF, hb⟩
  have D2 := Lib.hid hd
  have HF : Hid (∀ k, F k → w.heap.size ≤ k) := fun k hk => Nat.le_trans B1.out.size (hF k hk)
  have B2 := Lib.hid (hop B1.out hb)
  clear hd hF hb B1 HNEW
  go_wp2_with fail
  go_loopw [10] (fun a wr => ∃ k : Nat, k ≤ n ∧ a = .int .i64 k ∧ ∃ s F, DiskAt wr g F s ∧ Calm s k ∧ Uni s ∧ (∀ q, F q → w.heap.size ≤ q) ∧ Below w.heap.size w wr) (fun a _ => n - (intOf a).toNat)
  case atStart => exact ⟨0, Nat.zero_le _, rfl, _, F, D2.out, .new, Uni.new 20, HF.out, B2.out⟩
  case round =>
    clear HF D2 B2
    obtain ⟨k, hk, rfl, s, F, hd, hcalm, huni, hF, hbw⟩ := hrel
    have D := Lib.hid hd
    have HC := Lib.hid hcalm
    have HU := Lib.hid huni
    have HF := Lib.hid hF
    have BW := Lib.hid hbw
    clear hd hcalm huni hF hbw
    by_cases hlt : k < n
    · have hkl : (k : Int) < (n : Int) := by omega
      have hkn : k < l.length := by have := HN.out; omega
      obtain ⟨ba, oa, rfl, hc⟩ := HS.out.at_ k hkn
      obtain ⟨z, hz⟩ : ∃ z, z = l[k] := ⟨_, rfl⟩
      rw [← hz] at hc
      clear hz
      have bd : Below w.heap.size w wr.drew := BW.out.drew
      have hw64 : IntKind.i64.wrap ((k : Int) + 1) = (k : Int) + 1 := by rw [IntKind.wrap_i64]; omega
      have hw8 : IntKind.u8.wrap ((k : Int) + 1) = (k : Int) + 1 := by rw [IntKind.wrap_u8]; omega
      have HBL : Hid (∀ w', Below w.heap.size w w' → Calls Try.prog 28 #[.int .u8 ((k : Int) + 1)] w' fun e w'' => ∃ b, e = .returned (.slice (some ⟨b, 0, none⟩) 64 64) ∧ Seen w'' (some ⟨b, 0, none⟩) (List.replicate 64 (UInt8.ofNat ((k : Int) + 1).toNat)) ∧ Below w'.heap.size w' w'') := fun w' _ => block_int w' _ (by omega) (by omega)
      have HL8 : Hid ((List.replicate 64 (UInt8.ofNat ((k : Int) + 1).toNat)).length = 64) := by show _ = _; simp
      have HUX : Hid (∀ z, Uni (s.wput z (List.replicate 64 (UInt8.ofNat ((k : Int) + 1).toNat)))) := fun z => HU.out.wput z _
      generalize List.replicate 64 (UInt8.ofNat ((k : Int) + 1).toNat) = x at HBL HL8 HUX
      go_wp2_with fail
      go_region_held_law (fun w' => Below w.heap.size w w') (first | exact bd | assumption | (exact hop bd ‹Below wr.drew.heap.size wr.drew _›))
        (first
          | (go_at_call 28; refine (HBL.out _ ?_).mono ?_; (assumption); rintro e w5 ⟨b5, rfl, hs5, hb5⟩; have HS5 := Lib.hid hs5)
          | (go_at_call 17; refine (write_all w5 g F s z _ x 64 64 (D.out.still (undrew hb5)) HL8.out (by decide) HS5.out (HC.out.2.2.2.mono (by omega))).mono ?_; rintro e w6 ⟨rfl, F6, hd6, hs6, hf6⟩; have hb6 : Below w.heap.size w w6 := hs6.below (hop bd hb5) HF.out))
      have HD6 := Lib.hid hd6
      have HF6 : Hid (∀ q, F6 q → w.heap.size ≤ q) := fun q hq => (hf6 q hq).elim (HF.out q) (Nat.le_trans (hop bd hb5).size)
      have HB6 := Lib.hid hb6
      clear hd6 hs6 hf6 hb6 hb5
      go_wp2_with fail
      go_roundw
      case rel => exact ⟨k + 1, by omega, by go_num, _, F6, HD6.out, HC.out.wput z x, HUX.out z, HF6.out, HB6.out⟩
      case measure => simp [intOf]; omega
    · obtain rfl : k = n := by omega
      obtain ⟨hc1, hm1⟩ := HC.out.sync
      have hu1 := HU.out.sync
      have HSY : Hid (∀ w', DiskAt w' g F s → Calls Try.prog 21 #[.pointer (some ⟨g, 0, none⟩)] w' fun e w'' => e = .returned (.int .i64 0) ∧ Moved w' g F s.sync w'') := fun w' h => sync_any w' g F s h (by have := HC.out.2.2.2.1; omega) HC.out.2.2.2.2.2 HC.out.1
      have HLEN := Lib.hid (flat_len (m := 1280) (D.out.ok.sync) hc1.2.2.1 rfl)
      generalize s.sync = s1 at *
      have HC1 := Lib.hid hc1
      have HM1 := Lib.hid hm1
      have HU1 := Lib.hid hu1
      clear hc1 hm1 hu1 HC HU
      obtain ⟨X, hX⟩ := uni_bytes HU1.out.1
      have HX := Lib.hid hX
      clear hX
      go_wp2_with fail
      refine (HSY.out _ D.out).mono ?_
      rintro e w3 ⟨rfl, F3, hd3, hs3, hf3⟩
      have D3 := Lib.hid hd3
      have HF3 : Hid (∀ q, F3 q → w.heap.size ≤ q) := fun q hq => (hf3 q hq).elim (HF.out q) (Nat.le_trans BW.out.size)
      have B3 := Lib.hid (hs3.below BW.out HF.out)
      clear hd3 hs3 hf3 HSY D HF BW
      go_wp2_with fail
      refine (image_len 1280 D3.out HLEN.out).mono ?_
      rintro e w4 ⟨A4, c4, rfl, hm4⟩
      have S4 := Lib.hid (hm4.away D3.out.lt)
      have D4 := Lib.hid (D3.out.still hm4.2)
      have B4 := Lib.hid (hop B3.out hm4.2)
      have W4 : Hid (Wrote s1.K lb s1 0) := ⟨rfl, fun p hp => by rw [HM1.out] at hp; simp at hp⟩
      clear hm4 D3 B3
      go_wp2_with fail
      go_loopw [13] (fun a wr => ∃ j : Nat, j ≤ nb ∧ a = .int .i64 j ∧ ∃ s F, DiskAt wr g F s ∧ Calm s (k + 1 + j) ∧ Wrote s1.K lb s j ∧ Away wr F A4 s1.K.flatten ∧ (∀ q, F q → w.heap.size ≤ q) ∧ Below w.heap.size w wr) (fun a _ => nb - (intOf a).toNat)
      case atStart => exact ⟨0, Nat.zero_le _, rfl, _, F3, D4.out, HC1.out, W4.out, S4.out, HF3.out, B4.out⟩
      case round =>
        clear HF3 D4 B4 S4 W4
        obtain ⟨j, hj, rfl, s, F, hd, hcalm, hwr, haw, hF, hbw⟩ := hrel
        have D := Lib.hid hd
        have HC := Lib.hid hcalm
        have HW := Lib.hid hwr
        have HA := Lib.hid haw
        have HF := Lib.hid hF
        have BW := Lib.hid hbw
        clear hd hcalm hwr haw hF hbw
        by_cases hlt : j < nb
        · have hkl : (j : Int) < (nb : Int) := by omega
          have hkn : j < lb.length := by have := HNB.out; omega
          obtain ⟨ba, oa, rfl, hc⟩ := HSB.out.at_ j hkn
          have HWP := Lib.hid (HW.out.put hkn)
          generalize lb[j] = z at hc HWP
          have bd : Below w.heap.size w wr.drew := BW.out.drew
          have hw1 : IntKind.i64.wrap ((j : Int) + 1) = (j : Int) + 1 := by rw [IntKind.wrap_i64]; omega
          have hw64 : IntKind.i64.wrap ((j : Int) + 101) = (j : Int) + 101 := by rw [IntKind.wrap_i64]; omega
          have hw8 : IntKind.u8.wrap ((j : Int) + 101) = (j : Int) + 101 := by rw [IntKind.wrap_u8]; omega
          have HBL : Hid (∀ w', Below w.heap.size w w' → Calls Try.prog 28 #[.int .u8 ((j : Int) + 101)] w' fun e w'' => ∃ b, e = .returned (.slice (some ⟨b, 0, none⟩) 64 64) ∧ Seen w'' (some ⟨b, 0, none⟩) (List.replicate 64 (UInt8.ofNat ((j : Int) + 101).toNat)) ∧ Below w'.heap.size w' w'') := fun w' _ => block_int w' _ (by omega) (by omega)
          have HL8 : Hid ((List.replicate 64 (UInt8.ofNat ((j : Int) + 101).toNat)).length = 64) := by show _ = _; simp
          generalize List.replicate 64 (UInt8.ofNat ((j : Int) + 101).toNat) = x at HBL HL8 HWP
          go_wp2_with fail
          go_region_held_law (fun w' => Below w.heap.size w w') (first | exact bd | assumption | (exact hop bd ‹Below wr.drew.heap.size wr.drew _›))
            (first
              | (go_at_call 28; refine (HBL.out _ ?_).mono ?_; (assumption); rintro e w5 ⟨b5, rfl, hs5, hb5⟩; have HS5 := Lib.hid hs5)
              | (go_at_call 17; refine (write_all w5 g F s z _ x 64 64 (D.out.still (undrew hb5)) HL8.out (by decide) HS5.out (HC.out.2.2.2.mono (by omega))).mono ?_; rintro e w6 ⟨rfl, F6, hd6, hs6, hf6⟩; have hb6 : Below w.heap.size w w6 := hs6.below (hop bd hb5) HF.out))
          have HD6 := Lib.hid hd6
          have HA6 := Lib.hid ((HA.out.moved (G := F) (Spared.of_below (undrew hb5) F) (fun _ h => .inl h)).moved hs6 hf6)
          have HF6 : Hid (∀ q, F6 q → w.heap.size ≤ q) := fun q hq => (hf6 q hq).elim (HF.out q) (Nat.le_trans (hop bd hb5).size)
          have HB6 := Lib.hid hb6
          clear hd6 hs6 hf6 hb6 hb5
          go_wp2_with fail
          go_roundw
          case rel => exact ⟨j + 1, by omega, by go_num, _, F6, HD6.out, HC.out.wput z x, HWP.out, HA6.out, HF6.out, HB6.out⟩
          case measure => simp [intOf]; omega
        · obtain rfl : j = nb := by omega
          have hwe : Wrote s1.K lb s lb.length := by have := HW.out; rw [HNB.out] at this; exact this
          have hlk : s1.K.length = 20 := HC1.out.2.2.1
          have hlc : (s.crash (pickOf p)).K.length = 20 := by rw [klen_crash, hwe.1]; exact hlk
          have hlb60 : lb.length ≤ 60 := by have := HNB.out; omega
          obtain ⟨Y, hY⟩ := uni_bytes (wrote_uni hwe HU1.out.1 (pickOf p))
          have HHIT : Hid (∀ q, q < 20 → hit (X q) (Y q) lb q lb.length = true) := fun q hq => keeps_hit hwe hlb60 HX.out hY q (by omega)
          have HWAS : Hid (∀ q, q < 20 → s1.K.flatten[q * 64]? = some (X q)) := fun q hq => (image_at HX.out q (by omega)).1
          have HNOW : Hid (∀ q, q < 20 → (s.crash (pickOf p)).K.flatten[q * 64]? = some (Y q) ∧ ((s.crash (pickOf p)).K.flatten.drop (q * 64)).take 64 = List.replicate 64 (Y q)) := fun q hq => image_at hY q (by omega)
          have HLN := Lib.hid (flat_len (m := 1280) (D.out.ok.crash (pickOf p)) hlc rfl)
          have HCR : Hid (∀ c', Calls Try.prog 25 #[.pointer (some ⟨g, 0, none⟩), .slice C m c'] wr fun e w'' => e = .returned (.tuple #[]) ∧ Moved wr g F (s.crash (pickOf p)) w'') := fun c' => crash_list D.out BW.out HF.out HP.out HM.out HL'.out HPB.out
          have HLB := Lib.hid hlb60
          generalize s.crash (pickOf p) = s2 at *
          clear hwe hlk hlc hY hlb60 HW HX HC HC1 HU1 HM1
          go_wp2_with fail
          refine (HCR.out _).mono ?_
          rintro e w5 ⟨rfl, F5, hd5, hs5, hf5⟩
          have D5 := Lib.hid hd5
          have A5 := Lib.hid (HA.out.moved hs5 hf5)
          have B5 := Lib.hid (hs5.below BW.out HF.out)
          clear hd5 hs5 hf5 HCR D HF BW HA
          go_wp2_with fail
          refine (image_len 1280 D5.out HLN.out).mono ?_
          rintro e w6 ⟨A6, c6, rfl, hm6⟩
          have SW := Lib.hid (A5.out.seen.below hm6.2)
          have SN := Lib.hid (hm6.away D5.out.lt).seen
          have B6 := Lib.hid (hop B5.out hm6.2)
          have hc6 := cap_of hm6
          rw [HLN.out] at hc6
          generalize s1.K.flatten = Lw at *
          generalize s2.K.flatten = Ln at *
          clear hm6 D5 A5 B5
          go_wp2_with fail
          go_loopw [15] (fun a wr => ∃ q : Nat, q ≤ 20 ∧ a = .int .i64 q ∧ Below w6.heap.size w6 wr) (fun a _ => 20 - (intOf a).toNat)
          case atStart => exact ⟨0, Nat.zero_le _, rfl, Below.refl _ _⟩
          case round =>
            obtain ⟨q, hq, rfl, hbw⟩ := hrel
            have BW := Lib.hid hbw
            clear hbw
            by_cases hlt : q < 20
            · have hql : (q : Int) < 20 := by omega
              have HH : Hid (hit (X q) (Y q) lb q j = true) := by have h := HHIT.out q hlt; rw [← HNB.out] at h; exact h
              obtain ⟨b4, o4, rfl, hx⟩ := SW.out.byte (q * 64) (X q) (HWAS.out q hlt)
              have hx := hx wr BW.out
              obtain ⟨b6, o6, rfl, hy⟩ := SN.out.byte (q * 64) (Y q) (HNOW.out q hlt).1
              have hy := hy wr BW.out
              have hw1 : IntKind.i64.wrap ((q : Int) * 64) = (q : Int) * 64 := by rw [IntKind.wrap_i64]; omega
              have hw2 : IntKind.i64.wrap ((q : Int) * 64 + 64) = (q : Int) * 64 + 64 := by rw [IntKind.wrap_i64]; omega
              have HCUT : Hid (∀ W, (Instr.slice 22 (.slice (some ⟨b6, o6, none⟩) 1280 c6) (some (.int .i64 ((q : Int) * 64))) (some (.int .i64 ((q : Int) * 64 + 64))) none).run Try.prog W = .ok (.slice (if c6 = q * 64 then some ⟨b6, o6, none⟩ else (some ⟨b6, o6, none⟩ : Option Addr).map (·.add (q * 64 * 1))) 64 (c6 - q * 64)) W) := fun W => by
                have h := cut_mid (some ⟨b6, o6, none⟩) 1280 c6 (q * 64) (by omega) hc6 W
                rwa [show ((q * 64 : Nat) : Int) = (q : Int) * 64 by omega] at h
              have HM6 := SN.out.mid (q * 64) c6 64 (by rw [HLN.out]; exact hc6)
              rw [(HNOW.out q hlt).2] at HM6
              generalize (if c6 = q * 64 then some ⟨b6, o6, none⟩ else (some ⟨b6, o6, none⟩ : Option Addr).map (·.add (q * 64 * 1))) = AM at HCUT HM6
              have HT6 := Lib.hid (text_on HM6 64 (c6 - q * 64) (by simp))
              generalize c6 - q * 64 = cm at HCUT HT6
              generalize X q = x at hx HH
              generalize Y q = y at hy HH HT6
              clear HM6
              have HBL : Hid (∀ w', Calls Try.prog 28 #[.int .u8 (y.toNat : Int)] w' fun e w'' => ∃ b, e = .returned (.slice (some ⟨b, 0, none⟩) 64 64) ∧ (convert 22 9 (.slice (some ⟨b, 0, none⟩) 64 64)).run Try.prog w'' = .ok (.string ⟨(List.replicate 64 y).toArray⟩) w'' ∧ Below w'.heap.size w' w'') := fun w' => by
                have hlt := y.toNat_lt
                have h := block_int w' (y.toNat : Int) (by omega) (by omega)
                rw [show UInt8.ofNat ((y.toNat : Int)).toNat = y by simp] at h
                refine h.mono ?_
                rintro e w'' ⟨b, rfl, hs, hb⟩
                exact ⟨b, rfl, text_on hs 64 64 (by simp) _ (Below.refl _ _), hb⟩
              obtain ⟨T, hT⟩ : ∃ T : ByteArray, T = ⟨(List.replicate 64 y).toArray⟩ := ⟨_, rfl⟩
              rw [← hT] at HT6 HBL
              clear hT
              go_wp2_with fail
              go_loopw [18, 19] (fun b a wr' => wr' = wr ∧ ∃ i : Nat, i ≤ j ∧ a = .int .i64 i ∧ b = .bool (hit x y lb q i)) (fun _ a _ => j - (intOf a).toNat)
              case atStart => exact ⟨rfl, 0, Nat.zero_le _, rfl, congrArg Value.bool (hit_zero x y lb q)⟩
              case round =>
                obtain ⟨rfl, i, hi, rfl, rfl⟩ := hrel
                by_cases hlt' : i < j
                · have hil : (i : Int) < (j : Int) := by omega
                  have hib : i < lb.length := by have := HNB.out; omega
                  obtain ⟨ba, oa, rfl, hc⟩ := HSB.out.at_ i hib
                  have hc := hc _ (hop B6.out BW.out)
                  have HS' := Lib.hid (hit_succ x y lb q i hib)
                  generalize lb[i] = z at hc HS'
                  have hw3 : IntKind.i64.wrap ((i : Int) + 1) = (i : Int) + 1 := by rw [IntKind.wrap_i64]; omega
                  have hw4 : IntKind.i64.wrap ((i : Int) + 101) = (i : Int) + 101 := by rw [IntKind.wrap_i64]; omega
                  have hw5 : IntKind.u8.wrap ((i : Int) + 101) = (i : Int) + 101 := by rw [IntKind.wrap_u8]; omega
                  clear hx hy
                  by_cases hv : hit x y lb q i = true
                  · have HN' : Hid (hit x y lb q (i + 1) = true) := by have h := HS'.out; rw [hv] at h; exact h
                    rw [hv]
                    clear hv HS'
                    go_wp2_with fail
                    go_roundw
                    case rel => exact ⟨trivial, i + 1, by omega, by go_num, by rw [HN'.out]⟩
                    case measure => simp [intOf]; omega
                  · have hv : hit x y lb q i = false := by cases h : hit x y lb q i <;> simp_all
                    rw [hv] at HS' ⊢
                    clear hv
                    by_cases hz : z = (q : Int)
                    · subst hz
                      by_cases hyy : (y.toNat : Int) = (i : Int) + 101
                      · have HN' : Hid (hit x y lb q (i + 1) = true) := by have h := HS'.out; rw [hyy] at h; exact Lib.hid (by simpa using h)
                        have hy2 : ((y.toNat : Int) == (i : Int) + 101) = true := by rw [hyy]; simp
                        clear HS'
                        go_wp2_with fail
                        go_roundw
                        case rel => exact ⟨trivial, i + 1, by omega, by go_num, by rw [HN'.out]⟩
                        case measure => simp [intOf]; omega
                      · have HN' : Hid (hit x y lb q (i + 1) = false) := by have h := HS'.out; rw [decide_eq_false hyy] at h; exact Lib.hid (by simpa using h)
                        have hy2 : ((y.toNat : Int) == (i : Int) + 101) = false := by rw [beq_eq_false_iff_ne]; exact hyy
                        clear HS'
                        go_wp2_with fail
                        go_roundw
                        case rel => exact ⟨trivial, i + 1, by omega, by go_num, by rw [HN'.out]⟩
                        case measure => simp [intOf]; omega
                    · have HN' : Hid (hit x y lb q (i + 1) = false) := by have h := HS'.out; rw [decide_eq_false hz] at h; exact Lib.hid (by simpa using h)
                      have hz2 : (z == (q : Int)) = false := by rw [beq_eq_false_iff_ne]; exact hz
                      clear HS'
                      go_wp2_with fail
                      go_roundw
                      case rel => exact ⟨trivial, i + 1, by omega, by go_num, by rw [HN'.out]⟩
                      case measure => simp [intOf]; omega
                · obtain rfl : i = j := by omega
                  rw [HH.out]
                  clear hx hy
                  have bd : Below w6.heap.size w6 wr.drew := BW.out.drew
                  have HT6' := HT6.out
                  have HCUT' := HCUT.out
                  go_wp2_with fail
                  go_region_held_law (fun w' => Below w6.heap.size w6 w') (first | exact bd | assumption | (exact hop bd ‹Below wr.drew.heap.size wr.drew _›))
                    (first
                      | (go_at_call 28; refine (HBL.out _).mono ?_; rintro e w8 ⟨b8, rfl, v8, hb8⟩))
                  have HB8 := Lib.hid (hop bd hb8)
                  clear hb8 v8 HT6' HCUT' bd
                  go_wp2_with fail
                  go_roundw
                  case rel => exact ⟨q + 1, by omega, by go_num, HB8.out⟩
                  case measure => simp [intOf]; omega
            · obtain rfl : q = 20 := by omega
              go_wp2_with fail
              go_ret
              exact ⟨rfl, hop B6.out BW.out⟩
end Go.Proofs.Ytfcbkefpjfmgjaa
