/-
  The statement DiskArms: behind Arm of n just n Writes and Syncs are done, and no more, until a Crash. Condition: the row's own.
-/
import Derived.Test.YtfcbkefpjfmgjaaDiskSyncs
namespace Go.Proofs.Ytfcbkefpjfmgjaa
open Go.RowKit

/-- a disk that was armed with n, behind k writes -/
def ArmedAt (s : Dsk) (n k : Nat) : Prop := s.K.length = 20 ∧ s.Few k ∧ s.calls = min k n ∧ s.left = n - k ∧ s.off = decide (n ≤ k)
theorem ArmedAt.new (n : Nat) (hn : n ≤ 50) : ArmedAt ((Dsk.new 20).arm n) n 0 := by
  have e : (Dsk.new 20).arm n = { Dsk.new 20 with left := n, off := decide ((n : Int) < 1) } := rfl
  rw [e]
  refine ⟨by simp [Dsk.new], ⟨Nat.le_refl _, Nat.le_refl _, by show n < _; omega⟩, by show 0 = _; omega, rfl, ?_⟩
  show decide ((n : Int) < 1) = decide (n ≤ 0)
  rw [Bool.eq_iff_iff, decide_eq_true_iff, decide_eq_true_iff]; omega
theorem ArmedAt.put {s : Dsk} {n k i : Nat} (h : ArmedAt s n k) (hi : i < 20) (x : List UInt8) (hx : x.length = 64) : ArmedAt (s.wput i x) n (k + 1) ∧ s.werr i 64 = (if k < n then 0 else 5) := by
  obtain ⟨h1, h2, h3, h4, h5⟩ := h
  have h2' := h2.wput i x
  have hr : (0 ≤ (i : Int) ∧ (i : Int) < s.K.length) ∧ 64 = 64 := ⟨by rw [h1]; omega, rfl⟩
  by_cases hk : k < n
  · have ho : s.off = false := by rw [h5]; exact decide_eq_false (by omega)
    have e1 : s.werr i 64 = 0 := by unfold Dsk.werr; rw [if_pos hr, ho]; rfl
    have e2 : s.wput i x = s.write i x := by unfold Dsk.wput; rw [hx, if_pos e1]; rfl
    rw [e2] at h2' ⊢
    rw [if_pos hk]
    refine ⟨⟨h1, h2', ?_, ?_, ?_⟩, e1⟩
    · show s.calls + 1 = _; rw [h3]; omega
    · show s.left - 1 = _; rw [h4]; omega
    · show (if 0 < s.left then decide (s.left = 1) else s.off) = _
      rw [if_pos (by rw [h4]; omega), h4, Bool.eq_iff_iff, decide_eq_true_iff, decide_eq_true_iff]; omega
  · have ho : s.off = true := by rw [h5]; exact decide_eq_true (by omega)
    have e1 : s.werr i 64 = 5 := by unfold Dsk.werr; rw [if_pos hr, ho]; rfl
    have e2 : s.wput i x = s := by unfold Dsk.wput; rw [hx, e1]; rfl
    rw [e2] at h2' ⊢
    rw [if_neg hk]
    refine ⟨⟨h1, h2', ?_, ?_, ?_⟩, e1⟩
    · rw [h3]; omega
    · rw [h4]; omega
    · rw [h5, Bool.eq_iff_iff, decide_eq_true_iff, decide_eq_true_iff]; omega

set_option maxRecDepth 100000 in
set_option maxHeartbeats 400000 in
theorem diskArms_walk (y : Int) (A : Option Addr) (l : List Int) (c : Nat) (w : World) (h0 : -9223372036854775808 ≤ y) (h1 : y ≤ 9223372036854775807) (hl : l.length ≤ 9223372036854775807) (hs : Ints w A l) (hb : ∀ x ∈ l, -9223372036854775808 ≤ x ∧ x ≤ 9223372036854775807) :
    Calls Try.prog 8 #[.int .i64 y, .slice A l.length c] w fun e w' => e = .returned (.bool true) ∧ Below w.heap.size w w' := by
  have HS := Lib.hid hs
  have HLB := Lib.hid hb
  obtain ⟨n, hn⟩ : ∃ n, n = l.length := ⟨_, rfl⟩
  have HN := Lib.hid hn
  rw [← hn] at hl ⊢
  clear hn hs hb
  by_cases hy0 : y < 0
  · go_enter Try.func8, Try.ntmps8
    go_wp2_with fail
    refine (awake_any _).mono ?_
    rintro e w1 ⟨rfl, hb⟩
    have B1 := Lib.hid hb
    clear hb
    go_wp2_with fail
    go_ret
    exact ⟨rfl, B1.out⟩
  by_cases hy1 : 50 < y
  · go_enter Try.func8, Try.ntmps8
    go_wp2_with fail
    refine (awake_any _).mono ?_
    rintro e w1 ⟨rfl, hb⟩
    have B1 := Lib.hid hb
    clear hb
    go_wp2_with fail
    go_ret
    exact ⟨rfl, B1.out⟩
  obtain ⟨q, rfl⟩ : ∃ q : Nat, y = (q : Int) := ⟨y.toNat, by omega⟩
  have hq : q ≤ 50 := by omega
  clear hy0 hy1 h0 h1
  by_cases h60 : 60 < n
  · have hn60 : (60 : Int) < (n : Int) := by omega
    go_enter Try.func8, Try.ntmps8
    go_wp2_with fail
    refine (awake_any _).mono ?_
    rintro e w1 ⟨rfl, hb⟩
    have B1 := Lib.hid hb
    clear hb
    go_wp2_with fail
    go_ret
    exact ⟨rfl, B1.out⟩
  have hn60 : ¬ (60 : Int) < (n : Int) := by omega
  have HNEW : Hid (∀ (w : World), Calls Try.prog 10 #[.int .i64 20] w (Fresh w (Dsk.new 20))) := fun w => new_any w 20 (by decide) (by decide)
  go_enter Try.func8, Try.ntmps8
  go_wp2_with fail
  refine (awake_any _).mono ?_
  rintro e w1 ⟨rfl, hb⟩
  have B1 := Lib.hid hb
  clear hb
  go_wp2_with fail
  refine (HNEW.out _).mono ?_
  rintro e w2 ⟨g, F, rfl, hd, hF, hb⟩
  have D2 := Lib.hid hd
  have HF : Hid (∀ k, F k → w.heap.size ≤ k) := fun k hk => Nat.le_trans B1.out.size (hF k hk)
  have B2 := Lib.hid (hop B1.out hb)
  clear hd hF hb B1 HNEW
  go_wp2_with fail
  refine (arm_any _ g F _ q D2.out).mono ?_
  rintro e w3 ⟨rfl, F3, hd3, hs3, hf3⟩
  have D3 := Lib.hid hd3
  have HF3 : Hid (∀ q, F3 q → w.heap.size ≤ q) := fun q hq => (hf3 q hq).elim (HF.out q) (Nat.le_trans B2.out.size)
  have B3 := Lib.hid (hs3.below B2.out HF.out)
  clear hd3 hs3 hf3 D2 HF B2
  go_wp2_with fail
  go_loopw [8, 9] (fun b a wr => ∃ k : Nat, k ≤ n ∧ a = .int .i64 k ∧ b = .int .i64 ((min k q : Nat) : Int) ∧ ∃ s F, DiskAt wr g F s ∧ ArmedAt s q k ∧ (∀ q, F q → w.heap.size ≤ q) ∧ Below w.heap.size w wr) (fun _ a _ => n - (intOf a).toNat)
  case atStart => exact ⟨0, Nat.zero_le _, rfl, by simp, _, F3, D3.out, .new q hq, HF3.out, B3.out⟩
  case round =>
    clear HF3 D3 B3
    obtain ⟨k, hk, rfl, rfl, s, F, hd, harm, hF, hbw⟩ := hrel
    have D := Lib.hid hd
    have HA := Lib.hid harm
    have HF := Lib.hid hF
    have BW := Lib.hid hbw
    clear hd harm hF hbw
    by_cases hlt : k < n
    · have hkl : (k : Int) < (n : Int) := by omega
      have hkn : k < l.length := by have := HN.out; omega
      obtain ⟨ba, oa, rfl, hc⟩ := HS.out.at_ k hkn
      have hc := hc wr BW.out
      obtain ⟨z, hz⟩ : ∃ z, z = l[k] := ⟨_, rfl⟩
      have hzb := HLB.out _ (List.getElem_mem hkn)
      rw [← hz] at hc hzb
      clear hz
      have hm20 : (k : Int) % 20 = ((k % 20 : Nat) : Int) := by omega
      have HM20 := Lib.hid hm20
      have HPUT : Hid (∀ x : List UInt8, x.length = 64 → ArmedAt (s.wput ((k % 20 : Nat) : Int) x) q (k + 1) ∧ s.werr ((k % 20 : Nat) : Int) 64 = (if k < q then 0 else 5)) := fun x hx => HA.out.put (Nat.mod_lt _ (by decide)) x hx
      clear hm20
      have hcase : (k + 1 < q) ∨ (k + 1 = q) ∨ q ≤ k := by omega
      rcases hcase with hq1 | hq1 | hq1
      · have e0 : min k q = k := by omega
        have i1 : (k : Int) < (q : Int) := by omega
        have i2 : (k : Int) + 1 < (q : Int) := by omega
        have HE : Hid ((if k < q then (0 : Int) else 5) = 0) := if_pos (by omega)
        have HON : Hid (∀ s', ArmedAt s' q (k + 1) → (!s'.off) = true ∧ (s'.calls : Int) = (k : Int) + 1) := fun s' h => ⟨by rw [h.2.2.2.2, decide_eq_false (by omega)]; rfl, by rw [h.2.2.1]; omega⟩
        rw [e0]
        clear e0
        go_wp2_with fail
        refine (block_int _ _ (by omega) (by omega)).mono ?_
        rintro e w5 ⟨b5, rfl, hs5, hb5⟩
        have HL5 : Hid ((List.replicate 64 (UInt8.ofNat (bits BinOp.and IntKind.i64 z 127 % 256).toNat)).length = 64) := by show _ = _; simp
        generalize List.replicate 64 (UInt8.ofNat (bits BinOp.and IntKind.i64 z 127 % 256).toNat) = x at hs5 HL5
        have HS5 := Lib.hid hs5
        have D5 := Lib.hid (D.out.still hb5)
        have B5 := Lib.hid (hop BW.out hb5)
        obtain ⟨hp, he⟩ := HPUT.out x HL5.out
        rw [HE.out] at he
        have HW : Hid (Calls Try.prog 17 #[.pointer (some ⟨g, 0, none⟩), .int .i64 ((k : Int) % 20), .slice (some ⟨b5, 0, none⟩) 64 64] w5 fun e w' => e = .returned (.int .i64 0) ∧ Moved w5 g F (s.wput ((k % 20 : Nat) : Int) x) w') := by
          rw [HM20.out]
          have := write_all w5 g F s ((k % 20 : Nat) : Int) _ x 64 64 D5.out HL5.out (by decide) HS5.out (HA.out.2.1.mono (by omega))
          rw [he] at this
          exact this
        have HP6 := Lib.hid hp
        clear hs5 hb5 hp he
        go_wp2_with fail
        refine HW.out.mono ?_
        rintro e w6 ⟨rfl, F6, hd6, hs6, hf6⟩
        have D6 := Lib.hid hd6
        have HF6 : Hid (∀ q, F6 q → w.heap.size ≤ q) := fun q hq => (hf6 q hq).elim (HF.out q) (Nat.le_trans B5.out.size)
        have B6 := Lib.hid (hs6.below B5.out HF.out)
        obtain ⟨o6, c6⟩ := HON.out _ HP6.out
        have O6 := Lib.hid o6
        have C6 := Lib.hid c6
        clear hd6 hs6 hf6 HW D HPUT HM20 HE HON HS5 o6 c6 D5 B5 BW HF hc
        go_wp2_with (first
          | (go_at_call 12; refine (on_any D6.out).mono ?_; rintro e w' ⟨rfl, hw'⟩; obtain rfl := hw'.symm; rw [O6.out])
          | (go_at_call 13; refine (calls_any D6.out).mono ?_; rintro e w' ⟨rfl, hw'⟩; obtain rfl := hw'.symm; rw [C6.out]))
        go_roundw
        case rel => exact ⟨k + 1, by omega, by go_num, by congr 1; omega, _, F6, D6.out, HP6.out, HF6.out, B6.out⟩
        case measure => simp [intOf]; omega
      · have e0 : min k q = k := by omega
        have i1 : (k : Int) < (q : Int) := by omega
        have i2 : ¬ (k : Int) + 1 < (q : Int) := by omega
        have HE : Hid ((if k < q then (0 : Int) else 5) = 0) := if_pos (by omega)
        have HON : Hid (∀ s', ArmedAt s' q (k + 1) → (!s'.off) = false ∧ (s'.calls : Int) = (k : Int) + 1) := fun s' h => ⟨by rw [h.2.2.2.2, decide_eq_true (by omega)]; rfl, by rw [h.2.2.1]; omega⟩
        rw [e0]
        clear e0
        go_wp2_with fail
        refine (block_int _ _ (by omega) (by omega)).mono ?_
        rintro e w5 ⟨b5, rfl, hs5, hb5⟩
        have HL5 : Hid ((List.replicate 64 (UInt8.ofNat (bits BinOp.and IntKind.i64 z 127 % 256).toNat)).length = 64) := by show _ = _; simp
        generalize List.replicate 64 (UInt8.ofNat (bits BinOp.and IntKind.i64 z 127 % 256).toNat) = x at hs5 HL5
        have HS5 := Lib.hid hs5
        have D5 := Lib.hid (D.out.still hb5)
        have B5 := Lib.hid (hop BW.out hb5)
        obtain ⟨hp, he⟩ := HPUT.out x HL5.out
        rw [HE.out] at he
        have HW : Hid (Calls Try.prog 17 #[.pointer (some ⟨g, 0, none⟩), .int .i64 ((k : Int) % 20), .slice (some ⟨b5, 0, none⟩) 64 64] w5 fun e w' => e = .returned (.int .i64 0) ∧ Moved w5 g F (s.wput ((k % 20 : Nat) : Int) x) w') := by
          rw [HM20.out]
          have := write_all w5 g F s ((k % 20 : Nat) : Int) _ x 64 64 D5.out HL5.out (by decide) HS5.out (HA.out.2.1.mono (by omega))
          rw [he] at this
          exact this
        have HP6 := Lib.hid hp
        clear hs5 hb5 hp he
        go_wp2_with fail
        refine HW.out.mono ?_
        rintro e w6 ⟨rfl, F6, hd6, hs6, hf6⟩
        have D6 := Lib.hid hd6
        have HF6 : Hid (∀ q, F6 q → w.heap.size ≤ q) := fun q hq => (hf6 q hq).elim (HF.out q) (Nat.le_trans B5.out.size)
        have B6 := Lib.hid (hs6.below B5.out HF.out)
        obtain ⟨o6, c6⟩ := HON.out _ HP6.out
        have O6 := Lib.hid o6
        have C6 := Lib.hid c6
        clear hd6 hs6 hf6 HW D HPUT HM20 HE HON HS5 o6 c6 D5 B5 BW HF hc
        go_wp2_with (first
          | (go_at_call 12; refine (on_any D6.out).mono ?_; rintro e w' ⟨rfl, hw'⟩; obtain rfl := hw'.symm; rw [O6.out])
          | (go_at_call 13; refine (calls_any D6.out).mono ?_; rintro e w' ⟨rfl, hw'⟩; obtain rfl := hw'.symm; rw [C6.out]))
        go_roundw
        case rel => exact ⟨k + 1, by omega, by go_num, by congr 1; omega, _, F6, D6.out, HP6.out, HF6.out, B6.out⟩
        case measure => simp [intOf]; omega
      · have e0 : min k q = q := by omega
        have i1 : ¬ (k : Int) < (q : Int) := by omega
        have HE : Hid ((if k < q then (0 : Int) else 5) = 5) := if_neg (by omega)
        have HON : Hid (∀ s', ArmedAt s' q (k + 1) → (!s'.off) = false ∧ (s'.calls : Int) = (q : Int)) := fun s' h => ⟨by rw [h.2.2.2.2, decide_eq_true (by omega)]; rfl, by rw [h.2.2.1]; omega⟩
        rw [e0]
        clear e0
        go_wp2_with fail
        refine (block_int _ _ (by omega) (by omega)).mono ?_
        rintro e w5 ⟨b5, rfl, hs5, hb5⟩
        have HL5 : Hid ((List.replicate 64 (UInt8.ofNat (bits BinOp.and IntKind.i64 z 127 % 256).toNat)).length = 64) := by show _ = _; simp
        generalize List.replicate 64 (UInt8.ofNat (bits BinOp.and IntKind.i64 z 127 % 256).toNat) = x at hs5 HL5
        have HS5 := Lib.hid hs5
        have D5 := Lib.hid (D.out.still hb5)
        have B5 := Lib.hid (hop BW.out hb5)
        obtain ⟨hp, he⟩ := HPUT.out x HL5.out
        rw [HE.out] at he
        have HW : Hid (Calls Try.prog 17 #[.pointer (some ⟨g, 0, none⟩), .int .i64 ((k : Int) % 20), .slice (some ⟨b5, 0, none⟩) 64 64] w5 fun e w' => e = .returned (.int .i64 5) ∧ Moved w5 g F (s.wput ((k % 20 : Nat) : Int) x) w') := by
          rw [HM20.out]
          have := write_all w5 g F s ((k % 20 : Nat) : Int) _ x 64 64 D5.out HL5.out (by decide) HS5.out (HA.out.2.1.mono (by omega))
          rw [he] at this
          exact this
        have HP6 := Lib.hid hp
        clear hs5 hb5 hp he
        go_wp2_with fail
        refine HW.out.mono ?_
        rintro e w6 ⟨rfl, F6, hd6, hs6, hf6⟩
        have D6 := Lib.hid hd6
        have HF6 : Hid (∀ q, F6 q → w.heap.size ≤ q) := fun q hq => (hf6 q hq).elim (HF.out q) (Nat.le_trans B5.out.size)
        have B6 := Lib.hid (hs6.below B5.out HF.out)
        obtain ⟨o6, c6⟩ := HON.out _ HP6.out
        have O6 := Lib.hid o6
        have C6 := Lib.hid c6
        clear hd6 hs6 hf6 HW D HPUT HM20 HE HON HS5 o6 c6 D5 B5 BW HF hc
        go_wp2_with (first
          | (go_at_call 12; refine (on_any D6.out).mono ?_; rintro e w' ⟨rfl, hw'⟩; obtain rfl := hw'.symm; rw [O6.out])
          | (go_at_call 13; refine (calls_any D6.out).mono ?_; rintro e w' ⟨rfl, hw'⟩; obtain rfl := hw'.symm; rw [C6.out]))
        go_roundw
        case rel => exact ⟨k + 1, by omega, by go_num, by congr 1; omega, _, F6, D6.out, HP6.out, HF6.out, B6.out⟩
        case measure => simp [intOf]; omega
    · obtain rfl : k = n := by omega
      have HO : Hid ((!(s.crash (pickOf [])).off) = true) := rfl
      have HSY : Hid (∀ w' F, DiskAt w' g F (s.crash (pickOf [])) → Calls Try.prog 21 #[.pointer (some ⟨g, 0, none⟩)] w' fun e w'' => e = .returned (.int .i64 0) ∧ Moved w' g F (s.crash (pickOf [])).sync w'') := fun w' F h => sync_any w' g F _ h (by show s.calls + 1 < _; have := HA.out.2.1.1; omega) (by show 0 < _; decide) rfl
      have HCR : Hid (Calls Try.prog 25 #[.pointer (some ⟨g, 0, none⟩), .slice none 0 0] wr fun e w' => e = .returned (.tuple #[]) ∧ Moved wr g F (s.crash (pickOf [])) w') := crash_any wr g F s D.out none [] 0 (.inl rfl) (by simp) (by simp)
      generalize s.crash (pickOf []) = s1 at HO HSY HCR
      clear HA D hlt
      go_wp2_with fail
      refine HCR.out.mono ?_
      rintro e w6 ⟨rfl, F6, hd6, hs6, hf6⟩
      have D6 := Lib.hid hd6
      have HF6 : Hid (∀ q, F6 q → w.heap.size ≤ q) := fun q hq => (hf6 q hq).elim (HF.out q) (Nat.le_trans BW.out.size)
      have B6 := Lib.hid (hs6.below BW.out HF.out)
      clear hd6 hs6 hf6 HCR BW HF
      go_wp2_with (first
        | (go_at_call 12; refine (on_any D6.out).mono ?_; rintro e w' ⟨rfl, hw'⟩; obtain rfl := hw'.symm; rw [HO.out])
        | (go_at_call 21; refine (HSY.out _ _ D6.out).mono ?_; rintro e w7 ⟨rfl, F7, _, hs7, _⟩; have B7 := Lib.hid (hs7.below B6.out HF6.out); clear hs7))
      go_ret
      exact ⟨rfl, B7.out⟩
end Go.Proofs.Ytfcbkefpjfmgjaa
