/-
  The statement DiskSyncs: what was synced is there; a second Sync, and a crash with nothing in the cache, change nothing. Condition: the row's own.
-/
import Derived.Test.YtfcbkefpjfmgjaaDkAwake
import Derived.Test.YtfcbkefpjfmgjaaDkAll
namespace Go.Proofs.Ytfcbkefpjfmgjaa
open Go.RowKit

/-- what the writes leave -/
def Calm (s : Dsk) (n : Nat) : Prop := s.off = false ∧ s.left = 0 ∧ s.K.length = 20 ∧ s.Few n
theorem Calm.wput {s : Dsk} {n : Nat} (h : Calm s n) (i : Int) (l : List UInt8) : Calm (s.wput i l) (n + 1) := by
  refine ⟨?_, ?_, ?_, h.2.2.2.wput i l⟩
  · unfold Dsk.wput
    split
    · show (if 0 < s.left then _ else s.off) = false
      rw [h.2.1]; exact h.1
    · exact h.1
  · unfold Dsk.wput
    split
    · show s.left - 1 = 0; rw [h.2.1]
    · exact h.2.1
  · rw [Dsk.klen_wput]; exact h.2.2.1
theorem Calm.new : Calm (Dsk.new 20) 0 := ⟨rfl, rfl, by simp [Dsk.new], Dsk.Few.new 20⟩
theorem Calm.mono {s : Dsk} {n m : Nat} (h : Calm s n) (hm : n ≤ m) : Calm s m := ⟨h.1, h.2.1, h.2.2.1, h.2.2.2.mono hm⟩
theorem Ints.at_ {w : World} {A : Option Addr} {l : List Int} (h : Ints w A l) (k : Nat) (hk : k < l.length) : ∃ b off, A = some ⟨b, off, none⟩ ∧ ∀ w', Below w.heap.size w w' → w'.cell? ⟨b, off + k, none⟩ = some (.int .i64 l[k]) := by
  rcases h with rfl | ⟨b, off, rfl, hb, hc⟩
  · simp at hk
  · exact ⟨b, off, rfl, fun w' hbl => by rw [hbl.cell (p := ⟨b, off + k, none⟩) hb, hc k hk]⟩

theorem Calm.sync {s : Dsk} {n : Nat} (h : Calm s n) : Calm s.sync (n + 1) ∧ s.sync.M = [] := by
  refine ⟨⟨?_, ?_, ?_, ?_⟩, rfl⟩
  · show (if 0 < s.left then _ else s.off) = false
    rw [h.2.1]; exact h.1
  · show s.left - 1 = 0; rw [h.2.1]
  · rw [klen_sync]; exact h.2.2.1
  · exact ⟨Nat.succ_le_succ h.2.2.2.1, Nat.zero_le _, by show s.left - 1 < _; rw [h.2.1]; decide⟩
theorem sync_same {s : Dsk} (h : s.M = []) : s.sync.K = s.K := by
  show kept _ s.M s.K s.M.length = s.K
  rw [h]; rfl
theorem crash_same {s : Dsk} (h : s.M = []) (p : Nat → Bool) : (s.crash p).K = s.K := by
  show kept _ s.M s.K s.M.length = s.K
  rw [h]; rfl
/-- the image under one name -/
theorem image_named {w : World} {g : Nat} {F : Nat → Prop} {s : Dsk} (m : Nat) (h : DiskAt w g F s) (hn : s.K.flatten.length = m) (T : ByteArray) (hT : T.toList = s.K.flatten) :
    Calls Try.prog 15 #[.pointer (some ⟨g, 0, none⟩)] w fun e w' => ∃ A c, e = .returned (.slice A m c) ∧ (convert 22 9 (.slice A m c)).run Try.prog w' = .ok (.string T) w' ∧ Below w.heap.size w w' := by
  refine (image_len m h hn).mono ?_
  rintro e w' ⟨A, c, rfl, hm⟩
  have ht := text_on hm.at_len.2 m c hn _ (Below.refl _ _)
  rw [show (⟨s.K.flatten.toArray⟩ : ByteArray) = T by rw [← hT, ByteArray.toList_eq]] at ht
  exact ⟨A, c, rfl, ht, hm.2⟩
theorem crash_list {w : World} {g : Nat} {F : Nat → Prop} {s : Dsk} {B : Option Addr} {p : List Int} {m d : Nat} {W : World} (h : DiskAt w g F s) (hb : Below W.heap.size W w) (hF : ∀ k, F k → W.heap.size ≤ k) (hs : Ints W B p) (hm : m = p.length) (hl : p.length ≤ 9223372036854775807) (hx : ∀ x ∈ p, -9223372036854775808 ≤ x ∧ x ≤ 9223372036854775807) :
    Calls Try.prog 25 #[.pointer (some ⟨g, 0, none⟩), .slice B m d] w fun e w' => e = .returned (.tuple #[]) ∧ Moved w g F (s.crash (pickOf p)) w' := by
  subst hm
  exact crash_any w g F s h B p d (hs.away hb hF) hx hl

set_option maxRecDepth 100000 in
set_option maxHeartbeats 400000 in
theorem diskSyncs_walk (A : Option Addr) (l : List Int) (c : Nat) (B : Option Addr) (p : List Int) (d : Nat) (w : World) (hl : l.length ≤ 9223372036854775807) (hs : Ints w A l) (_ : ∀ x ∈ l, -9223372036854775808 ≤ x ∧ x ≤ 9223372036854775807)
    (hl' : p.length ≤ 9223372036854775807) (hs' : Ints w B p) (hb' : ∀ x ∈ p, -9223372036854775808 ≤ x ∧ x ≤ 9223372036854775807) :
    Calls Try.prog 7 #[.slice A l.length c, .slice B p.length d] w fun e w' => e = .returned (.bool true) ∧ Below w.heap.size w w' := by
  have HS := Lib.hid hs
  have HP := Lib.hid hs'
  have HPB := Lib.hid hb'
  obtain ⟨m, hm⟩ : ∃ m, m = p.length := ⟨_, rfl⟩
  have HM := Lib.hid hm
  have HL' := Lib.hid hl'
  rw [← hm]
  clear hs hs' hb' hl' hm
  obtain ⟨n, hn⟩ : ∃ n, n = l.length := ⟨_, rfl⟩
  have HN := Lib.hid hn
  rw [← hn] at hl ⊢
  clear hn
  have HNEW : Hid (∀ (w : World), Calls Try.prog 10 #[.int .i64 20] w (Fresh w (Dsk.new 20))) := fun w => new_any w 20 (by decide) (by decide)
  by_cases h60 : n ≤ 60
  · have hn60 : ¬ (n : Int) > 60 := by omega
    go_enter Try.func7, Try.ntmps7
    go_wp2_with fail
    refine (awake_any _).mono ?_
    rintro e w1 ⟨rfl, hb⟩
    have B1 := Lib.hid hb
    clear hb
    go_wp2_with fail
    refine (HNEW.out _).mono ?_
    rintro e w2 ⟨g, F, rfl, hd, hF, hb⟩
    have D2 := Lib.hid hd
    have HF : Hid (∀ k, F k → w.heap.size ≤ k) := fun k hk => Nat.le_trans B1.out.size (hF k hk)
    have B2 := Lib.hid (hop B1.out hb)
    clear hd hF hb B1 HNEW
    go_wp2_with fail
    go_loopw [8] (fun a wr => ∃ k : Nat, k ≤ n ∧ a = .int .i64 k ∧ ∃ s F, DiskAt wr g F s ∧ Calm s k ∧ (∀ q, F q → w.heap.size ≤ q) ∧ Below w.heap.size w wr) (fun a _ => n - (intOf a).toNat)
    case atStart => exact ⟨0, Nat.zero_le _, rfl, _, F, D2.out, .new, HF.out, B2.out⟩
    case round =>
      clear HF D2 B2
      obtain ⟨k, hk, rfl, s, F, hd, hcalm, hF, hbw⟩ := hrel
      have D := Lib.hid hd
      have HC := Lib.hid hcalm
      have HF := Lib.hid hF
      have BW := Lib.hid hbw
      clear hd hcalm hF hbw
      by_cases hlt : k < n
      · have hkl : (k : Int) < (n : Int) := by omega
        have hkn : k < l.length := by have := HN.out; omega
        obtain ⟨ba, oa, rfl, hc⟩ := HS.out.at_ k hkn
        obtain ⟨z, hz⟩ : ∃ z, z = l[k] := ⟨_, rfl⟩
        rw [← hz] at hc
        clear hz
        have bd : Below w.heap.size w wr.drew := BW.out.drew
        have hw64 : IntKind.i64.wrap ((k : Int) + 1) = (k : Int) + 1 := by rw [IntKind.wrap_i64]; omega
        have hw8 : IntKind.u8.wrap ((k : Int) + 1) = (k : Int) + 1 := by rw [IntKind.wrap_u8]; omega
        have HBL : Hid (∀ w', Below w.heap.size w w' → Calls Try.prog 28 #[.int .u8 ((k : Int) + 1)] w' fun e w'' => ∃ b, e = .returned (.slice (some ⟨b, 0, none⟩) 64 64) ∧ Seen w'' (some ⟨b, 0, none⟩) (List.replicate 64 (UInt8.ofNat ((k : Int) + 1).toNat)) ∧ Below w'.heap.size w' w'') := fun w' _ => block_int w' _ (by omega) (by omega)
        have HL8 : Hid ((List.replicate 64 (UInt8.ofNat ((k : Int) + 1).toNat)).length = 64) := by show _ = _; simp
        generalize List.replicate 64 (UInt8.ofNat ((k : Int) + 1).toNat) = x at HBL HL8
        go_wp2_with fail
        go_region_held_law (fun w' => Below w.heap.size w w') (first | exact bd | assumption | (exact hop bd ‹Below wr.drew.heap.size wr.drew _›))
          (first
            | (go_at_call 28; refine (HBL.out _ ?_).mono ?_; (assumption); rintro e w5 ⟨b5, rfl, hs5, hb5⟩; have HS5 := Lib.hid hs5)
            | (go_at_call 17; refine (write_all w5 g F s z _ x 64 64 (D.out.still (undrew hb5)) HL8.out (by decide) HS5.out (HC.out.2.2.2.mono (by omega))).mono ?_; rintro e w6 ⟨rfl, F6, hd6, hs6, hf6⟩; have hb6 : Below w.heap.size w w6 := hs6.below (hop bd hb5) HF.out))
        have HD6 := Lib.hid hd6
        have HF6 : Hid (∀ q, F6 q → w.heap.size ≤ q) := fun q hq => (hf6 q hq).elim (HF.out q) (Nat.le_trans (hop bd hb5).size)
        have HB6 := Lib.hid hb6
        clear hd6 hs6 hf6 hb6 hb5
        go_wp2_with fail
        go_roundw
        case rel => exact ⟨k + 1, by omega, by go_num, _, F6, HD6.out, HC.out.wput z x, HF6.out, HB6.out⟩
        case measure => simp [intOf]; omega
      · obtain rfl : k = n := by omega
        obtain ⟨hc1, hm1⟩ := HC.out.sync
        obtain ⟨hc2, hm2⟩ := hc1.sync
        have HSY : Hid (∀ w', DiskAt w' g F s → Calls Try.prog 21 #[.pointer (some ⟨g, 0, none⟩)] w' fun e w'' => e = .returned (.int .i64 0) ∧ Moved w' g F s.sync w'') := fun w' h => sync_any w' g F s h (by have := HC.out.2.2.2.1; omega) HC.out.2.2.2.2.2 HC.out.1
        have HSZ : Hid (∀ w' F, DiskAt w' g F s.sync → Calls Try.prog 21 #[.pointer (some ⟨g, 0, none⟩)] w' fun e w'' => e = .returned (.int .i64 0) ∧ Moved w' g F s.sync.sync w'') := fun w' F h => sync_any w' g F s.sync h (by have := hc1.2.2.2.1; omega) hc1.2.2.2.2.2 hc1.1
        have e1 := Lib.hid (sync_same hm1)
        have e2 := Lib.hid (crash_same hm2 (pickOf p))
        have HLEN := Lib.hid (flat_len (D.out.ok.sync) hc1.2.2.1 rfl)
        obtain ⟨T, hT⟩ : ∃ T : ByteArray, T.toList = s.sync.K.flatten := ⟨⟨s.sync.K.flatten.toArray⟩, by rw [ByteArray.toList_eq]⟩
        have HT := Lib.hid hT
        have HO : Hid ((s.sync.sync.crash (pickOf p)).off = false) := rfl
        clear hc1 hm1 hc2 hm2 hT
        go_wp2_with fail
        refine (HSY.out _ D.out).mono ?_
        rintro e w3 ⟨rfl, F3, hd3, hs3, hf3⟩
        have D3 := Lib.hid hd3
        have HF3 : Hid (∀ q, F3 q → w.heap.size ≤ q) := fun q hq => (hf3 q hq).elim (HF.out q) (Nat.le_trans BW.out.size)
        have B3 := Lib.hid (hs3.below BW.out HF.out)
        clear hd3 hs3 hf3 HSY D HC HF BW
        go_wp2_with fail
        refine (image_named (20 * 64) D3.out HLEN.out T HT.out).mono ?_
        rintro e w4 ⟨A4, c4, rfl, v4, hb4⟩
        have D4 := Lib.hid (D3.out.still hb4)
        have B4 := Lib.hid (hop B3.out hb4)
        clear hb4 D3 B3
        go_wp2_with fail
        refine (HSZ.out _ _ D4.out).mono ?_
        rintro e w5 ⟨rfl, F5, hd5, hs5, hf5⟩
        have D5 := Lib.hid hd5
        have HF5 : Hid (∀ q, F5 q → w.heap.size ≤ q) := fun q hq => (hf5 q hq).elim (HF3.out q) (Nat.le_trans B4.out.size)
        have B5 := Lib.hid (hs5.below B4.out HF3.out)
        clear hd5 hs5 hf5 HSZ D4 HF3 B4 v4
        go_wp2_with fail
        refine (image_named (20 * 64) D5.out (by rw [e1.out]; exact HLEN.out) T (by rw [e1.out]; exact HT.out)).mono ?_
        rintro e w6 ⟨A6, c6, rfl, v6, hb6⟩
        have D6 := Lib.hid (D5.out.still hb6)
        have B6 := Lib.hid (hop B5.out hb6)
        clear hb6 D5 B5
        go_wp2_with fail
        refine (crash_list D6.out B6.out HF5.out HP.out HM.out HL'.out HPB.out).mono ?_
        rintro e w7 ⟨rfl, F7, hd7, hs7, hf7⟩
        have D7 := Lib.hid hd7
        have B7 := Lib.hid (hs7.below B6.out HF5.out)
        clear hd7 hs7 hf7 D6 HF5 B6 v6
        have HIM : Hid (∀ w', DiskAt w' g F7 (s.sync.sync.crash (pickOf p)) → Calls Try.prog 15 #[.pointer (some ⟨g, 0, none⟩)] w' fun e w'' => ∃ A c, e = .returned (.slice A (20 * 64) c) ∧ (convert 22 9 (.slice A (20 * 64) c)).run Try.prog w'' = .ok (.string T) w'' ∧ Below w'.heap.size w' w'') := fun w' h => image_named (20 * 64) h (by rw [e2.out, e1.out]; exact HLEN.out) T (by rw [e2.out, e1.out]; exact HT.out)
        have hoo : (!(s.sync.sync.crash (pickOf p)).off) = true := rfl
        have HOO := Lib.hid hoo
        clear hoo HO
        go_wp2_with (first
          | (go_at_call 15; refine (HIM.out _ D7.out).mono ?_; rintro e w8 ⟨A8, c8, rfl, v8, hb8⟩; have D8 := Lib.hid (D7.out.still hb8); have B8 := Lib.hid (hop B7.out hb8); clear hb8)
          | (go_at_call 12; refine (on_any D8.out).mono ?_; rintro e w' ⟨rfl, hw'⟩; obtain rfl := hw'.symm; rw [HOO.out]))
        go_ret
        exact ⟨rfl, B8.out⟩
  · have hn60 : (60 : Int) < (n : Int) := by omega
    clear HNEW
    go_enter Try.func7, Try.ntmps7
    go_wp2_with fail
    refine (awake_any _).mono ?_
    rintro e w1 ⟨rfl, hb⟩
    have B1 := Lib.hid hb
    clear hb
    go_wp2_with fail
    go_ret
    exact ⟨rfl, B1.out⟩
end Go.Proofs.Ytfcbkefpjfmgjaa
