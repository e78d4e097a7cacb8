/-
  The statement FrameDecodes: any bytes begin with the frame that the document says, or with none; they stay. Condition: the row's own.
-/
import Derived.Test.YtmngcfmlmdhpbaaFrameBack
import Derived.Test.YtmngcfmlmdhpbaaRefDecF
namespace Go.Proofs.Ytmngcfmlmdhpbaa
open Go.RowKit

/-- ahead of round k -/
def FDR (w2 : World) (X : Nat) (A : Option Addr) (n c : Nat) (g s : Int) (i : Value) (wr : World) : Prop :=
  ∃ (k : Nat) (l : List UInt8), k ≤ n ∧ i = .int .i64 k ∧ Made 5 w2 l (.slice A n c) wr ∧ Blk wr X [.int .i64 g, .int .i64 s, .slice A n c] 24

set_option maxRecDepth 100000 in
set_option maxHeartbeats 2000000 in
theorem frameDecodes_walk (B : Option Addr) (b : List UInt8) (cb : Nat) (w : World) (hb : b.length ≤ 140737488351232) (hs : Seen w B b) (hcb : b.length ≤ cb) :
    Calls Try.prog 4 #[.slice B b.length cb] w fun e w' => e = .returned (.bool true) ∧ Below w.heap.size w w' := by
  obtain ⟨i0, hi, hz0, hz1, hz2⟩ := info_parts info8p
  obtain ⟨L, hL⟩ : ∃ L, L = b.length := ⟨_, rfl⟩
  rw [← hL] at hb hcb ⊢
  have HL : Hid (b.length = L) := hL.symm
  have HS := Lib.hid hs
  clear hL hs
  by_cases hlong : 70000 < L
  · go_enter Try.func4, Try.ntmps4
    go_wp2_with fail
    refine (awake_any w).mono ?_
    rintro e w1 ⟨rfl, hb1⟩
    have HB1 := Lib.hid hb1
    clear hb1
    go_wp2_with fail
    go_ret
    exact ⟨rfl, HB1.out⟩
  · obtain ⟨D, hD⟩ : ∃ D, D = decF b := ⟨_, rfl⟩
    have HDEC := Lib.hid (fun A n c w hn hs hc hb => decode_made A b n c w hn hs hc hb)
    have HREF := Lib.hid (fun A n c w hn hs hc hb => refDecode_made A b n c w hn hc hb hs)
    rw [← hD] at HDEC HREF
    obtain ⟨z, hz⟩ : ∃ z, z = sizeF D := ⟨_, rfl⟩
    have HZ := Lib.hid hz.symm
    obtain ⟨fg, fs, fd, hF⟩ : ∃ fg fs fd, outF D = (fg, fs, fd) := ⟨_, _, _, rfl⟩
    have HF := Lib.hid hF
    clear hD hz hF
    go_enter Try.func4, Try.ntmps4
    go_wp2_with fail
    refine (awake_any w).mono ?_
    rintro e w1 ⟨rfl, hb1⟩
    have HB1 := Lib.hid hb1
    have HS1 := Lib.hid (HS.out.below hb1)
    clear hb1
    have HM0 : Hid (MadeN 5 w1 [] none 0 0 w1) := ⟨rfl, Made.nil _ _⟩
    have E0 : Hid (b = [] ++ b) := by show _ = _; simp
    have E1 : Hid (L = 0 + L) := by show _ = _; omega
    go_wp2_with (at_builtin; refine wpList_append_to w1 rfl (.const (.slice none 0 0)) (.tmp 16) 22 rfl 5 i0 (.int .u8 0) Try.underlying22 hi hz0 hz1 hz2 rfl w1 none 0 0 [] B L cb b b L rfl rfl HM0 HS1 HL E0 E1 (by omega) ?_)
    intro A2 c2 w2 HM2 _
    have hc2 : L ≤ c2 := by have := cap_of HM2.out.2; rw [HM2.out.1] at this; exact this
    have HB2 := Lib.hid (hop HB1.out HM2.out.2.2)
    have HS2 := Lib.hid HM2.out.seen
    go_wp2_with fail
    refine (HDEC.out A2 L c2 w2 HL.out HS2.out hc2 (by omega)).mono ?_
    rintro e w3 ⟨A3, n3, c3, rfl, hm3⟩
    rw [HZ.out]
    rw [HF.out] at hm3 ⊢
    simp only at hm3 ⊢
    have HM3 := Lib.hid hm3
    have HN3 := Lib.hid hm3.1
    have HNE : Hid ((Value.slice A3 n3 c3).ownBlock ≠ some w3.heap.size) := fun e => by have := (hm3.2.1.lt _ e).2; omega
    have HB3 : Hid (Below w2.heap.size w2 (w3.alloc (.cells #[.int .i64 fg, .int .i64 fs, .slice A3 n3 c3] 24))) := hm3.2.2.alloc hm3.2.2.size _
    have HA3 : Hid (MadeN 5 w2 fd A3 n3 c3 (w3.alloc (.cells #[.int .i64 fg, .int .i64 fs, .slice A3 n3 c3] 24))) := hm3.below ((Below.refl _ _).alloc (Nat.le_refl _) _)
    have HX3 : Hid (Blk (w3.alloc (.cells #[.int .i64 fg, .int .i64 fs, .slice A3 n3 c3] 24)) w3.heap.size [.int .i64 fg, .int .i64 fs, .slice A3 n3 c3] 24) := Blk.new w3 [.int .i64 fg, .int .i64 fs, .slice A3 n3 c3] 24
    clear hm3
    go_wp2_with fail
    refine (HREF.out B L cb _ HL.out (HS.out.below (hop HB2.out HB3.out)) hcb (by omega)).mono ?_
    rintro e w4 ⟨A4, n4, c4, rfl, hm4⟩
    rw [HZ.out]
    rw [HF.out] at hm4 ⊢
    simp only at hm4 ⊢
    have hn4 : n4 = n3 := by rw [← hm4.1, HN3.out]
    subst hn4
    have hal : Below w4.heap.size w4 (w4.alloc (.cells #[.int .i64 fg, .int .i64 fs, .slice A4 n4 c4] 24)) := (Below.refl _ _).alloc (Nat.le_refl _) _
    have HA4 := Lib.hid ((HA3.out.below hm4.2.2).below hal)
    have HX4 := Lib.hid ((HX3.out.below hm4.2.2 HX3.out.lt).below hal (by have := hm4.2.2.size; simp at this; omega))
    have HD4 := Lib.hid (hm4.below hal)
    have hs4 := hm4.2.2.size
    simp only [World.size_alloc] at hs4
    obtain ⟨x0, x1, x2⟩ : (w4.alloc (.cells #[.int .i64 fg, .int .i64 fs, .slice A4 n4 c4] 24)).cell? ⟨w3.heap.size, 0, none⟩ = some (.int .i64 fg) ∧ (w4.alloc (.cells #[.int .i64 fg, .int .i64 fs, .slice A4 n4 c4] 24)).cell? ⟨w3.heap.size, 1, none⟩ = some (.int .i64 fs) ∧ (w4.alloc (.cells #[.int .i64 fg, .int .i64 fs, .slice A4 n4 c4] 24)).cell? ⟨w3.heap.size, 2, none⟩ = some (.slice A3 n4 c3) :=
      ⟨HX4.out.cell (i := 0) (by simp), HX4.out.cell (i := 1) (by simp), HX4.out.cell (i := 2) (by simp)⟩
    clear hm4 hal
    go_wp2_with fail
    refine (frames_same fg fs A3 A4 fd n4 c3 n4 c4 _ HN3.out HN3.out HA4.out.seen HD4.out.seen).mono ?_
    rintro e w5 ⟨rfl, hb5⟩
    have HA5 := Lib.hid (HA4.out.below hb5).2
    have HX5 := Lib.hid (HX4.out.below hb5 HX4.out.lt)
    have hn4 : n4 ≤ 9223372036854775807 := by
      have h1 := HA5.out.1.1
      have h2 := own_len HA5.out.1
      rcases HA5.out.1.2 with ⟨_, h0⟩ | ⟨g, cap, cur, hv, _, _, h3, h4, _⟩
      · rw [HN3.out] at h0; omega
      · rw [HN3.out] at h3; unfold maxLen at h4; omega
    clear hb5 x0 x1 x2
    go_wp2_with fail
    go_loopw [10] (fun i wr => FDR w2 w3.heap.size A3 n4 c3 fg fs i wr) (fun i _ => n4 - (intOf i).toNat)
    case atStart => exact ⟨0, fd, by omega, rfl, HA5.out, HX5.out⟩
    case round =>
      clear HA5 HX5
      obtain ⟨k, l, hk, rfl, hm, hx⟩ := hrel
      have HM := Lib.hid hm
      have HX := Lib.hid hx
      have x2 := hx.cell (i := 2) (by simp)
      simp only [List.getElem_cons_zero, List.getElem_cons_succ] at x2
      by_cases hlt : k < n4
      · obtain ⟨g, hA, ⟨v, hv⟩, hfz, hset⟩ := hm.set hlt 7
        subst hA
        have hgX : w3.heap.size ≠ g := fun e => HNE.out (by rw [e]; rfl)
        have HSET := Lib.hid hset
        have HXS := Lib.hid (hx.other ⟨g, k, none⟩ (.int .u8 7) hgX)
        clear hm hx hset
        go_wp2_with fail
        go_roundw
        case rel => exact ⟨k + 1, _, by omega, by go_num, HSET.out, HXS.out⟩
        case measure => simp [intOf]; omega
      · have U1 := text_on HS2.out L c2 HL.out wr HM.out.2
        have U2 := text_on HS.out L cb HL.out wr (hop HB2.out HM.out.2)
        have hzz : ((z : Int) == (z : Int)) = true := by simp
        clear hm hx
        generalize (⟨b.toArray⟩ : ByteArray) = T at *
        go_wp2_with fail
        go_ret
        exact ⟨ret_bool (by simp), hop HB2.out HM.out.2⟩
end Go.Proofs.Ytmngcfmlmdhpbaa
