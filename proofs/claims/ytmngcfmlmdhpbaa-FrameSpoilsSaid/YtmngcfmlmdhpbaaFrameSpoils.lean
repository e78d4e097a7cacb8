/-
  The statement FrameSpoils: a frame of which one byte is another one is none, or is not as long. Condition: the row's own.
-/
import Derived.Test.YtmngcfmlmdhpbaaFrameBack
namespace Go.Proofs.Ytmngcfmlmdhpbaa
open Go.RowKit

theorem spoil_size {g s : Int} {d : List UInt8} {k : Nat} {c : UInt8} (hk : k < (frameL g s d).length) (hne : (frameL g s d)[k] ≠ c) : sizeF (decF ((frameL g s d).set k c)) < (frameL g s d).length := by
  rcases h : decF ((frameL g s d).set k c) with _ | f
  · have := frameL_pos g s d
    show 0 < _; omega
  · exact spoil_shorter hk hne h

set_option maxRecDepth 100000 in
set_option maxHeartbeats 2000000 in
theorem frameSpoils_walk (g s : Int) (A : Option Addr) (d : List UInt8) (c : Nat) (p y : Int) (w : World) (g0 : -9223372036854775808 ≤ g) (g1 : g ≤ 9223372036854775807) (s0 : -9223372036854775808 ≤ s) (s1 : s ≤ 9223372036854775807) (hl : d.length ≤ 9223372036854775807) (hs : Seen w A d)
    (p0 : -9223372036854775808 ≤ p) (p1 : p ≤ 9223372036854775807) (y0 : 0 ≤ y) (y1 : y ≤ 255) :
    Calls Try.prog 8 #[.agg #[.int .i64 g, .int .i64 s, .slice A d.length c], .int .i64 p, .int .u8 y] w fun e w' => e = .returned (.bool true) ∧ Below w.heap.size w w' := by
  obtain ⟨u, hu⟩ : ∃ u : UInt8, (u.toNat : Int) = y := ⟨UInt8.ofNat y.toNat, by rw [UInt8.toNat_ofNat']; omega⟩
  subst hu
  obtain ⟨n, hn⟩ : ∃ n, n = d.length := ⟨_, rfl⟩
  rw [← hn] at hl ⊢
  have HN : Hid (d.length = n) := hn.symm
  have HBX := Lib.hid (boxed_below w g s (.slice A n c))
  have HCELL : Hid (∀ W, Below (boxed w g s (.slice A n c)).heap.size (boxed w g s (.slice A n c)) W → W.cell? ⟨w.heap.size, 0, none⟩ = some (.int .i64 g) ∧ W.cell? ⟨w.heap.size, 1, none⟩ = some (.int .i64 s) ∧ W.cell? ⟨w.heap.size, 2, none⟩ = some (.slice A n c)) := fun W hb => boxed_cells hb
  have HS := Lib.hid (hs.below HBX.out)
  obtain ⟨W0, hW0⟩ : ∃ W0, W0 = boxed w g s (.slice A n c) := ⟨_, rfl⟩
  rw [← hW0] at HBX HCELL HS
  have HW0 : Hid (W0 = w.alloc (.cells #[.int .i64 g, .int .i64 s, .slice A n c] 24)) := hW0
  clear hs hn hW0
  by_cases hlong : 1000 < n
  · go_enter Try.func8, Try.ntmps8
    go_wp2_with fail
    rw [← HW0.out]
    refine (awake_any W0).mono ?_
    rintro e w1 ⟨rfl, hb1⟩
    obtain ⟨c0, c1, c2⟩ := HCELL.out w1 hb1
    have HB1 := Lib.hid (hop HBX.out hb1)
    clear hb1
    go_wp2_with fail
    go_ret
    exact ⟨rfl, HB1.out⟩
  · have HENC := Lib.hid (fun W (hb : Below W0.heap.size W0 W) => encode_any g s A d n c W (HS.out.below hb) HN.out hl g0 g1 s0 s1)
    have hfit := encF_fits g s d
    obtain ⟨L, hL⟩ : ∃ L, L = encF g s d := ⟨_, rfl⟩
    rw [← hL] at HENC hfit
    obtain ⟨k, hk⟩ : ∃ k, k = L.length := ⟨_, rfl⟩
    rw [← hk] at hfit
    have HL := Lib.hid hL
    have HK : Hid (L.length = k) := hk.symm
    clear hL hk
    by_cases hp0 : p < 0
    · go_enter Try.func8, Try.ntmps8
      go_wp2_with fail
      rw [← HW0.out]
      refine (awake_any W0).mono ?_
      rintro e w1 ⟨rfl, hb1⟩
      obtain ⟨c0, c1, c2⟩ := HCELL.out w1 hb1
      have HB1 := Lib.hid hb1
      clear hb1
      go_wp2_with fail
      refine (HENC.out w1 HB1.out).mono ?_
      rintro e w2 ⟨A2, n2, d2, rfl, hm2⟩
      obtain rfl : n2 = k := by rw [← hm2.1, HK.out]
      have HB2 := Lib.hid (hop HBX.out (hop HB1.out hm2.2.2))
      clear hm2 c0 c1 c2
      go_wp2_with fail
      go_ret
      exact ⟨rfl, HB2.out⟩
    · obtain ⟨q, rfl⟩ := Int.eq_ofNat_of_zero_le (show 0 ≤ p by omega)
      clear hp0 p0
      by_cases hq : k ≤ q
      · have tq : decide (k ≤ q) = true := decide_eq_true hq
        have hq' : (k : Int) ≤ (q : Int) := by omega
        go_enter Try.func8, Try.ntmps8
        go_wp2_with fail
        rw [← HW0.out]
        refine (awake_any W0).mono ?_
        rintro e w1 ⟨rfl, hb1⟩
        obtain ⟨c0, c1, c2⟩ := HCELL.out w1 hb1
        have HB1 := Lib.hid hb1
        clear hb1
        go_wp2_with fail
        refine (HENC.out w1 HB1.out).mono ?_
        rintro e w2 ⟨A2, n2, d2, rfl, hm2⟩
        obtain rfl : n2 = k := by rw [← hm2.1, HK.out]
        have HB2 := Lib.hid (hop HBX.out (hop HB1.out hm2.2.2))
        clear hm2 c0 c1 c2
        go_wp2_with fail
        go_ret
        exact ⟨rfl, HB2.out⟩
      · have tq : decide ((k : Int) ≤ (q : Int)) = false := decide_eq_false (by omega)
        have hqk : q < k := by omega
        have hqL : q < L.length := by rw [HK.out]; exact hqk
        obtain ⟨x, hx⟩ : ∃ x, x = L[q] := ⟨_, rfl⟩
        by_cases hxu : x = u
        · subst hxu
          have txx : ((x.toNat : Int) == (x.toNat : Int)) = true := by simp
          have HX := Lib.hid hx
          clear hx hq
          generalize hxt : x.toNat = xt at *
          have HXT := Lib.hid hxt
          clear hxt
          go_enter Try.func8, Try.ntmps8
          go_wp2_with fail
          rw [← HW0.out]
          refine (awake_any W0).mono ?_
          rintro e w1 ⟨rfl, hb1⟩
          obtain ⟨c0, c1, c2⟩ := HCELL.out w1 hb1
          have HB1 := Lib.hid hb1
          clear hb1
          go_wp2_with fail
          refine (HENC.out w1 HB1.out).mono ?_
          rintro e w2 ⟨A2, n2, d2, rfl, hm2⟩
          obtain rfl : n2 = k := by rw [← hm2.1, HK.out]
          obtain ⟨b, off, hA, hc⟩ := hm2.seen.byte q hqL
          rw [← HX.out, HXT.out] at hc
          subst hA
          have HB2 := Lib.hid (hop HBX.out (hop HB1.out hm2.2.2))
          clear hm2 c0 c1 c2
          go_wp2_with fail
          go_ret
          exact ⟨rfl, HB2.out⟩
        · have tne : ((x.toNat : Int) == (u.toNat : Int)) = false := by rw [beq_eq_false_iff_ne]; intro e; exact hxu (UInt8.toNat_inj.1 (by omega))
          have hmay : mayB g s d.length = true := by
            cases h : mayB g s d.length with
            | true => rfl
            | false =>
              have h0 := HK.out
              rw [HL.out, encF_not h, List.length_nil] at h0
              omega
          have hLf : L = frameL g s d := by rw [HL.out, encF_may hmay]
          have HSP : Hid (sizeF (decF (L.set q u)) < k) := by
            show _ < _
            have h1 : q < (frameL g s d).length := by rw [← hLf]; exact hqL
            have h2 : (frameL g s d)[q] ≠ u := by
              intro e
              have e2 : L[q]? = some u := by rw [hLf, List.getElem?_eq_getElem h1, e]
              rw [List.getElem?_eq_getElem hqL, ← hx] at e2
              injection e2 with e2
              exact hxu e2
            have := spoil_size h1 h2
            rw [← hLf, HK.out] at this
            exact this
          have HX := Lib.hid hx
          clear hx hq hxu hmay hLf
          generalize hxt : x.toNat = xt at *
          have HXT := Lib.hid hxt
          clear hxt
          go_enter Try.func8, Try.ntmps8
          go_wp2_with fail
          rw [← HW0.out]
          refine (awake_any W0).mono ?_
          rintro e w1 ⟨rfl, hb1⟩
          obtain ⟨c0, c1, c2⟩ := HCELL.out w1 hb1
          have HB1 := Lib.hid hb1
          clear hb1
          go_wp2_with fail
          refine (HENC.out w1 HB1.out).mono ?_
          rintro e w2 ⟨A2, n2, d2, rfl, hm2⟩
          obtain rfl : n2 = k := by rw [← hm2.1, HK.out]
          obtain ⟨b, hA, ⟨v, hv⟩, hfz, hset⟩ := hm2.2.set hqk u
          obtain ⟨b', off, hA', hc⟩ := hm2.seen.byte q hqL
          rw [hA] at hA'
          injection hA' with hA'
          injection hA' with e1 e2 _
          subst e1 e2 hA
          rw [← HX.out, HXT.out, Nat.zero_add] at hc
          have HM3 : Hid (MadeN 5 w1 (L.set q u) (some ⟨b, 0, none⟩) n2 d2 (w2.setCell ⟨b, q, none⟩ (.int .u8 (u.toNat : Int)))) := ⟨by rw [List.length_set]; exact HK.out, hset⟩
          have hcap := cap_of hm2.2
          rw [hm2.1] at hcap
          clear hm2 c0 c1 c2 hv hset
          go_wp2_with fail
          refine (decode_made (some ⟨b, 0, none⟩) (L.set q u) n2 d2 _ HM3.out.1 HM3.out.seen hcap (by omega)).mono ?_
          rintro e w4 ⟨A4, n4, d4, rfl, hm4⟩
          have HB4 := Lib.hid (hop HBX.out (hop HB1.out (hop HM3.out.2.2 hm4.2.2)))
          have hsp := HSP.out
          obtain ⟨z, hz⟩ : ∃ z, z = sizeF (decF (L.set q u)) := ⟨_, rfl⟩
          rw [← hz] at hsp ⊢
          have tz : decide ((z : Int) < (n2 : Int)) = true := decide_eq_true (by omega)
          generalize outF (decF (L.set q u)) = F at *
          obtain ⟨fg, fs, fd⟩ := F
          clear hz hm4
          go_wp2_with fail
          go_ret
          exact ⟨rfl, HB4.out.alloc HB4.out.size _⟩
end Go.Proofs.Ytmngcfmlmdhpbaa
