/-
  The walk of the statement TreeMany: keys of two bytes, put in and taken out. Condition: the arguments fit 64 bits.
-/
import Derived.Test.YtaeocbgmoijedaaTrLaw
import Derived.Test.YtaeocbgmoijedaaTrDel
import Derived.Test.YtaeocbgmoijedaaTrCopyT
import Derived.BigQuiet
import Derived.Laws.Cover1
namespace Go.Proofs.Ytaeocbgmoijedaa
open Go.RowKit

theorem put_twice (W : World) (g : Nat) (L : List Kv) (A : Option Addr) (k : Key) (c : Nat) (t : TreeAt W (fun b => b = g) g 1000000 L) (h2 : Twice L) (hl : L.length ≤ 600) (hk : Seen W A k) (hk2 : k.length = 2) :
    Calls Try.prog 13 #[.pointer (some ⟨g, 0, none⟩), .slice A 2 c, .slice A 2 c] W (PutDone W g 1000000 0 (putL k k L)) := by
  refine (put_any W (fun b => b = g) (fun b hb => by subst hb; exact t.lt) g 1000000 L A A k k 2 c 2 c t (by omega) hk hk2 hk hk2 (by omega) (by omega)).mono ?_
  have hs := (h2.put hk2).size
  have hn := put_length t.srt k k
  have hle : (putL k k L).length ≤ 601 := by rw [hn]; split <;> omega
  rintro e w' ⟨hsp, ho⟩
  rcases ho with ⟨h1, rfl, h3⟩ | ⟨_, rfl, h3⟩
  · omega
  · exact ⟨rfl, h3, hsp⟩
/-- a tree of keys that are their own values -/
def ManyAt (w : World) (g : Nat) (wr : World) (L : List Kv) : Prop := Below w.heap.size w wr ∧ TreeAt wr (fun b => b = g) g 1000000 L ∧ Twice L

set_option maxHeartbeats 4000000 in
set_option maxRecDepth 100000 in
theorem treeMany_walk (a0 a1 a2 a3 : Int) (w : World) (b0l : -9223372036854775808 ≤ a0) (b0h : a0 ≤ 9223372036854775807) (b1l : -9223372036854775808 ≤ a1) (b1h : a1 ≤ 9223372036854775807) (b2l : -9223372036854775808 ≤ a2) (b2h : a2 ≤ 9223372036854775807) (b3l : -9223372036854775808 ≤ a3) (b3h : a3 ≤ 9223372036854775807) :
    Calls Try.prog 4 #[.int .i64 a0, .int .i64 a1, .int .i64 a2, .int .i64 a3] w fun e w' => e = .returned (.bool true) ∧ Below w.heap.size w w' := by
  have HAW := Lib.hid (awake_any w)
  go_enter Try.func4, Try.ntmps4
  go_wp2_with fail
  with_reducible refine HAW.out.mono ?_
  rintro e w1 ⟨rfl, hb1⟩
  have B1 := Lib.hid hb1
  clear hb1 HAW
  go_wp2_with fail
  with_reducible refine (new_any w1 1000000).mono ?_
  rintro e w2 ⟨rfl, hb2, hsz, ht2⟩
  have T2 := Lib.hid (ht2 (fun b => b = w1.heap.size) rfl)
  have B2 := Lib.hid (hop B1.out hb2)
  have HGW : Hid (w.heap.size ≤ w1.heap.size) := B1.out.size
  clear hsz ht2 hb2
  obtain ⟨g, hg⟩ : ∃ g, g = w1.heap.size := ⟨_, rfl⟩
  rw [← hg] at T2 HGW ⊢
  clear hg
  by_cases c0 : a0 < 1
  · go_wp2_with fail
    go_ret
    exact ⟨rfl, B2.out⟩
  by_cases c1 : 600 < a0
  · go_wp2_with fail
    go_ret
    exact ⟨rfl, B2.out⟩
  by_cases c2 : a1 < 1
  · go_wp2_with fail
    go_ret
    exact ⟨rfl, B2.out⟩
  by_cases c3 : 599 < a1
  · go_wp2_with fail
    go_ret
    exact ⟨rfl, B2.out⟩
  by_cases c4 : a2 < 1
  · go_wp2_with fail
    go_ret
    exact ⟨rfl, B2.out⟩
  by_cases c5 : 599 < a2
  · go_wp2_with fail
    go_ret
    exact ⟨rfl, B2.out⟩
  by_cases c6 : a3 < 0
  · go_wp2_with fail
    go_ret
    exact ⟨rfl, B2.out⟩
  by_cases c7 : a0 < a3
  · go_wp2_with fail
    go_ret
    exact ⟨rfl, B2.out⟩
  obtain ⟨N, rfl⟩ : ∃ N : Nat, a0 = (N : Int) := ⟨a0.toNat, by omega⟩
  obtain ⟨S, rfl⟩ : ∃ S : Nat, a1 = (S : Int) := ⟨a1.toNat, by omega⟩
  obtain ⟨O, rfl⟩ : ∃ O : Nat, a2 = (O : Int) := ⟨a2.toNat, by omega⟩
  obtain ⟨K, rfl⟩ : ∃ K : Nat, a3 = (K : Int) := ⟨a3.toNat, by omega⟩
  clear b0l b0h b1l b1h b2l b2h b3l b3h
  have hN : N ≤ 600 := by omega
  have HS : Hid (S ≤ 599) := by show S ≤ 599; omega
  have HO : Hid (O ≤ 599) := by show O ≤ 599; omega
  have M2 : Hid (ManyAt w g w2 []) := ⟨B2.out, T2.out, fun x hx => by cases hx⟩
  have d0 : decide ((N : Int) < 1) = false := decide_eq_false c0
  have d1 : decide (600 < (N : Int)) = false := decide_eq_false c1
  have d2 : decide ((S : Int) < 1) = false := decide_eq_false c2
  have d3 : decide (599 < (S : Int)) = false := decide_eq_false c3
  have d4 : decide ((O : Int) < 1) = false := decide_eq_false c4
  have d5 : decide (599 < (O : Int)) = false := decide_eq_false c5
  have d6 : decide ((K : Int) < 0) = false := decide_eq_false c6
  have d7 : decide (N < K) = false := decide_eq_false (by omega)
  clear T2 B2 B1
  go_wp2_with fail
  clear d0 d1 d2 d3 d4 d5 d6 d7 c0 c1 c2 c3 c4 c5 c6 c7
  go_loopg [11, 12] N (fun kx s11 s12 wr => ∃ (k : Nat) (L : List Kv), k + kx = N ∧ s12 = .int .i64 (k : Int) ∧ s11 = .int .i64 (L.length : Int) ∧ L.length ≤ k ∧ ManyAt w g wr L)
  case atStart => exact ⟨0, [], by omega, rfl, rfl, Nat.le_refl _, M2.out⟩
  case round =>
    obtain ⟨k, L, hk, rfl, rfl, hl, hm⟩ := hrel
    have HM := Lib.hid hm
    have HK := Lib.hid hk
    have HTW : Hid (Twice L) := hm.2.2
    clear M2 hm
    obtain ⟨n, hn⟩ : ∃ n, n = L.length := ⟨_, rfl⟩
    rw [← hn] at hl ⊢
    have HN := Lib.hid hn
    clear hn
    by_cases hlt : k < N
    · have hkl : (k : Int) < (N : Int) := by omega
      obtain ⟨P, hP⟩ : ∃ P, P = k * S := ⟨_, rfl⟩
      have hPb : P ≤ 600 * 599 := by rw [hP]; exact Nat.mul_le_mul (by omega) HS.out
      have hw : IntKind.i64.wrap ((k : Int) * (S : Int)) = (P : Int) := by
        have e : (k : Int) * (S : Int) = (P : Int) := by rw [hP, Int.natCast_mul]
        rw [e, IntKind.wrap_i64]; omega
      obtain ⟨x, hx⟩ : ∃ x, x = P % 601 := ⟨_, rfl⟩
      have hr : (P : Int) % 601 = (x : Int) := by omega
      have hx6 : x ≤ 600 := by omega
      have hwk : IntKind.i64.wrap ((k : Int) + 1) = ((k + 1 : Nat) : Int) := by rw [IntKind.wrap_i64]; omega
      have hwn : IntKind.i64.wrap ((n : Int) + 1) = ((n + 1 : Nat) : Int) := by rw [IntKind.wrap_i64]; omega
      clear hP hx hk
      go_wp2_with fail
      with_reducible refine (numbered_any wr x hx6).mono ?_
      rintro e w6 ⟨rfl, hs6, hb6⟩
      have S6 := Lib.hid hs6
      have T6 := Lib.hid (HM.out.2.1.below hb6)
      have B6 := Lib.hid (hop HM.out.1 hb6)
      clear hs6 hb6
      go_wp2_with fail
      with_reducible refine (get_any w6 _ g 1000000 L _ (numKey x) 2 2 T6.out S6.out (numKey_length x)).mono ?_
      rintro e w7 ⟨hb7, ⟨hh, q, rfl, _⟩ | ⟨hh, rfl⟩⟩
      · have HH := Lib.hid hh
        have T7 := Lib.hid (T6.out.below hb7)
        have S7 := Lib.hid (S6.out.below hb7)
        have B7 := Lib.hid (hop B6.out hb7)
        clear hh hb7
        unfold pv
        go_wp2_with fail
        with_reducible refine (put_twice w7 g L _ (numKey x) 2 T7.out HTW.out (by have := HN.out; omega) S7.out (numKey_length x)).mono ?_
        rintro e w8 ⟨rfl, ht8, hs8⟩
        have B8 : Hid (Below w.heap.size w w8) := hs8.below B7.out (fun k hk => by have := HGW.out; omega)
        have T8 := Lib.hid ht8
        clear ht8 hs8
        go_wp2_with fail
        go_roundg (N - (k + 1))
        case measure => have := HK.out; omega
        case rel =>
          have hle := put_length HM.out.2.1.srt (numKey x) (numKey x)
          rw [if_pos HH.out, ← HN.out] at hle
          exact ⟨k + 1, _, by omega, rfl, by rw [hle], by omega, B8.out, T8.out, HTW.out.put (numKey_length x)⟩
      · have HH := Lib.hid hh
        have T7 := Lib.hid (T6.out.below hb7)
        have S7 := Lib.hid (S6.out.below hb7)
        have B7 := Lib.hid (hop B6.out hb7)
        clear hh hb7
        go_wp2_with fail
        with_reducible refine (put_twice w7 g L _ (numKey x) 2 T7.out HTW.out (by have := HN.out; omega) S7.out (numKey_length x)).mono ?_
        rintro e w8 ⟨rfl, ht8, hs8⟩
        have B8 : Hid (Below w.heap.size w w8) := hs8.below B7.out (fun k hk => by have := HGW.out; omega)
        have T8 := Lib.hid ht8
        clear ht8 hs8
        go_wp2_with fail
        go_roundg (N - (k + 1))
        case measure => have := HK.out; omega
        case rel =>
          have hle := put_length HM.out.2.1.srt (numKey x) (numKey x)
          rw [HH.out, ← HN.out] at hle
          exact ⟨k + 1, _, by omega, rfl, by rw [hle]; rfl, by rw [hle]; show n + 1 ≤ k + 1; omega, B8.out, T8.out, HTW.out.put (numKey_length x)⟩
    · obtain rfl : k = N := by omega
      have hkl : ¬ (k : Int) < (k : Int) := by omega
      clear hlt hk HK
      go_wp2_with fail
      have HNL : Hid (L.length ≤ 600) := by show L.length ≤ 600; have := HN.out; omega
      have hn6 : n ≤ 600 := by omega
      have HMT : Hid (TreeAt wr (fun b => b = g) g 1000000 L) := HM.out.2.1
      with_reducible refine (theight_any wr _ g 1000000 L HMT.out).mono ?_
      rintro e w6 ⟨⟨H, rfl, hH⟩, hb6⟩
      rw [← HN.out] at hH
      have T6 := Lib.hid (HM.out.2.1.below hb6)
      have B6 := Lib.hid (hop HM.out.1 hb6)
      clear hb6 hl
      go_wp2_with fail
      with_reducible refine (high_any w6 H n (by omega) hH).mono ?_
      rintro e w7 ⟨rfl, rfl⟩
      have HLEN := Lib.hid (len_any w7 _ g 1000000 L T6.out)
      rw [← HN.out] at HLEN
      clear hH
      go_wp2_with fail
      with_reducible refine HLEN.out.mono ?_
      rintro e w8 ⟨rfl, rfl⟩
      clear HLEN
      go_wp2_with fail
      with_reducible refine (tsound_any w8 _ g 1000000 L T6.out).mono ?_
      rintro e w9 ⟨rfl, hb9⟩
      have M9 : Hid (ManyAt w g w9 L) := ⟨hop B6.out hb9, T6.out.below hb9, HTW.out⟩
      clear hb9 T6 B6 HM HTW HMT
      go_wp2_with fail
      go_loopg [11, 17] k (fun kx s11 s17 wr => ∃ (j : Nat) (L : List Kv), j + kx = k ∧ s17 = .int .i64 (j : Int) ∧ s11 = .int .i64 (L.length : Int) ∧ L.length ≤ 600 ∧ ManyAt w g wr L)
      case atStart => exact ⟨0, L, by omega, rfl, by rw [HN.out], HNL.out, M9.out⟩
      case round =>
        clear HN M9 HNL hn6
        obtain ⟨j, L, hj, rfl, rfl, hl, hm⟩ := hrel
        have HM := Lib.hid hm
        have HK := Lib.hid hj
        have HTW : Hid (Twice L) := hm.2.2
        have HMT : Hid (TreeAt wr (fun b => b = g) g 1000000 L) := hm.2.1
        have HLEN := Lib.hid (len_any wr _ g 1000000 L hm.2.1)
        clear hm
        obtain ⟨n, hn⟩ : ∃ n, n = L.length := ⟨_, rfl⟩
        rw [← hn] at hl HLEN ⊢
        have HN := Lib.hid hn
        clear hn
        by_cases hgo : j < k ∧ K < n
        · have hkl : (j : Int) < (k : Int) := by omega
          have hkp : (K : Int) < (n : Int) := by omega
          obtain ⟨P, hP⟩ : ∃ P, P = j * O := ⟨_, rfl⟩
          have hPb : P ≤ 600 * 599 := by rw [hP]; exact Nat.mul_le_mul (by omega) HO.out
          have hw : IntKind.i64.wrap ((j : Int) * (O : Int)) = (P : Int) := by
            have e : (j : Int) * (O : Int) = (P : Int) := by rw [hP, Int.natCast_mul]
            rw [e, IntKind.wrap_i64]; omega
          obtain ⟨x, hx⟩ : ∃ x, x = P % 601 := ⟨_, rfl⟩
          have hr : (P : Int) % 601 = (x : Int) := by omega
          have hx6 : x ≤ 600 := by omega
          have hwk : IntKind.i64.wrap ((j : Int) + 1) = ((j + 1 : Nat) : Int) := by rw [IntKind.wrap_i64]; omega
          clear hP hx hj
          go_wp2_with fail
          with_reducible refine HLEN.out.mono ?_
          rintro e w5 ⟨rfl, rfl⟩
          clear HLEN
          go_wp2_with fail
          with_reducible refine (numbered_any w5 x hx6).mono ?_
          rintro e w6 ⟨rfl, hs6, hb6⟩
          have S6 := Lib.hid hs6
          have T6 := Lib.hid (HMT.out.below hb6)
          have B6 := Lib.hid (hop HM.out.1 hb6)
          clear hs6 hb6
          go_wp2_with fail
          with_reducible refine (get_any w6 _ g 1000000 L _ (numKey x) 2 2 T6.out S6.out (numKey_length x)).mono ?_
          rintro e w7 ⟨hb7, ⟨hh, q, rfl, _⟩ | ⟨hh, rfl⟩⟩
          · skip
            have HH := Lib.hid hh
            have T7 := Lib.hid (T6.out.below hb7)
            have S7 := Lib.hid (S6.out.below hb7)
            have B7 := Lib.hid (hop B6.out hb7)
            clear hh hb7
            unfold pv
            go_wp2_with fail
            with_reducible refine (del_any w7 (fun b => b = g) (fun b hb => by subst hb; exact T7.out.lt) g 1000000 L _ (numKey x) 2 2 T7.out S7.out (numKey_length x) (by omega)).mono ?_
            rintro e w8 ⟨hs8, ho⟩
            have B8 : Hid (Below w.heap.size w w8) := hs8.below B7.out (fun k hk => by have := HGW.out; omega)
            clear hs8
            rcases ho with ⟨_, rfl, ht8⟩ | ⟨hn8, _, _⟩
            · have T8 := Lib.hid ht8
              have hsz := (sizeL_has HMT.out.srt HH.out).2
              rw [← HN.out] at hsz
              obtain ⟨n2, hn2⟩ : ∃ n2, n2 = (delL (numKey x) L).length := ⟨_, rfl⟩
              rw [← hn2] at hsz
              have hwn : IntKind.i64.wrap ((n : Int) - 1) = (n2 : Int) := by rw [IntKind.wrap_i64]; omega
              have HN2 := Lib.hid hn2
              clear ht8 hsz hn2
              go_wp2_with fail
              go_roundg (k - (j + 1))
              case measure => have := HK.out; omega
              case rel => exact ⟨j + 1, _, by omega, rfl, by rw [← HN2.out], by have := (sizeL_has HMT.out.srt HH.out).2; have := HN.out; omega, B8.out, T8.out, HTW.out.del _⟩
            · rw [HH.out] at hn8
              cases hn8
          · skip
            have HH := Lib.hid hh
            have T7 := Lib.hid (T6.out.below hb7)
            have S7 := Lib.hid (S6.out.below hb7)
            have B7 := Lib.hid (hop B6.out hb7)
            clear hh hb7
            go_wp2_with fail
            with_reducible refine (del_any w7 (fun b => b = g) (fun b hb => by subst hb; exact T7.out.lt) g 1000000 L _ (numKey x) 2 2 T7.out S7.out (numKey_length x) (by omega)).mono ?_
            rintro e w8 ⟨hs8, ho⟩
            have B8 : Hid (Below w.heap.size w w8) := hs8.below B7.out (fun k hk => by have := HGW.out; omega)
            clear hs8
            rcases ho with ⟨hn8, _, _⟩ | ⟨_, rfl, ht8⟩
            · rw [HH.out] at hn8
              cases hn8
            · have T8 := Lib.hid ht8
              clear ht8
              go_wp2_with fail
              go_roundg (k - (j + 1))
              case measure => have := HK.out; omega
              case rel => exact ⟨j + 1, L, by omega, rfl, by rw [HN.out], by have := HN.out; omega, B8.out, T8.out, HTW.out⟩
        · have hcase : (j < k ∧ ¬ K < n) ∨ j = k := by omega
          clear hgo
          rcases hcase with ⟨hlt, hkp⟩ | hjk
          all_goals first
            | (have hkl : (j : Int) < (k : Int) := by omega
               have hkp2 : ¬ (K : Int) < (n : Int) := by omega
               go_wp2_with fail
               with_reducible refine HLEN.out.mono ?_
               rintro e w5 ⟨rfl, rfl⟩
               go_wp2_with fail)
            | (have hkl : ¬ (j : Int) < (k : Int) := by omega
               go_wp2_with fail)
          all_goals
            clear HLEN
            have hl2 : L.length ≤ 600 := by have := HN.out; omega
            with_reducible refine (scan_any _ _ g 1000000 L none none [] [] 0 0 0 0 10000 HMT.out (Seen.nil _ _) rfl (Seen.nil _ _) rfl (by omega)).mono ?_
            rintro e w9 ⟨hb9, B0, acc, v, rfl, hB0, hf, hacc⟩
            rw [scan_all 10000 L (by omega) (by omega)] at hacc
            obtain ⟨A, c, rfl⟩ := hf.form
            have hlen : acc.length = n := by rw [← List.length_map (f := kv0), hacc, HN.out]
            rw [hlen] at hf ⊢
            have HF := Lib.hid hf
            have HACC := Lib.hid hacc
            have B9 := Lib.hid (hop HM.out.1 hb9)
            have T9 := Lib.hid (HMT.out.below hb9)
            have HTAIL := Lib.hid (fun (i : Nat) (h1 : 1 ≤ i) (hi : i < n) => found_two hf hacc HMT.out.srt HTW.out i h1 (by have := HN.out; omega))
            clear hf hacc hb9
            go_wp2_with fail
            go_loopg [22] (n - 1) (fun kx s wr2 => ∃ i : Nat, 1 ≤ i ∧ kx = n - i ∧ s = .int .i64 (i : Int) ∧ Below w9.heap.size w9 wr2)
            case atStart => exact ⟨1, Nat.le_refl _, rfl, rfl, Below.refl _ _⟩
            case round =>
              obtain ⟨i, h1, hk2, rfl, hbr⟩ := hrel
              have HBR := Lib.hid hbr
              have HKX := Lib.hid hk2
              clear hbr hk2
              by_cases hlt : i < n
              · have hkl : (i : Int) < (n : Int) := by omega
                obtain ⟨b, off, A1, c1, A2, c2, A3, c3, k1, k2, rfl, hcell, hord⟩ := HTAIL.out i h1 hlt
                obtain ⟨q1, q2, q3, s1, s2, s3⟩ := hcell _ HBR.out
                have hcv1 : ∀ q, (convert 31 9 (.slice A1 k1.length c1)).run Try.prog (wr.drewN q) = .ok (.string ⟨k1.toArray⟩) (wr.drewN q) := fun q => (s1.below (below_drewN (Below.refl _ _) q)).text (P := Try.prog) 31 9 5 Try.underlying31 Try.underlying5 Try.underlying9 c1
                have hcv2 : ∀ q, (convert 31 9 (.slice A2 k2.length c2)).run Try.prog (wr.drewN q) = .ok (.string ⟨k2.toArray⟩) (wr.drewN q) := fun q => (s2.below (below_drewN (Below.refl _ _) q)).text (P := Try.prog) 31 9 5 Try.underlying31 Try.underlying5 Try.underlying9 c2
                have hcv3 : ∀ q, (convert 31 9 (.slice A3 k2.length c3)).run Try.prog (wr.drewN q) = .ok (.string ⟨k2.toArray⟩) (wr.drewN q) := fun q => (s3.below (below_drewN (Below.refl _ _) q)).text (P := Try.prog) 31 9 5 Try.underlying31 Try.underlying5 Try.underlying9 c3
                have hwm : IntKind.i64.wrap ((i : Int) - 1) = (i : Int) - 1 := by rw [IntKind.wrap_i64]; omega
                have him0 : (0 : Int) ≤ (i : Int) - 1 := by omega
                have him1 : (i : Int) - 1 < (n : Int) := by omega
                have him2 : ((i : Int) - 1).toNat = i - 1 := by omega
                have hwi : IntKind.i64.wrap ((i : Int) + 1) = ((i + 1 : Nat) : Int) := by rw [IntKind.wrap_i64]; omega
                have hge : Op.bytesLess (⟨k1.toArray⟩ : ByteArray).toList (⟨k2.toArray⟩ : ByteArray).toList = true := by
                  rw [Lib.toList_data, Lib.toList_data]; exact hord
                have hge2 : Op.bytesLess k1 k2 = true := hord
                clear s1 s2 s3 hcell
                go_wp2_with fail
                go_quiet (fail)
                go_wp2_with fail
                go_roundg (n - (i + 1))
                case measure => have := HKX.out; omega
                case rel => exact ⟨i + 1, by omega, rfl, rfl, below_drewN HBR.out _⟩
              · have hkl : ¬ (i : Int) < (n : Int) := by omega
                go_wp2_with fail
                have T10 := Lib.hid (T9.out.below HBR.out)
                have B10 := Lib.hid (hop B9.out HBR.out)
                clear hkl hlt HKX HBR
                with_reducible refine (theight_any _ _ g 1000000 L T10.out).mono ?_
                rintro e w11 ⟨⟨H, rfl, hH⟩, hb11⟩
                rw [← HN.out] at hH
                have T11 := Lib.hid (T10.out.below hb11)
                have B11 := Lib.hid (hop B10.out hb11)
                clear hb11
                go_wp2_with fail
                with_reducible refine (high_any w11 H n (by omega) hH).mono ?_
                rintro e w12 ⟨rfl, rfl⟩
                have HLE := Lib.hid (len_any w12 _ g 1000000 L T11.out)
                rw [← HN.out] at HLE
                clear hH
                go_wp2_with fail
                with_reducible refine HLE.out.mono ?_
                rintro e w13 ⟨rfl, rfl⟩
                clear HLE
                go_wp2_with fail
                with_reducible refine (tsound_any w13 _ g 1000000 L T11.out).mono ?_
                rintro e w14 ⟨rfl, hb14⟩
                have B14 := Lib.hid (hop B11.out hb14)
                clear hb14
                go_wp2_with fail
                go_ret
                exact ⟨rfl, B14.out⟩
end Go.Proofs.Ytaeocbgmoijedaa
