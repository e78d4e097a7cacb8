/-
  What the document's Show comes to: the library's own function for a decimal numeral. No conditions.
-/
import Derived.Test.YtjjefjkaepbhpaaDoorChecked
import Derived.Test.YtjjefjkaepbhpaaDoorApp
import Derived.Lib.ItoaNum
namespace Go.Proofs.YtjjefjkaepbhpaaDoor
open Go.RowKit

theorem info8s : (Tryd.prog.info? 5).map (fun i => (i.zero, i.size, i.bytes)) = some (some (.int .u8 0), 1, 1) := by kernel_rfl

/-- a number's digits, the last one first; none of 0 -/
def revD (u : Nat) : List UInt8 := if u = 0 then [] else UInt8.ofNat (48 + u % 10) :: revD (u / 10)
  termination_by u
  decreasing_by omega
theorem revD_zero : revD 0 = [] := by rw [revD, if_pos rfl]
theorem revD_pos {u : Nat} (h : 0 < u) : revD u = UInt8.ofNat (48 + u % 10) :: revD (u / 10) := by rw [revD, if_neg (by omega)]
theorem revD_length : ∀ (k u : Nat), u < 10 ^ k → (revD u).length ≤ k
  | 0, u, h => by obtain rfl : u = 0 := by simpa using h
                  rw [revD_zero]; simp
  | k + 1, u, h => by
    by_cases hu : u = 0
    · subst hu; rw [revD_zero]; simp
    · rw [revD_pos (by omega), List.length_cons]
      have := revD_length k (u / 10) (by rw [Nat.pow_succ] at h; omega)
      omega
theorem dec_rev (u : Nat) (h : 0 < u) : Lib.decDigits u = (revD u).reverse := by
  induction u using Nat.strongRecOn with
  | _ u ih =>
    by_cases h10 : u < 10
    · rw [Lib.decDigits, dif_pos h10, revD_pos h, show u / 10 = 0 by omega, revD_zero, show u % 10 = u by omega]; rfl
    · rw [Lib.decDigits, dif_neg h10, ih (u / 10) (by omega) (by omega), revD_pos h, List.reverse_cons]

/-- the list, its first k and its last k turned about -/
def swapF (d : List UInt8) (k j : Nat) : UInt8 := if j < k ∨ d.length ≤ j + k then d.getD (d.length - 1 - j) 0 else d.getD j 0
def swapRow (d : List UInt8) (rest : Nat → Value) (k j : Nat) : Value := if j < d.length then bv (swapF d k j) else rest j
theorem swap_step (d : List UInt8) (rest : Nat → Value) (k : Nat) (h : k < d.length / 2) (j : Nat) :
    (if j = d.length - 1 - k then bv (d.getD k 0) else if j = k then bv (d.getD (d.length - 1 - k) 0) else swapRow d rest k j) = swapRow d rest (k + 1) j := by
  unfold swapRow
  by_cases e1 : j = d.length - 1 - k
  · rw [if_pos e1, if_pos (by omega), swapF, if_pos (by omega), show d.length - 1 - j = k by omega]
  · rw [if_neg e1]
    by_cases e2 : j = k
    · rw [if_pos e2, if_pos (by omega), swapF, if_pos (by omega), e2]
    · rw [if_neg e2]
      by_cases hj : j < d.length
      · rw [if_pos hj, if_pos hj, swapF, swapF]
        by_cases c : j < k ∨ d.length ≤ j + k
        · rw [if_pos c, if_pos (by omega)]
        · rw [if_neg c, if_neg (by omega)]
      · rw [if_neg hj, if_neg hj]
theorem swap_at (d : List UInt8) (rest : Nat → Value) (k : Nat) (h : k < d.length / 2) : swapRow d rest k k = bv (d.getD k 0) ∧ swapRow d rest k (d.length - 1 - k) = bv (d.getD (d.length - 1 - k) 0) := by
  unfold swapRow
  rw [if_pos (by omega), if_pos (by omega), swapF, if_neg (by omega), swapF, if_neg (by omega)]
  exact ⟨rfl, rfl⟩
theorem swap_end (d : List UInt8) (rest : Nat → Value) (k : Nat) (h : ¬ k < d.length / 2) (hk : k ≤ d.length / 2) (j : Nat) (hj : j < d.reverse.length) : swapRow d rest k j = .int .u8 ((d.reverse[j]).toNat : Int) := by
  have hj' : j < d.length := by simpa using hj
  unfold swapRow
  rw [if_pos hj', swapF, List.getElem_reverse]
  have e : ∀ i, (hi : i < d.length) → d.getD i 0 = d[i] := fun i hi => by rw [List.getD_eq_getElem?_getD, List.getElem?_eq_getElem hi]; rfl
  by_cases c : j < k ∨ d.length ≤ j + k
  · rw [if_pos c, e _ (by omega)]; rfl
  · rw [if_neg c, e _ hj']
    have : d.length - 1 - j = j := by omega
    simp only [this]
    rfl

theorem own_row {w : World} {B : Nat} {t : TypeId} {d : List UInt8} {g cap : Nat} (h : w.ownsRow B t 1 (.slice (some ⟨g, 0, none⟩) d.length cap) d.length (d.map bv)) :
    d.length ≤ cap ∧ B ≤ g ∧ ∃ rest, w.rowIs g t cap (swapRow d rest 0) := by
  rcases h.2 with ⟨h0, _⟩ | ⟨g', cap', cur, hv, hB, hg, hn, _, hs, ht⟩
  · cases h0
  · injection hv with h1 h2 h3
    injection h1 with h1
    injection h1 with h1
    subst h1 h3
    refine ⟨hn, hB, fun j => cur.getD j undef, cur, hg, by omega, fun i hi => ?_⟩
    unfold swapRow
    by_cases hl : i < d.length
    · rw [if_pos hl, swapF, if_neg (by omega)]
      have e1 : cur.toList[i]? = (d.map bv)[i]? := by rw [← ht, List.getElem?_take_of_lt (by omega)]
      rw [← Array.getElem?_toList, e1]
      simp [hl]
    · rw [if_neg hl]
      simp [Array.getD, show i < cur.size by omega]

set_option maxRecDepth 100000 in
set_option maxHeartbeats 1000000 in
theorem refShow_pos (n : Nat) (w : World) (h0 : 0 < n) (hn : n ≤ 9223372036854775807) :
    Calls Tryd.prog 19 #[.int .i64 (n : Int)] w fun e w' =>
      e = .returned (.string ⟨(revD n).reverse.toArray⟩) ∧ Below w.heap.size w w' := by
  obtain ⟨i0, hi0, hz0, hz1, hz2⟩ := info_parts info8s
  have HLN := Lib.hid (revD_length 19 n (by have : 10 ^ 19 = 10000000000000000000 := by decide
                                            omega))
  have t0 : ((n : Int) == 0) = false := by simp; omega
  go_enter Tryd.func19, Tryd.ntmps19
  go_wp2_with fail
  go_loopw [0, 4] (fun i v wr => ∃ (u : Nat) (d : List UInt8) (V : Value), i = .int .i64 (u : Int) ∧ V = v ∧ u ≤ 9223372036854775807 ∧ Hid (revD n = d ++ revD u) ∧ Made 5 w d V wr) (fun i _ _ => (intOf i).toNat)
  case atStart => exact ⟨n, [], _, rfl, rfl, hn, rfl, Made.nil _ _⟩
  case round =>
    obtain ⟨u, d, V, rfl, rfl, hu, H, HD⟩ := hrel
    have hdl : d.length ≤ 19 := by
      have h1 := congrArg List.length H.out
      have h2 := HLN.out
      simp only [List.length_append] at h1
      omega
    by_cases hz : u = 0
    · have t1 : ((u : Int) != 0) = false := by simp [hz]
      have HG : Hid (revD n = d) := by show _ = _; rw [H.out, hz, revD_zero, List.append_nil]
      have hpos : 0 < d.length := by rw [← HG.out, revD_pos h0]; simp
      clear hz
      obtain ⟨g, cap, rfl, hBg⟩ : ∃ g cap, V = .slice (some ⟨g, 0, none⟩) d.length cap ∧ w.heap.size ≤ g := by
        rcases HD.1.2 with ⟨_, h1⟩ | ⟨g, cap, cur, hv, hB, _⟩
        · omega
        · exact ⟨g, cap, hv, hB⟩
      obtain ⟨hcap, _, rest, hrow0⟩ := own_row HD.1
      have HR0 := Lib.hid hrow0
      have HB0 := Lib.hid HD.2
      clear hrow0 HD
      go_wp2_with fail
      go_loopw [6] (fun i wr => ∃ k : Nat, k ≤ d.length / 2 ∧ i = .int .i64 k ∧ wr.rowIs g 5 cap (swapRow d rest k) ∧ Below w.heap.size w wr) (fun i _ => d.length - (intOf i).toNat)
      case atStart => exact ⟨0, by omega, rfl, HR0.out, HB0.out⟩
      case round =>
        obtain ⟨k, hk, rfl, hrow, hbel⟩ := hrel
        have HR := Lib.hid hrow
        have HB := Lib.hid hbel
        clear hbel
        by_cases hlt : k < d.length / 2
        · have hsw := swap_at d rest k hlt
          obtain ⟨p, hp⟩ : ∃ p, p = d.getD k 0 := ⟨_, rfl⟩
          obtain ⟨q, hq⟩ : ∃ q, q = d.getD (d.length - 1 - k) 0 := ⟨_, rfl⟩
          rw [← hp, ← hq] at hsw
          have hc1 : wr.cell? ⟨g, k, none⟩ = some (bv p) := by rw [← hsw.1]; exact hrow.cell (by omega)
          have hc2 : wr.cell? ⟨g, d.length - 1 - k, none⟩ = some (bv q) := by rw [← hsw.2]; exact hrow.cell (by omega)
          have hf1 : wr.frozen? ⟨g, k, none⟩ = false := hrow.frozen _
          have hf2 : wr.frozen? ⟨g, d.length - 1 - k, none⟩ = false := hrow.frozen _
          unfold bv at hc1 hc2
          have HP := Lib.hid hp
          have HQ := Lib.hid hq
          clear hrow hsw hp hq
          go_wp2_with fail
          go_roundw
          case rel =>
            refine ⟨k + 1, by omega, by go_num, ((HR.out.set k (bv q)).set (d.length - 1 - k) (bv p)).congr (fun j _ => ?_), (HB.out.setCell (by exact hBg) _).setCell (by exact hBg) _⟩
            rw [← swap_step d rest k hlt j, HP.out, HQ.out]
          case measure => simp [intOf]; omega
        · have HS : Seen wr (some ⟨g, 0, none⟩) d.reverse := Seen.of_row hrow (by simpa using hcap) (fun j hj => swap_end d rest k hlt hk j hj)
          have hcv := HS.text (P := Tryd.prog) 22 9 5 Tryd.underlying22 Tryd.underlying5 Tryd.underlying9 cap
          rw [List.length_reverse] at hcv
          clear hrow HS
          go_wp2_with fail
          go_ret
          exact ⟨by rw [HG.out]; rfl, HB.out⟩
    · have t1 : ((u : Int) != 0) = true := by simp [hz]
      have HN : Hid (revD n = pushed d (48 + (u : Int) % 10) ++ revD (u / 10)) := by
        show _ = _
        rw [H.out, revD_pos (by omega), pushed, List.append_assoc, List.singleton_append, show (48 + (u : Int) % 10).toNat = 48 + u % 10 from by omega]
      have hpos : 1 ≤ u := by omega
      clear hz
      go_wp2_with (at_builtin; refine wpList_append_byte _ rfl _ _ 22 rfl 5 i0 (.int .u8 0) Tryd.underlying22 hi0 hz0 hz1 hz2 rfl w V d _ rfl rfl HD ?c1 ?c2 ?c3 ?_)
      case c1 => omega
      case c2 => omega
      case c3 => omega
      intro v' w' HD'
      go_wp2_with fail
      go_roundw
      case rel => exact ⟨u / 10, _, _, by go_num, rfl, by omega, HN, HD'⟩
      case measure => simp [intOf]; omega
set_option maxRecDepth 100000 in
set_option maxHeartbeats 1000000 in
theorem refShow_neg (n : Nat) (w : World) (h0 : 0 < n) (hn : n ≤ 9223372036854775808) :
    Calls Tryd.prog 19 #[.int .i64 (-(n : Int))] w fun e w' =>
      e = .returned (.string ⟨(45 :: (revD n).reverse).toArray⟩) ∧ Below w.heap.size w w' := by
  obtain ⟨i0, hi0, hz0, hz1, hz2⟩ := info_parts info8s
  have HLN := Lib.hid (revD_length 19 n (by have : 10 ^ 19 = 10000000000000000000 := by decide
                                            omega))
  have t0 : (-(n : Int) == 0) = false := by simp; omega
  go_enter Tryd.func19, Tryd.ntmps19
  go_wp2_with fail
  go_loopw [0, 4] (fun i v wr => ∃ (u : Nat) (d : List UInt8) (V : Value), i = .int .i64 (-(u : Int)) ∧ V = v ∧ u ≤ 9223372036854775808 ∧ Hid (revD n = d ++ revD u) ∧ Made 5 w d V wr) (fun i _ _ => (intOf i).natAbs)
  case atStart => exact ⟨n, [], _, rfl, rfl, hn, rfl, Made.nil _ _⟩
  case round =>
    obtain ⟨u, d, V, rfl, rfl, hu, H, HD⟩ := hrel
    have hdl : d.length ≤ 19 := by
      have h1 := congrArg List.length H.out
      have h2 := HLN.out
      simp only [List.length_append] at h1
      omega
    by_cases hz : u = 0
    · have t1 : (-(u : Int) != 0) = false := by simp [hz]
      obtain ⟨d1, hd1⟩ : ∃ d1, d1 = pushed d 45 := ⟨_, rfl⟩
      have HG : Hid (d1.reverse = 45 :: (revD n).reverse) := by
        show _ = _; rw [H.out, hz, revD_zero, List.append_nil, hd1, pushed, List.reverse_append]; rfl
      have hpos : 0 < d1.length := by rw [hd1, pushed]; simp
      have hle : d1.length ≤ 20 := by rw [hd1, pushed]; simp; omega
      have HD1 := Lib.hid hd1
      clear hz hd1
      go_wp2_with (at_builtin; refine wpList_append_byte _ rfl _ _ 22 rfl 5 i0 (.int .u8 0) Tryd.underlying22 hi0 hz0 hz1 hz2 rfl w V d _ rfl rfl HD ?c4 ?c5 ?c6 ?_)
      case c4 => omega
      case c5 => omega
      case c6 => omega
      intro V1 wr1 HE
      rw [← HD1.out] at HE
      clear HD
      obtain ⟨g, cap, rfl, hBg⟩ : ∃ g cap, V1 = .slice (some ⟨g, 0, none⟩) d1.length cap ∧ w.heap.size ≤ g := by
        rcases HE.1.2 with ⟨_, h1⟩ | ⟨g, cap, cur, hv, hB, _⟩
        · omega
        · exact ⟨g, cap, hv, hB⟩
      obtain ⟨hcap, _, rest, hrow0⟩ := own_row HE.1
      have HR0 := Lib.hid hrow0
      have HB0 := Lib.hid HE.2
      clear hrow0 HE
      go_wp2_with fail
      go_loopw [6] (fun i wr => ∃ k : Nat, k ≤ d1.length / 2 ∧ i = .int .i64 k ∧ wr.rowIs g 5 cap (swapRow d1 rest k) ∧ Below w.heap.size w wr) (fun i _ => d1.length - (intOf i).toNat)
      case atStart => exact ⟨0, by omega, rfl, HR0.out, HB0.out⟩
      case round =>
        obtain ⟨k, hk, rfl, hrow, hbel⟩ := hrel
        have HR := Lib.hid hrow
        have HB := Lib.hid hbel
        clear hbel
        by_cases hlt : k < d1.length / 2
        · have hsw := swap_at d1 rest k hlt
          obtain ⟨p, hp⟩ : ∃ p, p = d1.getD k 0 := ⟨_, rfl⟩
          obtain ⟨q, hq⟩ : ∃ q, q = d1.getD (d1.length - 1 - k) 0 := ⟨_, rfl⟩
          rw [← hp, ← hq] at hsw
          have hc1 : wr.cell? ⟨g, k, none⟩ = some (bv p) := by rw [← hsw.1]; exact hrow.cell (by omega)
          have hc2 : wr.cell? ⟨g, d1.length - 1 - k, none⟩ = some (bv q) := by rw [← hsw.2]; exact hrow.cell (by omega)
          have hf1 : wr.frozen? ⟨g, k, none⟩ = false := hrow.frozen _
          have hf2 : wr.frozen? ⟨g, d1.length - 1 - k, none⟩ = false := hrow.frozen _
          unfold bv at hc1 hc2
          have HP := Lib.hid hp
          have HQ := Lib.hid hq
          clear hrow hsw hp hq
          go_wp2_with fail
          go_roundw
          case rel =>
            refine ⟨k + 1, by omega, by go_num, ((HR.out.set k (bv q)).set (d1.length - 1 - k) (bv p)).congr (fun j _ => ?_), (HB.out.setCell (by exact hBg) _).setCell (by exact hBg) _⟩
            rw [← swap_step d1 rest k hlt j, HP.out, HQ.out]
          case measure => simp [intOf]; omega
        · have HS : Seen wr (some ⟨g, 0, none⟩) d1.reverse := Seen.of_row hrow (by simpa using hcap) (fun j hj => swap_end d1 rest k hlt hk j hj)
          have hcv := HS.text (P := Tryd.prog) 22 9 5 Tryd.underlying22 Tryd.underlying5 Tryd.underlying9 cap
          rw [List.length_reverse, HG.out] at hcv
          clear hrow HS
          go_wp2_with fail
          go_ret
          exact ⟨rfl, HB.out⟩
    · have t1 : (-(u : Int) != 0) = true := by simp [hz]
      have HN : Hid (revD n = pushed d (48 + ((u % 10 : Nat) : Int)) ++ revD (u / 10)) := by
        show _ = _
        rw [H.out, revD_pos (by omega), pushed, List.append_assoc, List.singleton_append, show (48 + ((u % 10 : Nat) : Int)).toNat = 48 + u % 10 from by omega]
      have hpos : 1 ≤ u := by omega
      have e1 : (-(u : Int)).tmod 10 = -((u % 10 : Nat) : Int) := by rw [Int.neg_tmod]; rfl
      have e2 : (-(u : Int)).tdiv 10 = -((u / 10 : Nat) : Int) := by rw [Int.neg_tdiv]; rfl
      have h10 : u % 10 < 10 := by omega
      have hdv : u / 10 < u := by omega
      clear hz
      generalize u % 10 = r at *
      generalize u / 10 = m at *
      by_cases hr : r = 0
      · subst hr
        go_wp2_with (at_builtin; refine wpList_append_byte _ rfl _ _ 22 rfl 5 i0 (.int .u8 0) Tryd.underlying22 hi0 hz0 hz1 hz2 rfl w V d _ rfl rfl HD ?c1 ?c2 ?c3 ?_)
        case c1 => omega
        case c2 => omega
        case c3 => omega
        intro v' w' HD'
        go_wp2_with fail
        go_roundw
        case rel => exact ⟨m, _, _, rfl, rfl, by omega, HN, HD'⟩
        case measure => simp [intOf]; omega
      · have hr1 : 1 ≤ r := by omega
        clear hr
        go_wp2_with (at_builtin; refine wpList_append_byte _ rfl _ _ 22 rfl 5 i0 (.int .u8 0) Tryd.underlying22 hi0 hz0 hz1 hz2 rfl w V d _ rfl rfl HD ?c7 ?c8 ?c9 ?_)
        case c7 => omega
        case c8 => omega
        case c9 => omega
        intro v' w' HD'
        go_wp2_with fail
        go_roundw
        case rel => exact ⟨m, _, _, rfl, rfl, by omega, HN, HD'⟩
        case measure => simp [intOf]; omega

set_option maxHeartbeats 400000 in
theorem refShow_zero (w : World) :
    Calls Tryd.prog 19 #[.int .i64 0] w fun e w' => e = .returned (.string ⟨#[48]⟩) ∧ w = w' := by
  go_enter Tryd.func19, Tryd.ntmps19
  go_wp2_with fail
  go_ret
  exact ⟨rfl, rfl⟩

theorem refShow_any (n : Int) (w : World) (h0 : -9223372036854775808 ≤ n) (h1 : n ≤ 9223372036854775807) :
    Calls Tryd.prog 19 #[.int .i64 n] w fun e w' =>
      e = .returned (.string ⟨(Lib.itoa n).toArray⟩) ∧ Below w.heap.size w w' := by
  rcases Int.lt_trichotomy n 0 with h | h | h
  · obtain ⟨m, rfl⟩ : ∃ m : Nat, n = -(m : Int) := ⟨n.natAbs, by omega⟩
    rw [Lib.itoa, if_pos h, show (-(m : Int)).natAbs = m from by omega, dec_rev m (by omega)]
    exact refShow_neg m w (by omega) (by omega)
  · subst h
    refine (refShow_zero w).mono ?_
    rintro e w' ⟨rfl, rfl⟩
    exact ⟨by rw [Lib.itoa, if_neg (by omega), Lib.decDigits, dif_pos (by decide)]; rfl, Below.refl _ _⟩
  · obtain ⟨m, rfl⟩ : ∃ m : Nat, n = (m : Int) := ⟨n.toNat, by omega⟩
    rw [Lib.itoa, if_neg (by omega), Int.toNat_natCast, dec_rev m (by omega)]
    exact refShow_pos m w (by omega) (by omega)
end Go.Proofs.YtjjefjkaepbhpaaDoor
