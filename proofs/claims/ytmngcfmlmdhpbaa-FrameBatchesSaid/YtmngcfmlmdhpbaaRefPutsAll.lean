/-
  What the document's Puts comes to: the puts that the bytes are, or the error. Condition: the bytes are at most 2^40.
-/
import Derived.Test.YtmngcfmlmdhpbaaRefOne
namespace Go.Proofs.Ytmngcfmlmdhpbaa
open Go.RowKit

/-- ahead of round k -/
def PR (w : World) (Ab : Option Addr) (b : List UInt8) (N : Nat) (D : Option (List PutV)) (x s i : Value) (wr : World) : Prop :=
  ∃ (k : Nat) (ps : List PPut) (A : Option Addr) (c : Nat) (B : Option Addr) (m d : Nat) (r : List UInt8), k ≤ N ∧ i = .int .i64 k ∧ s = .slice A k c ∧ x = .slice B m d ∧ ps.length = k ∧ ListAt 45 w ps (.slice A k c) wr ∧ r.length = m ∧ m ≤ d ∧ m + k ≤ b.length ∧
    (∀ w0, Seen w0 Ab b → Seen w0 B r) ∧ D = readN (N - k) r (valsOf ps) ∧ Below w.heap.size w wr

set_option maxRecDepth 100000 in
set_option maxHeartbeats 2000000 in
theorem refPuts_any (A : Option Addr) (b : List UInt8) (L c : Nat) (w : World) (hL : b.length = L) (hs : Seen w A b) (hc : L ≤ c) (hb : L ≤ 1099511627776) :
    Calls Try.prog 20 #[.slice A L c] w (PutsOut w (putsL b)) := by
  obtain ⟨i0, hi, hz0, hz1, hz2⟩ := info_parts3 infoPut
  have HS := Lib.hid hs
  have HL := Lib.hid hL
  have HGET := Lib.hid (refGet_of A b L c w hL hs)
  have HF := get_fits (l := b)
  obtain ⟨D, hD⟩ : ∃ D, D = putsL b := ⟨_, rfl⟩
  rw [← hD]
  unfold putsL at hD
  have hbl : b.length ≤ 1099511627776 := by omega
  generalize (getL b 0 0).2 = k0 at *
  generalize (getL b 0 0).1 = N at *
  obtain ⟨hk1, hk9, hN⟩ := HF
  by_cases hk : k0 = 0
  · have HE : Hid (D = none) := by show _ = _; rw [hD, if_pos hk]
    subst hk
    clear hD hs hL
    go_enter Try.func20, Try.ntmps20
    go_wp2_with fail
    refine HGET.out.mono ?_
    rintro e w' ⟨rfl, rfl⟩
    go_wp2_with fail
    go_ret2
    exact ⟨none, 0, 0, [], by rw [HE.out]; rfl, rfl, .inl rfl, by rw [HE.out]; rfl, Below.refl _ _⟩
  · rw [if_neg hk] at hD
    have tk : ((k0 : Int) == 0) = false := by rw [beq_eq_false_iff_ne]; omega
    have hkL : k0 ≤ L := by omega
    by_cases hlt : L - k0 < N
    · have HE : Hid (D = none) := by show _ = _; rw [hD]; exact readN_many _ _ _ (by rw [List.length_drop]; omega)
      clear hD hs hL hk
      go_enter Try.func20, Try.ntmps20
      go_wp2_with fail
      refine HGET.out.mono ?_
      rintro e w' ⟨rfl, rfl⟩
      go_wp2_with fail
      go_ret2
      exact ⟨none, 0, 0, [], by rw [HE.out]; rfl, rfl, .inl rfl, by rw [HE.out]; rfl, Below.refl _ _⟩
    · obtain ⟨A2, hcut2, hs2⟩ := tail_cut_all A b L c k0 (k0 : Int) rfl hL hkL hc
      have HS2 := Lib.hid hs2
      have HD := Lib.hid hD
      have HNL : N ≤ L - k0 := by omega
      clear hD hs hL hk hs2 hlt
      go_enter Try.func20, Try.ntmps20
      go_wp2_with fail
      refine HGET.out.mono ?_
      rintro e w' ⟨rfl, rfl⟩
      go_wp2_with fail
      go_loopw [6, 7, 8] (fun x s i wr => PR w A b N D x s i wr) (fun _ _ i _ => N - (intOf i).toNat)
      case atStart =>
        exact ⟨0, [], none, 0, A2, L - k0, c - k0, b.drop k0, by omega, rfl, rfl, rfl, rfl, ListAt.start _ w, by rw [List.length_drop, HL.out], by omega, by rw [HL.out]; omega, HS2.out, HD.out, Below.refl _ _⟩
      case round =>
        clear HD HS2 HGET hcut2
        obtain ⟨k, ps, A1, c1, B, m, d, r, hk, rfl, rfl, rfl, hps, hla, hrm, hmd, hmk, hsr, hD, hbw⟩ := hrel
        have HPS := Lib.hid hps
        have HLA := Lib.hid hla
        have HRM := Lib.hid hrm
        have HSR := Lib.hid hsr
        have HD := Lib.hid hD
        have HB := Lib.hid hbw
        clear hps hla hrm hsr hD hbw
        by_cases hlt : k < N
        · have HONE := Lib.hid (refOne_any B r m d wr HRM.out hmd (by omega) (HSR.out wr (HS.out.below HB.out)))
          go_wp2_with fail
          refine HONE.out.mono ?_
          rintro e w2 (⟨hdn, A3, n3, c3, A4, n4, c4, g, C, k5, x5, rfl, hb2⟩ | ⟨q, u, A3, n3, c3, A4, n4, c4, C, k5, x5, hdn, rfl, hq1, hq2, ha1, ha2, hk5, hx5, hsu, hb2⟩)
          · have HE : Hid (D = none) := by
              show _ = _
              rw [HD.out, show N - k = (N - k - 1) + 1 from by omega, readN, hdn]
            have HB2 := Lib.hid hb2
            clear hdn hb2
            go_wp2_with fail
            go_ret2
            exact ⟨none, 0, 0, [], by rw [HE.out]; rfl, rfl, .inl rfl, by rw [HE.out]; rfl, (hop HB.out HB2.out).alloc (by have := HB.out.size; have := HB2.out.size; omega) _⟩
          · have HE : Hid (D = readN (N - (k + 1)) u (valsOf ps ++ [q])) := by
              show _ = _
              rw [HD.out, show N - k = (N - (k + 1)) + 1 from by omega, readN, hdn]
            have hless := oneL_less hdn
            have hqb := oneL_bound hdn
            have hk5m : k5 + 1 ≤ m := by rw [hk5, HRM.out] at hless; omega
            obtain ⟨q1, q2, q3⟩ := q
            simp only at hq1 hq2 ha1 ha2 hqb
            have hal : Below w2.heap.size w2 (w2.alloc (.cells #[.slice A3 n3 c3, .slice A4 n4 c4, .bool q3] 45)) := (Below.refl _ _).alloc (Nat.le_refl _) _
            have HQ2 : Hid (PutOff (w2.alloc (.cells #[.slice A3 n3 c3, .slice A4 n4 c4, .bool q3] 45)) (fun b => b < wr.heap.size) ((A3, q1, c3), (A4, q2, c4), q3)) :=
              ⟨⟨ha1.moved (Spared.of_below hal _) (fun i hi => .inl hi), by have := hqb.1; rw [HRM.out] at this; simp only; omega⟩, ⟨ha2.moved (Spared.of_below hal _) (fun i hi => .inl hi), by have := hqb.2; rw [HRM.out] at this; simp only; omega⟩⟩
            have HC2 : Hid (pcells ((A3, q1, c3), (A4, q2, c4), q3) = [.slice A3 n3 c3, .slice A4 n4 c4, .bool q3]) := by show _ = _; simp only [pcells, pv, hq1, hq2]
            have HL2 := Lib.hid ((HLA.out.below hb2).below hal)
            have HB2 := Lib.hid (hop HB.out (hop hb2 hal))
            have HK5 := Lib.hid hk5
            have HSU : Hid (∀ w0, Seen w0 A b → Seen w0 C u) := fun w0 h => hsu w0 (HSR.out w0 h)
            clear hdn hless hqb hq1 hq2 ha1 ha2 hk5 hsu hb2 hal
            go_wp2_with (at_builtin; refine wpList_append_put (w2.alloc (.cells #[.slice A3 n3 c3, .slice A4 n4 c4, .bool q3] 45)) rfl (.tmp 43) (.tmp 45) 35 rfl 45 i0 _ Try.underlying35 hi hz0 hz1 hz2 rfl w wr ps A1 k c1 ((A3, q1, c3), (A4, q2, c4), q3) _ _ _ rfl (by simp [Act.eval]) HLA.out HL2.out HPS.out HQ2.out HC2.out (by omega) ?_)
            intro A5 c5 w5 hl5 hs5
            have HL5 := Lib.hid hl5
            have HS5 := Lib.hid (hs5.below HB2.out (fun k hk => hk))
            clear hl5 hs5
            go_wp2_with fail
            go_roundw
            case rel =>
              refine ⟨k + 1, _, A5, c5, C, k5, x5, u, by omega, by go_num, rfl, rfl, by rw [List.length_append, HPS.out]; rfl, HL5.out, HK5.out, hx5, by omega, HSU.out, ?_, HS5.out⟩
              rw [HE.out]; simp [valsOf, valOf]
            case measure => simp [intOf]; omega
        · have hkN : k = N := by omega
          have HE : Hid (D = (if r = [] then some (valsOf ps) else none)) := by
            show _ = _
            rw [HD.out, hkN, Nat.sub_self, readN]
          clear hkN
          by_cases hm0 : m = 0
          · have hr0 : r = [] := List.eq_nil_of_length_eq_zero (by rw [HRM.out]; exact hm0)
            have HE' : Hid (D = some (valsOf ps)) := by show _ = _; rw [HE.out, if_pos hr0]
            subst hm0
            clear hr0 HE
            go_wp2_with fail
            go_ret2
            exact ⟨A1, k, c1, ps, by rw [HE'.out]; rfl, HPS.out, HLA.out.seen, by rw [HE'.out]; rfl, HB.out⟩
          · have hr0 : r ≠ [] := fun e => hm0 (by rw [← HRM.out, e]; rfl)
            have HE' : Hid (D = none) := by show _ = _; rw [HE.out, if_neg hr0]
            have tm : decide ((0 : Int) < (m : Int)) = true := decide_eq_true (by omega)
            clear hr0 HE
            go_wp2_with fail
            go_ret2
            exact ⟨none, 0, 0, [], by rw [HE'.out]; rfl, rfl, .inl rfl, by rw [HE'.out]; rfl, HB.out⟩
end Go.Proofs.Ytmngcfmlmdhpbaa
