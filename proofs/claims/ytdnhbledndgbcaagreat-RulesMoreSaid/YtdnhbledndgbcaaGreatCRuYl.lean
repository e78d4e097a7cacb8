/-
  What a leaf of an expression leans on (conciergeref12's leans). Conditions: the schema is there; nothing is wrong with the leaf.
-/
import Derived.Test.YtdnhbledndgbcaaGreatCRoQe
namespace Go.Proofs.YtdnhbledndgbcaaGreat
open Go.RowKit
def overLn (s : Sc) (o : Txt) (out : Bool) (r : Rf) : Option Ln := if r.2 = [] ∧ 0 ≤ relN s (typN s r.1) o then some (((typN s r.1).toNat, (relN s (typN s r.1) o).toNat), out) else none
theorem fm_drop {α β : Type} {f : α → Option β} {l : List α} {j : Nat} (h : j < l.length) : (l.drop j).filterMap f = (f l[j]).toList ++ (l.drop (j + 1)).filterMap f := by
  rw [List.drop_eq_getElem_cons h, List.filterMap_cons]
  cases f l[j] <;> rfl
theorem own_mono {w : World} {base base' : Nat} {e : TypeId} {s n : Nat} {v : Value} {xs : List Value} (h : w.ownsRow base' e s v n xs) (hb : base ≤ base') : w.ownsRow base e s v n xs :=
  ⟨h.1, h.2.imp id (fun ⟨g, cap, cur, h1, h2, h3⟩ => ⟨g, cap, cur, h1, Nat.le_trans hb h2, h3⟩)⟩
set_option maxRecDepth 100000 in
set_option maxHeartbeats 4000000 in
theorem rleans_leaf (s : Sc) (A : Option Addr) (c : Nat) (hl : s.length ≤ 9223372036854775807) (F : Nat → Prop) {y : Nat} (hy : y < s.length) (k : Int) (n o : Txt) (out : Bool) (W : World) (E : Option Addr) (m : Nat) (hs : ScAt W F A s) (hlf : leafN s y k n o = 0) (hnd : (leafLn s y k n o out).length ≤ 1000000) :
    Calls Tryz.prog 83 #[.agg #[.slice A s.length c], .int .i64 (y : Int), .agg #[.int .i64 k, strV n, strV o, .slice E 0 m], .bool out] W (LnRow W (leafLn s y k n o out)) := by
  obtain ⟨V, hV⟩ : ∃ V, V = leafLn s y k n o out := ⟨_, rfl⟩
  rw [← hV] at hnd ⊢
  obtain ⟨W1, hW⟩ : ∃ W1, W1 = (W.alloc (.cells #[.slice A s.length c] 24)).alloc (.cells #[.int .i64 k, strV n, strV o, .slice E 0 m] 44) := ⟨_, rfl⟩
  have HKA : Hid (Blk W1 W.heap.size [.slice A s.length c] 24) := by rw [hW]; exact Lib.hid ((Blk.new W _ _).alloc _)
  have HKE : Hid (Blk W1 (W.heap.size + 1) [.int .i64 k, strV n, strV o, .slice E 0 m] 44) := by
    rw [hW]
    have := Blk.new (W.alloc (.cells #[.slice A s.length c] 24)) [.int .i64 k, strV n, strV o, .slice E 0 m] 44
    rw [World.size_alloc] at this
    exact Lib.hid this
  have HB0 : Hid (Below W.heap.size W W1) := by rw [hW]; exact Lib.hid (((Below.refl _ _).alloc (Nat.le_refl _) _).alloc (by simp) _)
  have HW := Lib.hid hW
  have HX : Hid (∀ w, Below W1.heap.size W1 w → w.cell? ⟨W.heap.size, 0, none⟩ = some (.slice A s.length c) ∧ w.cell? ⟨W.heap.size + 1, 0, none⟩ = some (.int .i64 k) ∧ w.cell? ⟨W.heap.size + 1, 1, none⟩ = some (strV n) ∧ w.cell? ⟨W.heap.size + 1, 2, none⟩ = some (strV o) ∧ w.cell? ⟨W.heap.size + 1, 3, none⟩ = some (.slice E 0 m)) := Lib.hid (fun w hw => by
    have h1 := HKA.out.below hw HKA.out.lt
    have h2 := HKE.out.below hw HKE.out.lt
    exact ⟨h1.cell (i := 0) (by simp), h2.cell (i := 0) (by simp), h2.cell (i := 1) (by simp), h2.cell (i := 2) (by simp), h2.cell (i := 3) (by simp)⟩)
  have HS : Hid (∀ w, Below W1.heap.size W1 w → ScAt w F A s) := Lib.hid (fun w hw => hs.below (HB0.out.trans (hw.mono HB0.out.size)))
  obtain ⟨i0, z0, hRW⟩ := rowLn
  have HRW := Lib.hid hRW
  have hrk : ¬ relN s y n < 0 := by
    intro h
    unfold leafN at hlf
    dsimp only at hlf
    rw [if_pos h] at hlf
    cases hlf
  have HRE : relN s (y : Int) n = relsN s[y].rels n := by unfold relN; rw [ofT_at hy]
  obtain ⟨i, hi, hri⟩ : ∃ i, i < s[y].rels.length ∧ relN s (y : Int) n = (i : Int) := by
    rcases relsN_is s[y].rels n with h | h
    · rw [HRE, h] at hrk; exact absurd (by decide : (-1 : Int) < 0) hrk
    · rw [HRE]; exact h
  have hrf : relAt s (y : Int) (i : Int) = s[y].rels[i] := by unfold relAt; rw [ofT_at hy, Int.toNat_natCast, List.getElem?_eq_getElem hi]; rfl
  have hV2 : V = ((y, i), out) :: (if k = 1 then (s[y].rels[i]).refs.filterMap (overLn s o out) else []) := by
    rw [hV]
    unfold leafLn
    rw [hri, hrf, Int.toNat_natCast]
    rfl
  have HC := Lib.hid (fun w hw => rrel_any s (y : Int) n w F A c (HS.out w hw) hl (.inr ⟨y, hy, rfl⟩))
  rw [hri] at HC
  obtain ⟨b, off, B, d, rfl, ⟨_, hrl⟩, hr, hc⟩ := RowAt.ty (HS.out W1 (Below.refl _ _)) hy
  have HCT := Lib.hid (fun w hw => (hc w hw).2)
  have HRL := Lib.hid hr
  clear hc hr hV hlf hrk HRE hri hrf hRW hW hs
  generalize s[y].rels = rs at *
  obtain ⟨g, og, B1, c1, k1', p1, p2, E1, m2, c2, rfl, ⟨_, hrf⟩, hrr, _, hcells⟩ := HRL.out.rl hi
  have HCE := Lib.hid (fun w hw => (hcells w hw).2.1)
  have HRR := Lib.hid hrr
  have HV2 := Lib.hid hV2
  clear hcells hrr hV2 HRL
  generalize rs[i].refs = rf at *
  go_enter Tryz.func83, Tryz.ntmps83
  go_wp2_with fail
  rw [← HW.out]
  go_loopw [9, 10] (fun v i wr => v = .slice none 0 0 ∧ i = .int .i64 0 ∧ Hid (Below W1.heap.size W1 wr)) (fun _ _ _ => 0)
  case atStart => exact ⟨rfl, rfl, Lib.hid (Below.refl _ _)⟩
  case round =>
    obtain ⟨rfl, rfl, BW⟩ := hrel
    obtain ⟨x0, xk, x2, x3, y3⟩ := HX.out wr BW.out
    have HC2 := Lib.hid (HC.out wr BW.out)
    go_wp2_with (first
      | (go_at_call 38; (with_reducible refine HC2.out.mono ?_); rintro r w5 ⟨rfl, hb5⟩; have HB5 := Lib.hid (hop BW.out hb5); obtain ⟨z0, zk, z1, z2, z3⟩ := HX.out w5 HB5.out; clear hb5)
      | (at_builtin; refine wpList_append_struct w5 rfl (.tmp 53) (.tmp 58) 104 rfl HRW.out (by decide) (by decide) W1 none 0 0 _ (lnC ((y, i), out)) rfl rfl (by simp [Act.eval]) HB5.out (World.ownsRow_nil _ _ _ _) (ln_one _) (by omega) ?_))
    intro A4 c4 w6 ho6 hb6 _ _
    have HO6 := Lib.hid ho6
    have HB6 := Lib.hid hb6
    have HX6 := HX.out w6 hb6
    obtain ⟨z0, zk, z1, z2, z3⟩ := HX6
    have zt := HCT.out w6 hb6
    have zr := HCE.out w6 hb6
    have HV3 : Hid (V = [((y, i), out)] ++ (if k = 1 then (rf.drop 0).filterMap (overLn s o out) else [])) := Lib.hid (by rw [HV2.out, List.drop_zero]; rfl)
    clear ho6 hb6
    go_wp2_with fail
    clear x0 xk x2 x3 y3 z0 zk z1 z2 z3 zt zr HC2 HC
    go_loopw [9, 13] (fun v i wr => ∃ (a : Nat) (acc : List Ln) (A2 : Option Addr) (n2 c2 : Nat), a ≤ rf.length ∧ i = .int .i64 a ∧ v = .slice A2 n2 c2 ∧ n2 = acc.length ∧ Hid (V = acc ++ (if k = 1 then (rf.drop a).filterMap (overLn s o out) else [])) ∧ Hid (wr.ownsRow W1.heap.size 109 3 (.slice A2 n2 c2) n2 (acc.flatMap lnC)) ∧ Hid (Below W1.heap.size W1 wr)) (fun _ i _ => rf.length - (intOf i).toNat)
    case atStart => exact ⟨0, [((y, i), out)], A4, 1, c4, by omega, rfl, rfl, rfl, HV3, HO6, HB6⟩
    case round =>
      rename World => w7
      obtain ⟨a, acc, A2, n2, c2, ha, rfl, rfl, hn2, H, HOW, B7⟩ := hrel
      obtain ⟨x0, xk, x2, x3, y3⟩ := HX.out w7 B7.out
      subst hn2
      by_cases hal : a < rf.length
      · have hal2 : ((a : Int) < (rf.length : Int)) := by omega
        by_cases hk : k = 1
        · subst hk
          have hsome : V = acc ++ (rf.drop a).filterMap (overLn s o out) := by rw [H.out, if_pos rfl]
          rw [fm_drop hal] at hsome
          have hle : acc.length ≤ 1000000 := by
            have := congrArg List.length hsome
            rw [List.length_append] at this
            omega
          obtain ⟨b3, off3, rfl, hc3⟩ := HRR.out.pair hal
          have hov : overLn s o out rf[a] = if rf[a].2 = [] ∧ 0 ≤ relN s (typN s rf[a].1) o then some (((typN s rf[a].1).toNat, (relN s (typN s rf[a].1) o).toNat), out) else none := rfl
          rw [hov] at hsome
          generalize rf[a].1 = t1 at *
          generalize rf[a].2 = t2 at *
          have HSM := Lib.hid hsome
          have hN : ∀ w, Below W1.heap.size W1 w → (Below W1.heap.size W1 w ∧ w.cell? ⟨W.heap.size, 0, none⟩ = some (.slice (some ⟨b, off, none⟩) s.length c) ∧ w.cell? ⟨W.heap.size + 1, 2, none⟩ = some (strV o) ∧ w.cell? ⟨b3, off3 + a * 2, none⟩ = some (strV t1) ∧ w.cell? ⟨b3, off3 + a * 2 + 1, none⟩ = some (strV t2)) := fun w hw => by
            have h1 := HX.out w hw
            have h2 := hc3 w hw
            exact ⟨hw, h1.1, h1.2.2.2.1, h2.1, h2.2⟩
          have HN := Lib.hid hN
          have HTC : Hid (∀ w, (Below W1.heap.size W1 w ∧ w.cell? ⟨W.heap.size, 0, none⟩ = some (.slice (some ⟨b, off, none⟩) s.length c) ∧ w.cell? ⟨W.heap.size + 1, 2, none⟩ = some (strV o) ∧ w.cell? ⟨b3, off3 + a * 2, none⟩ = some (strV t1) ∧ w.cell? ⟨b3, off3 + a * 2 + 1, none⟩ = some (strV t2)) → Calls Tryz.prog 37 #[.agg #[.slice (some ⟨b, off, none⟩) s.length c], strV t1] w fun r w' => r = .returned (.int .i64 (typN s t1)) ∧ (Below w.heap.size w w' ∧ (Below W1.heap.size W1 w' ∧ w'.cell? ⟨W.heap.size, 0, none⟩ = some (.slice (some ⟨b, off, none⟩) s.length c) ∧ w'.cell? ⟨W.heap.size + 1, 2, none⟩ = some (strV o) ∧ w'.cell? ⟨b3, off3 + a * 2, none⟩ = some (strV t1) ∧ w'.cell? ⟨b3, off3 + a * 2 + 1, none⟩ = some (strV t2)))) := Lib.hid (fun w hw => (rtyp_any s t1 w F _ c (HS.out w hw.1) hl).mono (fun r w' h => ⟨h.1, h.2, hN w' (hop hw.1 h.2)⟩))
          have HLC : Hid (∀ w, (Below W1.heap.size W1 w ∧ w.cell? ⟨W.heap.size, 0, none⟩ = some (.slice (some ⟨b, off, none⟩) s.length c) ∧ w.cell? ⟨W.heap.size + 1, 2, none⟩ = some (strV o) ∧ w.cell? ⟨b3, off3 + a * 2, none⟩ = some (strV t1) ∧ w.cell? ⟨b3, off3 + a * 2 + 1, none⟩ = some (strV t2)) → Calls Tryz.prog 38 #[.agg #[.slice (some ⟨b, off, none⟩) s.length c], .int .i64 (typN s t1), strV o] w fun r w' => r = .returned (.int .i64 (relN s (typN s t1) o)) ∧ (Below w.heap.size w w' ∧ (Below W1.heap.size W1 w' ∧ w'.cell? ⟨W.heap.size, 0, none⟩ = some (.slice (some ⟨b, off, none⟩) s.length c) ∧ w'.cell? ⟨W.heap.size + 1, 2, none⟩ = some (strV o) ∧ w'.cell? ⟨b3, off3 + a * 2, none⟩ = some (strV t1) ∧ w'.cell? ⟨b3, off3 + a * 2 + 1, none⟩ = some (strV t2)))) := Lib.hid (fun w hw => (rrel_any s (typN s t1) o w F _ c (HS.out w hw.1) hl (typN_no s t1)).mono (fun r w' h => ⟨h.1, h.2, hN w' (hop hw.1 h.2)⟩))
          have hS0 : (Below W1.heap.size W1 w7.drew ∧ w7.drew.cell? ⟨W.heap.size, 0, none⟩ = some (.slice (some ⟨b, off, none⟩) s.length c) ∧ w7.drew.cell? ⟨W.heap.size + 1, 2, none⟩ = some (strV o) ∧ w7.drew.cell? ⟨b3, off3 + a * 2, none⟩ = some (strV t1) ∧ w7.drew.cell? ⟨b3, off3 + a * 2 + 1, none⟩ = some (strV t2)) := hN w7.drew B7.out.drew
          have HTN : Hid (0 ≤ relN s (typN s t1) o → ∃ p q : Nat, typN s t1 = (p : Int) ∧ relN s (typN s t1) o = (q : Int)) := Lib.hid (fun h => by
            obtain ⟨q, hq⟩ := Int.eq_ofNat_of_zero_le h
            rcases typN_is s t1 with h1 | ⟨p, _, h1⟩
            · rw [h1] at h; unfold relN at h; rw [ofT_neg (by decide)] at h; exact absurd h (show ¬ (0 : Int) ≤ -1 by decide)
            · exact ⟨p, q, h1, hq⟩)
          clear hc3 hN hsome hov H
          generalize typN s t1 = ty at *
          generalize relN s ty o = rl at *
          go_wp2_with fail
          go_region_held_law (fun w => (Below W1.heap.size W1 w ∧ w.cell? ⟨W.heap.size, 0, none⟩ = some (.slice (some ⟨b, off, none⟩) s.length c) ∧ w.cell? ⟨W.heap.size + 1, 2, none⟩ = some (strV o) ∧ w.cell? ⟨b3, off3 + a * 2, none⟩ = some (strV t1) ∧ w.cell? ⟨b3, off3 + a * 2 + 1, none⟩ = some (strV t2)))
            (assumption)
            (first
              | (go_at_call 37; (with_reducible refine (HTC.out _ (by assumption)).mono ?_); rintro r w' ⟨rfl, hb8, hS'⟩))
          have HO8 := Lib.hid (own_spared HOW.out (Spared.of_below (hop (Below.refl w7.heap.size w7).drew hb8) (fun _ => False)) (fun k hk => hk.elim))
          obtain ⟨q0, q1, q2, q3, q4⟩ := hS'
          have HC9 := Lib.hid (HLC.out w' ⟨q0, q1, q2, q3, q4⟩)
          have HB8 := Lib.hid q0
          clear hb8 q0
          by_cases ht : t2 = []
          · subst ht
            by_cases hr0 : 0 ≤ rl
            · obtain ⟨p, q, hp, hq⟩ := HTN.out hr0
              have HN3 : Hid (V = (acc ++ [((p, q), out)]) ++ (if (1 : Int) = 1 then (rf.drop (a + 1)).filterMap (overLn s o out) else [])) := Lib.hid (by rw [HSM.out, if_pos ⟨rfl, hr0⟩, hp, hq, if_pos rfl]; simp)
              subst hp hq
              clear hr0 HSM HTN
              go_wp2_with (first | (go_at_call 38; (with_reducible refine HC9.out.mono ?_); rintro r w9 ⟨rfl, hb9, hS9⟩; have HO9 := Lib.hid (own_spared HO8.out (Spared.of_below hb9 (fun _ => False)) (fun k hk => hk.elim)); obtain ⟨v0, v1, v2, v3, v4⟩ := hS9; have HB9 := Lib.hid v0; clear hb9 v0) | (at_builtin; (refine wpList_append_struct w9 rfl (.tmp 103) (.tmp 108) 104 rfl HRW.out (by decide) (by decide) W1 A2 acc.length c2 _ (lnC ((p, q), out)) rfl rfl (by simp [Act.eval]) HB9.out HO9.out (ln_one _) hle ?_)))
              intro A5 c5 w10 ho10 hb10 _ _
              have HO10 := Lib.hid ho10
              have HB10 := Lib.hid hb10
              clear ho10 hb10
              go_wp2_with fail
              go_roundw
              case rel => exact ⟨a + 1, acc ++ [((p, q), out)], A5, acc.length + 1, c5, by omega, by go_num, rfl, by rw [List.length_append]; rfl, HN3, Lib.hid (by rw [List.flatMap_append]; simpa using HO10.out), HB10⟩
              case measure => simp [intOf]; omega
            · have HN3 : Hid (V = acc ++ (if (1 : Int) = 1 then (rf.drop (a + 1)).filterMap (overLn s o out) else [])) := Lib.hid (by rw [HSM.out, if_neg (fun h => hr0 h.2), if_pos rfl]; simp)
              have hr1 : rl < 0 := by omega
              clear hr0 HSM HTN
              go_wp2_with (go_at_call 38; (with_reducible refine HC9.out.mono ?_); rintro r w9 ⟨rfl, hb9, hS9⟩; have HO9 := Lib.hid (own_spared HO8.out (Spared.of_below hb9 (fun _ => False)) (fun k hk => hk.elim)); obtain ⟨v0, v1, v2, v3, v4⟩ := hS9; have HB9 := Lib.hid v0; clear hb9 v0)
              go_roundw
              case rel => exact ⟨a + 1, acc, A2, acc.length, c2, by omega, by go_num, rfl, rfl, HN3, HO9, HB9⟩
              case measure => simp [intOf]; omega
          · have he := nonempty ht
            have HN3 : Hid (V = acc ++ (if (1 : Int) = 1 then (rf.drop (a + 1)).filterMap (overLn s o out) else [])) := Lib.hid (by rw [HSM.out, if_neg (fun h => ht h.1), if_pos rfl]; simp)
            clear HSM HTN
            go_wp2_with (go_at_call 38; (with_reducible refine HC9.out.mono ?_); rintro r w9 ⟨rfl, hb9, hS9⟩; have HO9 := Lib.hid (own_spared HO8.out (Spared.of_below hb9 (fun _ => False)) (fun k hk => hk.elim)); obtain ⟨v0, v1, v2, v3, v4⟩ := hS9; have HB9 := Lib.hid v0; clear hb9 v0)
            go_roundw
            case rel => exact ⟨a + 1, acc, A2, acc.length, c2, by omega, by go_num, rfl, rfl, HN3, HO9, HB9⟩
            case measure => simp [intOf]; omega
        · have HN3 : Hid (V = acc) := Lib.hid (by rw [H.out, if_neg hk, List.append_nil])
          have hk1 : (k == 1) = false := beq_eq_false_iff_ne.2 hk
          go_wp2_with fail
          go_ret
          rw [HN3.out]
          exact ⟨A2, c2, rfl, own_mono HOW.out HB0.out.size, HB0.out.trans (B7.out.mono HB0.out.size)⟩
      · have HN3 : Hid (V = acc) := Lib.hid (by rw [H.out, List.drop_of_length_le (l := rf) (i := a) (by omega)]; simp)
        have hal2 : ¬ ((a : Int) < (rf.length : Int)) := by omega
        go_wp2_with fail
        go_ret
        rw [HN3.out]
        exact ⟨A2, c2, rfl, own_mono HOW.out HB0.out.size, HB0.out.trans (B7.out.mono HB0.out.size)⟩
end Go.Proofs.YtdnhbledndgbcaaGreat
