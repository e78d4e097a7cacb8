/-
  What a relation leans on (conciergeref12's all). Conditions: the schema and the relation are there; nothing is wrong with its names.
  All relations, and what each leans on (conciergeref12's rows). Conditions: the schema is there; nothing is wrong with its names; no relation leans on too many.
-/
import Derived.Test.YtdnhbledndgbcaaGreatCRuY
import Derived.Test.YtdnhbledndgbcaaGreatCRoQe
import Derived.Test.YtdnhbledndgbcaaGreatCRoI
namespace Go.Proofs.YtdnhbledndgbcaaGreat
open Go.RowKit
theorem step_append_below {P : Program} (w : World) {ops : Array Oper} {o : Oper} {a : Act} {K : Act → World → Prop} {Q : Exit → Act → World → Prop} {E : Prop} (hgd : o.guard = none) (s x : Operand) (t : TypeId)
    (ho : o.op = .call { callee := .builtin .append, args := #[s, x], argTypes := #[t, t] })
    {e : TypeId} {k b : Nat} {i : TypeInfo} {z : Value} (R : RowT P t e k b i z) (hk : 0 < k) (hb64 : b ≤ 128)
    (base : Nat) (A : Option Addr) (n c : Nat) (xs : List Value) (L : List Value) (hL : L.length = k) (hs : a.eval s = .slice A n c) (hx : a.eval x = .slice (some ⟨w.heap.size, 0, none⟩) 1 1)
    (hbase : base ≤ w.heap.size) (h : w.ownsRow base e k (.slice A n c) n xs) (hone : ∀ u ∈ L, u.oneCell' = true) (hn : n ≤ 1000000)
    (K0 : ∀ A' c' w', w'.ownsRow base e k (.slice A' (n + 1) c') (n + 1) (xs ++ L) → Below base w w' → K (a.put o.dst (.slice A' (n + 1) c')) w') :
    if Region.wanted o (yielded ops a.tmps) = true then Oper.wp P o a (w.alloc (.cells L.toArray e)) K Q else E := by
  have hw : Region.wanted o (yielded ops a.tmps) = true := by simp [Region.wanted, hgd]
  rw [if_pos hw]
  have hlist : (w.alloc (.cells L.toArray e)).ownsRow base e k (.slice A n c) n xs := h.alloc _
  have hB : base ≤ (w.alloc (.cells L.toArray e)).heap.size := by rw [World.size_alloc]; omega
  obtain ⟨v', w', hr, h2, h3, _, _⟩ := run_append_own_at (P := P) (w.alloc (.cells L.toArray e)) base t o.type e i z k b R.ht R.hi R.hz R.hs R.hb R.zs hk _ n xs hlist ⟨w.heap.size, 0, none⟩ 1 1 L (by rw [hL, Nat.one_mul]) (cells_new _ _ _) hone (by unfold maxLen; omega) (Nat.le_trans (Nat.mul_le_mul_left _ hb64) (by omega)) hB
  obtain ⟨A', c', rfl⟩ := ownrow_shape h2
  unfold Oper.wp execOp
  simp only [ho, resolve, invoke, builtin, Sem.run_bind, Sem.run_pure, Result.andThen_ok, List.map_toArray, List.map_cons, List.map_nil, hs, hx, hr]
  exact K0 A' c' w' h2 (below_grown ((Below.refl base w).alloc hbase _) hB hlist h3)
def refLn (s : Sc) (r : Rf) : Option Ln := if r.2 ≠ [] then some (((typN s r.1).toNat, (relN s (typN s r.1) r.2).toNat), false) else none
theorem relN_nat {s : Sc} {t n : Txt} (h : 0 ≤ relN s (typN s t) n) : ∃ p q : Nat, typN s t = (p : Int) ∧ relN s (typN s t) n = (q : Int) := by
  obtain ⟨q, hq⟩ := Int.eq_ofNat_of_zero_le h
  rcases typN_is s t with h1 | ⟨p, _, h1⟩
  · rw [h1] at h; unfold relN at h; rw [ofT_neg (by decide)] at h; exact absurd h (show ¬ (0 : Int) ≤ -1 by decide)
  · exact ⟨p, q, h1, hq⟩
set_option maxRecDepth 100000 in
set_option maxHeartbeats 4000000 in
theorem rall_any (s : Sc) (A : Option Addr) (c : Nat) (hl : s.length ≤ 9223372036854775807) (F : Nat → Prop) {y : Nat} (hy : y < s.length) (x : Rl) (W : World) (F' : Nat → Prop) (cs : List Value) (hs : ScAt W F A s) (hx : RlAt W F' x cs) (h0 : namesN s y x = 0) (hnd : (allN s y x).length ≤ 1000000) :
    Calls Tryz.prog 61 #[.agg #[.slice A s.length c], .int .i64 (y : Int), .agg cs.toArray] W (LnRow W (allN s y x)) := by
  obtain ⟨B, m, k, n, o, E, me, ce, rfl, ⟨hn, hrl⟩, hr, he⟩ := hx.six
  obtain ⟨nm, rf, ex⟩ := x
  dsimp only at *
  show Calls _ _ #[.agg #[.slice A s.length c], .int .i64 (y : Int), .agg #[strV nm, .slice B rf.length m, .int .i64 k, strV n, strV o, .slice E me ce]] _ _
  obtain ⟨V, hV⟩ : ∃ V, V = allN s y ⟨nm, rf, ex⟩ := ⟨_, rfl⟩
  rw [← hV] at hnd ⊢
  unfold allN at hV
  unfold namesN at h0
  dsimp only at hV h0
  obtain ⟨W1, hW⟩ : ∃ W1, W1 = (W.alloc (.cells #[.slice A s.length c] 24)).alloc (.cells #[strV nm, .slice B rf.length m, .int .i64 k, strV n, strV o, .slice E me ce] 46) := ⟨_, rfl⟩
  have HKA : Hid (Blk W1 W.heap.size [.slice A s.length c] 24) := by rw [hW]; exact Lib.hid ((Blk.new W _ _).alloc _)
  have HKE : Hid (Blk W1 (W.heap.size + 1) [strV nm, .slice B rf.length m, .int .i64 k, strV n, strV o, .slice E me ce] 46) := by
    rw [hW]
    have := Blk.new (W.alloc (.cells #[.slice A s.length c] 24)) [strV nm, .slice B rf.length m, .int .i64 k, strV n, strV o, .slice E me ce] 46
    rw [World.size_alloc] at this
    exact Lib.hid this
  have HB0 : Hid (Below W.heap.size W W1) := by rw [hW]; exact Lib.hid (((Below.refl _ _).alloc (Nat.le_refl _) _).alloc (by simp) _)
  have HW := Lib.hid hW
  have HV := Lib.hid hV
  have HX : Hid (∀ w, Below W1.heap.size W1 w → w.cell? ⟨W.heap.size, 0, none⟩ = some (.slice A s.length c) ∧ w.cell? ⟨W.heap.size + 1, 1, none⟩ = some (.slice B rf.length m) ∧ w.cell? ⟨W.heap.size + 1, 2, none⟩ = some (.int .i64 k) ∧ w.cell? ⟨W.heap.size + 1, 3, none⟩ = some (strV n) ∧ w.cell? ⟨W.heap.size + 1, 4, none⟩ = some (strV o) ∧ w.cell? ⟨W.heap.size + 1, 5, none⟩ = some (.slice E me ce)) := Lib.hid (fun w hw => by
    have h1 := HKA.out.below hw HKA.out.lt
    have h2 := HKE.out.below hw HKE.out.lt
    exact ⟨h1.cell (i := 0) (by simp), h2.cell (i := 1) (by simp), h2.cell (i := 2) (by simp), h2.cell (i := 3) (by simp), h2.cell (i := 4) (by simp), h2.cell (i := 5) (by simp)⟩)
  have HS : Hid (∀ w, Below W1.heap.size W1 w → ScAt w F A s) := Lib.hid (fun w hw => hs.below (HB0.out.trans (hw.mono HB0.out.size)))
  have HRR : Hid (RowAt 2 RfAt W F' B rf) := Lib.hid hr
  obtain ⟨i0, z0, hRW⟩ := rowLn
  have HRW := Lib.hid hRW
  by_cases hz : rf.length = 0
  · rw [if_pos hz] at h0
    have hV2 : V = leansE s y ex false := by rw [HV.out, if_pos hz]
    have HEX := Lib.hid (rleans_any s A c hl F hy ex false W1 F' _ (HS.out W1 (Below.refl _ _)) (ExAt.below HB0.out he) h0 (by rw [← hV2]; exact hnd))
    rw [← hV2] at HEX
    have hd : ((rf.length : Int) == 0) = true := beq_iff_eq.2 (by omega)
    have HEX : Hid (Calls Tryz.prog 83 #[.agg #[.slice A s.length c], .int .i64 (y : Int), .agg #[.int .i64 k, strV n, strV o, .slice E me ce], .bool false] W1 (LnRow W1 V)) := HEX
    clear hz hV hV2 h0 hW hs hr he hx
    go_enter Tryz.func61, Tryz.ntmps61
    go_wp2_with (go_at_call 83; rw [← HW.out]; refine HEX.out.mono ?_; rintro r w5 ⟨A1, c1, rfl, ho5, hb5⟩)
    go_ret
    exact ⟨A1, c1, rfl, own_mono ho5 HB0.out.size, HB0.out.trans (hb5.mono HB0.out.size)⟩
  have HN0 : Hid (∀ r ∈ rf, r.2 ≠ [] → 0 ≤ relN s (typN s r.1) r.2) := Lib.hid (by
    rw [if_neg hz] at h0
    have h1 : rf.any (refN s) = false := by
      cases h : rf.any (refN s)
      · rfl
      · rw [h] at h0; cases h0
    intro r hr h2
    refine Int.not_lt.1 (fun h3 => ?_)
    have h4 := List.any_eq_false.1 h1 r hr
    unfold refN at h4
    rw [decide_eq_true h2, decide_eq_true h3] at h4
    simp at h4)
  have HV2 : Hid (V = [] ++ (rf.drop 0).filterMap (refLn s)) := Lib.hid (by rw [HV.out, if_neg hz, List.drop_zero]; rfl)
  have hd : ((rf.length : Int) == 0) = false := beq_eq_false_iff_ne.2 (by omega)
  clear hV h0 hW hs hr he hx hRW HV
  go_enter Tryz.func61, Tryz.ntmps61
  go_wp2_with fail
  rw [← HW.out]
  go_loopw [7, 8] (fun v i wr => ∃ (a : Nat) (acc : List Ln) (A2 : Option Addr) (n2 c2 : Nat), a ≤ rf.length ∧ i = .int .i64 a ∧ v = .slice A2 n2 c2 ∧ n2 = acc.length ∧ Hid (V = acc ++ (rf.drop a).filterMap (refLn s)) ∧ Hid (wr.ownsRow W1.heap.size 109 3 (.slice A2 n2 c2) n2 (acc.flatMap lnC)) ∧ Hid (Below W1.heap.size W1 wr)) (fun _ i _ => rf.length - (intOf i).toNat)
  case atStart => exact ⟨0, [], none, 0, 0, by omega, rfl, rfl, rfl, HV2, Lib.hid (World.ownsRow_nil _ _ _ _), Lib.hid (Below.refl _ _)⟩
  case round =>
    obtain ⟨a, acc, A2, n2, c2, ha, rfl, rfl, hn2, H, HOW, BW⟩ := hrel
    obtain ⟨x0, x1, _⟩ := HX.out wr BW.out
    subst hn2
    by_cases hal : a < rf.length
    · have hal2 : ((a : Int) < (rf.length : Int)) := by omega
      have hsm : V = acc ++ ((refLn s rf[a]).toList ++ (rf.drop (a + 1)).filterMap (refLn s)) := by rw [H.out, fm_drop hal]
      have hle : acc.length ≤ 1000000 := by
        have := congrArg List.length hsm
        rw [List.length_append] at this
        omega
      have hnr := HN0.out _ (List.getElem_mem hal)
      obtain ⟨b3, off3, rfl, hc3⟩ := HRR.out.pair hal
      have hov : refLn s rf[a] = if rf[a].2 ≠ [] then some (((typN s rf[a].1).toNat, (relN s (typN s rf[a].1) rf[a].2).toNat), false) else none := rfl
      rw [hov] at hsm
      generalize rf[a].1 = t1 at *
      generalize rf[a].2 = t2 at *
      have hN : ∀ w, Below W1.heap.size W1 w → (Below W1.heap.size W1 w ∧ w.cell? ⟨W.heap.size, 0, none⟩ = some (.slice A s.length c) ∧ w.cell? ⟨W.heap.size + 1, 1, none⟩ = some (.slice (some ⟨b3, off3, none⟩) rf.length m) ∧ w.cell? ⟨b3, off3 + a * 2, none⟩ = some (strV t1) ∧ w.cell? ⟨b3, off3 + a * 2 + 1, none⟩ = some (strV t2)) := fun w hw => by
        have h1 := HX.out w hw
        have h2 := hc3 w (HB0.out.trans (hw.mono HB0.out.size))
        exact ⟨hw, h1.1, h1.2.1, h2.1, h2.2⟩
      have HN := Lib.hid hN
      by_cases ht : t2 = []
      · subst ht
        obtain ⟨_, _, _, _, q4⟩ := hN wr BW.out
        have HN3 : Hid (V = acc ++ (rf.drop (a + 1)).filterMap (refLn s)) := Lib.hid (by rw [hsm, if_neg (fun h => h rfl)]; rfl)
        clear hsm hov H hN hc3 hnr
        go_wp2_with fail
        go_roundw
        case rel => exact ⟨a + 1, acc, A2, acc.length, c2, by omega, by go_num, rfl, rfl, HN3, HOW, BW⟩
        case measure => simp [intOf]; omega
      · obtain ⟨p, q, hp, hq⟩ := relN_nat (hnr ht)
        rw [if_pos ht, hp] at hsm
        rw [hp] at hq
        rw [hq] at hsm
        have HN3 : Hid (V = (acc ++ [((p, q), false)]) ++ (rf.drop (a + 1)).filterMap (refLn s)) := Lib.hid (by rw [hsm]; simp)
        have HTC : Hid (∀ w, (Below W1.heap.size W1 w ∧ w.cell? ⟨W.heap.size, 0, none⟩ = some (.slice A s.length c) ∧ w.cell? ⟨W.heap.size + 1, 1, none⟩ = some (.slice (some ⟨b3, off3, none⟩) rf.length m) ∧ w.cell? ⟨b3, off3 + a * 2, none⟩ = some (strV t1) ∧ w.cell? ⟨b3, off3 + a * 2 + 1, none⟩ = some (strV t2)) → Calls Tryz.prog 37 #[.agg #[.slice A s.length c], strV t1] w fun r w' => r = .returned (.int .i64 (p : Int)) ∧ (Below w.heap.size w w' ∧ (Below W1.heap.size W1 w' ∧ w'.cell? ⟨W.heap.size, 0, none⟩ = some (.slice A s.length c) ∧ w'.cell? ⟨W.heap.size + 1, 1, none⟩ = some (.slice (some ⟨b3, off3, none⟩) rf.length m) ∧ w'.cell? ⟨b3, off3 + a * 2, none⟩ = some (strV t1) ∧ w'.cell? ⟨b3, off3 + a * 2 + 1, none⟩ = some (strV t2)))) := Lib.hid (fun w hw => (rtyp_any s t1 w F _ c (HS.out w hw.1) hl).mono (fun r w' h => ⟨by rw [h.1, hp], h.2, hN w' (hop hw.1 h.2)⟩))
        have HLC : Hid (∀ w, (Below W1.heap.size W1 w ∧ w.cell? ⟨W.heap.size, 0, none⟩ = some (.slice A s.length c) ∧ w.cell? ⟨W.heap.size + 1, 1, none⟩ = some (.slice (some ⟨b3, off3, none⟩) rf.length m) ∧ w.cell? ⟨b3, off3 + a * 2, none⟩ = some (strV t1) ∧ w.cell? ⟨b3, off3 + a * 2 + 1, none⟩ = some (strV t2)) → Calls Tryz.prog 38 #[.agg #[.slice A s.length c], .int .i64 (p : Int), strV t2] w fun r w' => r = .returned (.int .i64 (q : Int)) ∧ (Below w.heap.size w w' ∧ (Below W1.heap.size W1 w' ∧ w'.cell? ⟨W.heap.size, 0, none⟩ = some (.slice A s.length c) ∧ w'.cell? ⟨W.heap.size + 1, 1, none⟩ = some (.slice (some ⟨b3, off3, none⟩) rf.length m) ∧ w'.cell? ⟨b3, off3 + a * 2, none⟩ = some (strV t1) ∧ w'.cell? ⟨b3, off3 + a * 2 + 1, none⟩ = some (strV t2)))) := Lib.hid (fun w hw => (rrel_any s (p : Int) t2 w F _ c (HS.out w hw.1) hl (by rw [← hp]; exact typN_no s t1)).mono (fun r w' h => ⟨by rw [h.1, hq], h.2, hN w' (hop hw.1 h.2)⟩))
        have he2 := nonempty ht
        have hS0 : (Below W1.heap.size W1 wr.drew ∧ wr.drew.cell? ⟨W.heap.size, 0, none⟩ = some (.slice A s.length c) ∧ wr.drew.cell? ⟨W.heap.size + 1, 1, none⟩ = some (.slice (some ⟨b3, off3, none⟩) rf.length m) ∧ wr.drew.cell? ⟨b3, off3 + a * 2, none⟩ = some (strV t1) ∧ wr.drew.cell? ⟨b3, off3 + a * 2 + 1, none⟩ = some (strV t2)) := hN wr.drew BW.out.drew
        obtain ⟨_, _, _, _, q4⟩ := hN wr BW.out
        clear hsm hov H hN hc3 hnr hp hq ht
        go_wp2_with fail
        clear q4
        go_region_held_law (fun w => (Below W1.heap.size W1 w ∧ w.cell? ⟨W.heap.size, 0, none⟩ = some (.slice A s.length c) ∧ w.cell? ⟨W.heap.size + 1, 1, none⟩ = some (.slice (some ⟨b3, off3, none⟩) rf.length m) ∧ w.cell? ⟨b3, off3 + a * 2, none⟩ = some (strV t1) ∧ w.cell? ⟨b3, off3 + a * 2 + 1, none⟩ = some (strV t2)))
          (assumption)
          (first
            | (go_at_call 37; (with_reducible refine (HTC.out _ (by assumption)).mono ?_); rintro r w' ⟨rfl, hb8, hS'⟩))
        have HO8 := Lib.hid (own_spared HOW.out (Spared.of_below (hop (Below.refl wr.heap.size wr).drew hb8) (fun _ => False)) (fun k hk => hk.elim))
        have hS8 : (Below W1.heap.size W1 w'.drew ∧ w'.drew.cell? ⟨W.heap.size, 0, none⟩ = some (.slice A s.length c) ∧ w'.drew.cell? ⟨W.heap.size + 1, 1, none⟩ = some (.slice (some ⟨b3, off3, none⟩) rf.length m) ∧ w'.drew.cell? ⟨b3, off3 + a * 2, none⟩ = some (strV t1) ∧ w'.drew.cell? ⟨b3, off3 + a * 2 + 1, none⟩ = some (strV t2)) := HN.out w'.drew hS'.1.drew
        clear hb8
        go_wp2_with fail
        have HO9 := Lib.hid (own_spared HO8.out (Spared.of_below (Below.refl w'.heap.size w').drew (fun _ => False)) (fun k hk => hk.elim))
        go_region_held_law (fun w => (Below W1.heap.size W1 w ∧ w.cell? ⟨W.heap.size, 0, none⟩ = some (.slice A s.length c) ∧ w.cell? ⟨W.heap.size + 1, 1, none⟩ = some (.slice (some ⟨b3, off3, none⟩) rf.length m) ∧ w.cell? ⟨b3, off3 + a * 2, none⟩ = some (strV t1) ∧ w.cell? ⟨b3, off3 + a * 2 + 1, none⟩ = some (strV t2)))
          (first | assumption | exact HN.out _ (HBQ.out.alloc HBQ.out.size _))
          (first
            | (go_at_call 38; (with_reducible refine (HLC.out _ (by assumption)).mono ?_); rintro r w9 ⟨rfl, hb9, hS9⟩; have HBQ := Lib.hid hS9.1; have HOA := Lib.hid (own_spared HO9.out (Spared.of_below hb9 (fun _ => False)) (fun k hk => hk.elim)); clear hb9)
            | (refine step_append_below w9 rfl (.tmp 41) (.tmp 53) 104 rfl HRW.out (by decide) (by decide) W1.heap.size A2 acc.length c2 (acc.flatMap lnC) (lnC ((p, q), false)) rfl (by first | rfl | (simp [Act.eval]; done)) (by first | rfl | (simp [Act.eval]; done)) HBQ.out.size HOA.out (ln_one _) hle ?_; intro A4 c4 w10 ho10 hb10; have HO10 := Lib.hid ho10; have HB10 := Lib.hid (HBQ.out.trans hb10); have hS10 := HN.out w10 HB10.out; clear ho10 hb10))
        go_wp2_with fail
        go_roundw
        case rel => exact ⟨a + 1, acc ++ [((p, q), false)], A4, acc.length + 1, c4, by omega, by go_num, rfl, by rw [List.length_append]; rfl, HN3, Lib.hid (by rw [List.flatMap_append]; simpa using HO10.out), HB10⟩
        case measure => simp [intOf]; omega
    · have HN3 : Hid (V = acc) := Lib.hid (by rw [H.out, List.drop_of_length_le (l := rf) (i := a) (by omega)]; simp)
      have hal2 : ¬ ((a : Int) < (rf.length : Int)) := by omega
      go_wp2_with fail
      go_ret
      rw [HN3.out]
      exact ⟨A2, c2, rfl, own_mono HOW.out HB0.out.size, HB0.out.trans (BW.out.mono HB0.out.size)⟩
end Go.Proofs.YtdnhbledndgbcaaGreat
namespace Go.Proofs.YtdnhbledndgbcaaGreat
open Go.RowKit
theorem keeps_rw : Keeps RwAt := fun _ _ _ _ hs hG _ _ h => h.moved hs hG
theorem rowRw : ∃ i z, RowT Tryz.prog 74 107 3 40 i z := by
  have hf : (Tryz.prog.info? 107).map (fun i => (i.zero, i.size, i.bytes)) = some (some (.agg #[.int .i64 0, .int .i64 0, .slice none 0 0]), 3, 40) := by kernel_rfl
  obtain ⟨i, hi, hz, hs, hb⟩ := info_parts hf
  exact ⟨i, _, Tryz.underlying74, hi, hz, hs, hb, rfl⟩
theorem rowsR_drop {s : Sc} {t : Nat} {l : List Rl} {k : Nat} (h : k < l.length) : rowsR s t (l.drop k) k = ((t, k), allN s t l[k]) :: rowsR s t (l.drop (k + 1)) (k + 1) := by
  rw [List.drop_eq_getElem_cons h, rowsR]
theorem rowsT_drop {s l : Sc} {t : Nat} (h : t < l.length) : rowsT s (l.drop t) t = rowsR s t l[t].rels 0 ++ rowsT s (l.drop (t + 1)) (t + 1) := by
  rw [List.drop_eq_getElem_cons h, rowsT]
structure RwOk (s : Sc) : Prop where
  len : s.length ≤ 16
  rels : ∀ t ∈ s, t.rels.length ≤ 16
  ok : OkN s
  few : ∀ i (hi : i < s.length) k (hk : k < s[i].rels.length), (allN s i s[i].rels[k]).length ≤ 1000000
def RwsAre (W : World) (w : List Rw) (e : Ending) (w' : World) : Prop := ∃ A c, e = .returned (.slice A w.length c) ∧ RowAt 3 RwAt w' (fun k => k < W.heap.size) A w ∧ Below W.heap.size W w'
set_option maxRecDepth 100000 in
set_option maxHeartbeats 4000000 in
theorem rrows_any (s : Sc) (A : Option Addr) (c : Nat) (hk : RwOk s) (F : Nat → Prop) (W : World) (hs : ScAt W F A s) :
    Calls Tryz.prog 34 #[.agg #[.slice A s.length c]] W (RwsAre W (rowsN s)) := by
  obtain ⟨V, hV⟩ : ∃ V, V = rowsN s := ⟨_, rfl⟩
  rw [← hV]
  unfold rowsN at hV
  have hl : s.length ≤ 9223372036854775807 := by have := hk.len; omega
  obtain ⟨W1, hW⟩ : ∃ W1, W1 = W.alloc (.cells #[.slice A s.length c] 24) := ⟨_, rfl⟩
  have HKA : Hid (Blk W1 W.heap.size [.slice A s.length c] 24) := by rw [hW]; exact Lib.hid (Blk.new W _ _)
  have HB0 : Hid (Below W.heap.size W W1) := by rw [hW]; exact Lib.hid ((Below.refl _ _).alloc (Nat.le_refl _) _)
  have HZ1 : Hid (W1.heap.size = W.heap.size + 1) := by rw [hW]; exact Lib.hid (by simp)
  have HW := Lib.hid hW
  have HX : Hid (∀ w, Below W1.heap.size W1 w → w.cell? ⟨W.heap.size, 0, none⟩ = some (.slice A s.length c)) := Lib.hid (fun w hw => (HKA.out.below hw HKA.out.lt).cell (i := 0) (by simp))
  have HF : Hid (∀ w, Below W1.heap.size W1 w → Below W.heap.size W w) := Lib.hid (fun w hw => HB0.out.trans (hw.mono HB0.out.size))
  have HS : Hid (∀ w, Below W1.heap.size W1 w → ScAt w F A s) := Lib.hid (fun w hw => hs.below (HF.out w hw))
  have HR : Hid (RowAt 2 TyAt W F A s) := Lib.hid hs
  have HV : Hid (V = [] ++ rowsT s (s.drop 0) 0) := Lib.hid (by rw [hV, List.drop_zero]; rfl)
  have HKO := Lib.hid hk
  obtain ⟨i0, z0, hRW⟩ := rowRw
  have HRW := Lib.hid hRW
  have hs16 := hk.len
  clear hV hW hs hk hRW
  go_enter Tryz.func34, Tryz.ntmps34
  go_wp2_with fail
  rw [← HW.out]
  go_loopw [3, 4] (fun v i wr => ∃ (j : Nat) (ps : List (Rw × List Value)) (A2 : Option Addr) (n2 c2 : Nat), j ≤ s.length ∧ i = .int .i64 j ∧ v = .slice A2 n2 c2 ∧ n2 ≤ 16 * j ∧ Hid (V = ps.map (·.1) ++ rowsT s (s.drop j) j) ∧ Hid (RowOf RwAt wr W1.heap.size 107 3 W.heap.size A2 n2 c2 ps) ∧ Hid (Below W1.heap.size W1 wr)) (fun _ i _ => s.length - (intOf i).toNat)
  case atStart => exact ⟨0, [], none, 0, 0, by omega, rfl, rfl, by omega, HV, Lib.hid (RowOf.nil _ _ _ _ _), Lib.hid (Below.refl _ _)⟩
  case round =>
    obtain ⟨j, ps, A2, n2, c2, hj, rfl, rfl, hn2, H, HRO, BW⟩ := hrel
    have x0 := HX.out wr BW.out
    by_cases hlt : j < s.length
    · have HD := Lib.hid (rowsT_drop (s := s) hlt)
      have hr16 := HKO.out.rels _ (List.getElem_mem hlt)
      have HFW := Lib.hid (HKO.out.few j hlt)
      have HIN : Hid (∀ k (hk : k < s[j].rels.length), ∀ c ∈ allN s j s[j].rels[k], c.1.1 ≤ 16 ∧ c.1.2 ≤ 16) := Lib.hid (fun k hk c hc => by
        obtain ⟨h1, h2⟩ := (all_is HKO.out.ok hlt hk).2 c hc
        have h3 := HKO.out.rels _ (List.getElem_mem h1)
        exact ⟨by omega, by omega⟩)
      have HNM := Lib.hid (HKO.out.ok.names j hlt)
      obtain ⟨b, off, B, d, rfl, ⟨_, hrl⟩, hr, hc⟩ := HR.out.ty hlt
      have HCT := Lib.hid (fun w hw => (hc w hw).2)
      have HRX := Lib.hid hr
      have z1 := HCT.out wr (HF.out wr BW.out)
      clear hc hr
      have HN : Hid (V = ps.map (·.1) ++ (rowsR s j (s[j].rels.drop 0) 0 ++ rowsT s (s.drop (j + 1)) (j + 1))) := Lib.hid (by rw [H.out, HD.out]; rfl)
      generalize s[j].rels = rx at *
      go_wp2_with fail
      clear H HD x0 z1
      go_loopw [3, 5] (fun v i w4 => ∃ (k : Nat) (ps : List (Rw × List Value)) (A2 : Option Addr) (n2 c2 : Nat), k ≤ rx.length ∧ i = .int .i64 k ∧ v = .slice A2 n2 c2 ∧ n2 ≤ 16 * j + k ∧ Hid (V = ps.map (·.1) ++ (rowsR s j (rx.drop k) k ++ rowsT s (s.drop (j + 1)) (j + 1))) ∧ Hid (RowOf RwAt w4 W1.heap.size 107 3 W.heap.size A2 n2 c2 ps) ∧ Hid (Below W1.heap.size W1 w4)) (fun _ i _ => rx.length - (intOf i).toNat)
      case atStart => exact ⟨0, ps, A2, n2, c2, by omega, rfl, rfl, by omega, HN, HRO, BW⟩
      case round =>
        rename World => w4
        clear HN BW HRO hn2
        obtain ⟨k, ps, A2, n2, c2, hk, rfl, rfl, hn2, H, HRO, BW⟩ := hrel
        have x0 := HX.out w4 BW.out
        have z1 := HCT.out w4 (HF.out w4 BW.out)
        by_cases hkl : k < rx.length
        · have HD := Lib.hid (rowsR_drop (s := s) (t := j) hkl)
          obtain ⟨g, og, n1, B1, m1, c1, k1, p1, q1, E1, m2, c2', rfl, hE, hcells⟩ := HRX.out.rel hkl
          have hN : ∀ w, Below W1.heap.size W1 w → (Below W1.heap.size W1 w ∧ w.cell? ⟨W.heap.size, 0, none⟩ = some (.slice (some ⟨b, off, none⟩) s.length c) ∧ w.cell? ⟨b, off + j * 2 + 1, none⟩ = some (.slice (some ⟨g, og, none⟩) rx.length d) ∧ (w.cell? ⟨g, og + k * 6, none⟩ = some (strV n1) ∧ w.cell? ⟨g, og + k * 6 + 1, none⟩ = some (.slice B1 m1 c1) ∧ w.cell? ⟨g, og + k * 6 + 2, none⟩ = some (.int .i64 k1) ∧ w.cell? ⟨g, og + k * 6 + 3, none⟩ = some (strV p1) ∧ w.cell? ⟨g, og + k * 6 + 4, none⟩ = some (strV q1) ∧ w.cell? ⟨g, og + k * 6 + 5, none⟩ = some (.slice E1 m2 c2'))) := fun w hw => ⟨hw, HX.out w hw, HCT.out w (HF.out w hw), hcells w (HF.out w hw)⟩
          have HN := Lib.hid hN
          obtain ⟨ls, hls⟩ : ∃ ls, ls = allN s j rx[k] := ⟨_, rfl⟩
          have HRC : Hid (∀ w, (Below W1.heap.size W1 w ∧ w.cell? ⟨W.heap.size, 0, none⟩ = some (.slice (some ⟨b, off, none⟩) s.length c) ∧ w.cell? ⟨b, off + j * 2 + 1, none⟩ = some (.slice (some ⟨g, og, none⟩) rx.length d) ∧ (w.cell? ⟨g, og + k * 6, none⟩ = some (strV n1) ∧ w.cell? ⟨g, og + k * 6 + 1, none⟩ = some (.slice B1 m1 c1) ∧ w.cell? ⟨g, og + k * 6 + 2, none⟩ = some (.int .i64 k1) ∧ w.cell? ⟨g, og + k * 6 + 3, none⟩ = some (strV p1) ∧ w.cell? ⟨g, og + k * 6 + 4, none⟩ = some (strV q1) ∧ w.cell? ⟨g, og + k * 6 + 5, none⟩ = some (.slice E1 m2 c2'))) → Calls Tryz.prog 61 #[.agg #[.slice (some ⟨b, off, none⟩) s.length c], .int .i64 (j : Int), .agg #[strV n1, .slice B1 m1 c1, .int .i64 k1, strV p1, strV q1, .slice E1 m2 c2']] w fun r w' => LnRow w ls r w' ∧ (Below W1.heap.size W1 w' ∧ w'.cell? ⟨W.heap.size, 0, none⟩ = some (.slice (some ⟨b, off, none⟩) s.length c) ∧ w'.cell? ⟨b, off + j * 2 + 1, none⟩ = some (.slice (some ⟨g, og, none⟩) rx.length d) ∧ (w'.cell? ⟨g, og + k * 6, none⟩ = some (strV n1) ∧ w'.cell? ⟨g, og + k * 6 + 1, none⟩ = some (.slice B1 m1 c1) ∧ w'.cell? ⟨g, og + k * 6 + 2, none⟩ = some (.int .i64 k1) ∧ w'.cell? ⟨g, og + k * 6 + 3, none⟩ = some (strV p1) ∧ w'.cell? ⟨g, og + k * 6 + 4, none⟩ = some (strV q1) ∧ w'.cell? ⟨g, og + k * 6 + 5, none⟩ = some (.slice E1 m2 c2')))) := Lib.hid (fun w hw => by
            rw [hls]
            exact (rall_any s _ c hl F hlt rx[k] w F _ (HS.out w hw.1) (hE.below (HF.out w hw.1)) (HNM.out k hkl) (HFW.out k hkl)).mono (fun r w' h => ⟨h, hN w' (hop hw.1 h.choose_spec.choose_spec.2.2)⟩))
          have HLB : Hid (∀ x ∈ ls, x.1.1 ≤ 16 ∧ x.1.2 ≤ 16) := Lib.hid (by rw [hls]; exact HIN.out k hkl)
          have HLL : Hid (ls.length ≤ 1000000) := Lib.hid (by rw [hls]; exact HFW.out k hkl)
          have HN3 : Hid (V = (ps.map (·.1) ++ [((j, k), ls)]) ++ (rowsR s j (rx.drop (k + 1)) (k + 1) ++ rowsT s (s.drop (j + 1)) (j + 1))) := Lib.hid (by rw [H.out, HD.out, hls]; simp)
          have hS0 : (Below W1.heap.size W1 w4.drew ∧ w4.drew.cell? ⟨W.heap.size, 0, none⟩ = some (.slice (some ⟨b, off, none⟩) s.length c) ∧ w4.drew.cell? ⟨b, off + j * 2 + 1, none⟩ = some (.slice (some ⟨g, og, none⟩) rx.length d) ∧ (w4.drew.cell? ⟨g, og + k * 6, none⟩ = some (strV n1) ∧ w4.drew.cell? ⟨g, og + k * 6 + 1, none⟩ = some (.slice B1 m1 c1) ∧ w4.drew.cell? ⟨g, og + k * 6 + 2, none⟩ = some (.int .i64 k1) ∧ w4.drew.cell? ⟨g, og + k * 6 + 3, none⟩ = some (strV p1) ∧ w4.drew.cell? ⟨g, og + k * 6 + 4, none⟩ = some (strV q1) ∧ w4.drew.cell? ⟨g, og + k * 6 + 5, none⟩ = some (.slice E1 m2 c2'))) := hN w4.drew BW.out.drew
          clear hcells hN hls H HD hE
          go_wp2_with fail
          go_region_held_law (fun w => (Below W1.heap.size W1 w ∧ w.cell? ⟨W.heap.size, 0, none⟩ = some (.slice (some ⟨b, off, none⟩) s.length c) ∧ w.cell? ⟨b, off + j * 2 + 1, none⟩ = some (.slice (some ⟨g, og, none⟩) rx.length d) ∧ (w.cell? ⟨g, og + k * 6, none⟩ = some (strV n1) ∧ w.cell? ⟨g, og + k * 6 + 1, none⟩ = some (.slice B1 m1 c1) ∧ w.cell? ⟨g, og + k * 6 + 2, none⟩ = some (.int .i64 k1) ∧ w.cell? ⟨g, og + k * 6 + 3, none⟩ = some (strV p1) ∧ w.cell? ⟨g, og + k * 6 + 4, none⟩ = some (strV q1) ∧ w.cell? ⟨g, og + k * 6 + 5, none⟩ = some (.slice E1 m2 c2'))))
            (assumption)
            (first
              | (go_at_call 61; (with_reducible refine (HRC.out _ (by assumption)).mono ?_); rintro r w' ⟨⟨A1, c1', rfl, ho5, hb5⟩, hS'⟩))
          have HO5 := Lib.hid ho5
          have hsp : Spared w4 w' (fun _ => False) := Spared.of_below (hop (Below.refl w4.heap.size w4).drew hb5) (fun _ => False)
          have HRO5 : Hid (RowOf RwAt w' W1.heap.size 107 3 W.heap.size A2 n2 c2 ps) := Lib.hid (HRO.out.spared keeps_rw (by have := HZ1.out; omega) (hsp.mono (fun _ h => h.elim)))
          have HOB := Lib.hid (own_lt HRO.out.own)
          have HB5 := Lib.hid hS'.1
          have hn6 : n2 ≤ 1000000 := by omega
          clear hsp ho5 hb5 hS'
          go_wp2_with (at_builtin; (refine wpList_append_struct w' rfl (.tmp 37) (.tmp 42) 74 rfl HRW.out (by decide) (by decide) W1 A2 n2 c2 _ [iv j, iv k, .slice A1 ls.length c1'] rfl rfl (by simp [Act.eval]) HB5.out HRO5.out.own (fun u hu => by simp only [List.mem_cons, List.not_mem_nil, or_false] at hu; rcases hu with rfl | rfl | rfl <;> rfl) hn6 ?_))
          intro A' c'' w7 hown hbel hg hat
          have HP : Hid (RowOf RwAt w7 W1.heap.size 107 3 W.heap.size A' (n2 + 1) c'' (ps ++ [(((j, k), ls), [iv j, iv k, .slice A1 ls.length c1'])])) := Lib.hid (HRO5.out.push keeps_rw rfl (by
            refine ⟨A1, c1', rfl, ⟨by dsimp only; omega, by dsimp only; omega, HLL.out⟩, ?_⟩
            refine row_of_own lnC (fun _ => rfl) rfl HO5.out (fun i hi => ?_) (fun x hx => ⟨rfl, by have := HLB.out x hx; omega, by have := HLB.out x hx; omega⟩)
            have h1 := BW.out.size
            have h2 := HZ1.out
            have h3 : w4.drew.heap.size = w4.heap.size := rfl
            rcases hi with hi | hi | hi
            · omega
            · omega
            · have := HOB.out _ hi.symm
              omega) hown hg hat)
          have HBE := Lib.hid hbel
          clear hown hbel hg hat
          go_wp2_with fail
          go_roundw
          case rel => exact ⟨k + 1, _, A', n2 + 1, c'', by omega, by go_num, rfl, by omega, Lib.hid (by rw [HN3.out, List.map_append]; rfl), HP, HBE⟩
          case measure => simp [intOf]; omega
        · have HN3 : Hid (V = ps.map (·.1) ++ rowsT s (s.drop (j + 1)) (j + 1)) := Lib.hid (by rw [H.out, List.drop_of_length_le (l := rx) (i := k) (by omega)]; rfl)
          go_wp2_with fail
          go_roundw
          case rel => exact ⟨j + 1, ps, A2, n2, c2, by omega, by go_num, rfl, by omega, HN3, HRO, BW⟩
          case measure => simp [intOf]; omega
    · have HN3 : Hid (V = ps.map (·.1)) := Lib.hid (by rw [H.out, List.drop_of_length_le (by omega)]; exact List.append_nil _)
      have hrow := HRO.out.row keeps_rw (by have := HZ1.out; omega) (G := fun k => k < W.heap.size) (fun i hi => .inr (by have := HZ1.out; have hi : i < W.heap.size := hi; omega))
      rw [← HN3.out] at hrow
      have hlen : n2 = V.length := by rw [HN3.out, List.length_map]; exact HRO.out.len
      have HRW2 := Lib.hid hrow
      have HLN := Lib.hid hlen
      clear hrow hlen
      go_wp2_with fail
      go_ret
      exact ⟨A2, c2, by have := HLN.out; subst this; rfl, HRW2.out, HF.out _ BW.out⟩
end Go.Proofs.YtdnhbledndgbcaaGreat
