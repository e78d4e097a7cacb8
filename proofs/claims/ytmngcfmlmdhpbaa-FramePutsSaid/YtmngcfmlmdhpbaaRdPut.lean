/-
  The reader's put: one put of a batch, or the panic. Conditions: how the reader lies in memory.
-/
import Derived.Test.YtmngcfmlmdhpbaaRdFrame
namespace Go.Proofs.Ytmngcfmlmdhpbaa
open Go.RowKit

/-- what put leaves -/
def PutDone (w : World) (p : Nat) (F : Nat → Prop) (q : PutV) (u : List UInt8) (e : Ending) (w' : World) : Prop :=
  ∃ A n c B m d, e = .returned (.agg #[.slice A n c, .slice B m d, .bool q.2.2]) ∧ q.1.length = n ∧ q.2.1.length = m ∧ n ≤ c ∧ m ≤ d ∧ Away w' (fun b => b < w.heap.size) A q.1 ∧ Away w' (fun b => b < w.heap.size) B q.2.1 ∧ RdAt w' p F u ∧ w.grownBy w' (some p)

theorem one_mark {b0 : UInt8} {r : List UInt8} {q : PutV} {u : List UInt8} (h : oneL (b0 :: r) = some (q, u)) :
    (b0 = 1 ∧ ∃ t, textL r = some (t, u) ∧ q = (t, [], true)) ∨ (b0 = 0 ∧ ∃ t v x, textL r = some (t, x) ∧ textL x = some (v, u) ∧ q = (t, v, false)) := by
  rw [oneL] at h
  split at h
  · split at h
    · cases h
    · rename_i h1 _ t u' ht
      injection h with h; injection h with h2 h3; subst h3
      exact .inl ⟨h1, t, ht, h2.symm⟩
  · split at h
    · split at h
      · cases h
      · rename_i h1 _ t x ht
        split at h
        · cases h
        · rename_i v u' hv
          injection h with h; injection h with h2 h3; subst h3
          exact .inr ⟨h1, t, v, x, ht, hv, h2.symm⟩
    · cases h

/-- the first byte, and what is left -/
theorem first_of {w' : World} {F : Nat → Prop} {A : Option Addr} {b0 : UInt8} {r : List UInt8} (h : Away w' F A ((b0 :: r).take 1)) : ∃ b off, A = some ⟨b, off, none⟩ ∧ w'.cell? ⟨b, off, none⟩ = some (.int .u8 (b0.toNat : Int)) := by
  obtain ⟨b, off, e, h⟩ := h.seen.byte 0 (by simp)
  exact ⟨b, off, e, by simpa using h⟩

theorem RdAt.set {w : World} {p g : Nat} {F : Nat → Prop} {l : List UInt8} (h : RdAt w p F l) (hF : F g) (hne : p ≠ g) (i : Nat) (v : Value) : RdAt (w.setCell ⟨g, i, none⟩ v) p F l := by
  obtain ⟨h0, A, c, h1, h2, h3⟩ := h
  exact ⟨h0, A, c, h1.other _ _ hne, h2.moved ((Spared.refl w F).setCell hF i v) (fun _ h => .inl h), h3⟩

set_option maxRecDepth 100000 in
set_option maxHeartbeats 1000000 in
theorem put_ok (w : World) (p : Nat) (F : Nat → Prop) (l : List UInt8) (q : PutV) (u : List UInt8) (h : RdAt w p F l) (hl : l.length ≤ 140737488351232) (hq : oneL l = some (q, u)) :
    Calls Try.prog 49 #[.pointer (some ⟨p, 0, none⟩)] w (PutDone w p F q u) := by
  cases l with
  | nil => cases hq
  | cons b0 r =>
    have hl' : r.length ≤ 140737488351232 := by simp at hl; omega
    have hp := h.lt
    have hmono : Hid (∀ W L, RdAt W p (fun b => F b ∨ w.heap.size ≤ b) L → RdAt W p F L) := fun W L hr => hr.mono h.1 (fun b hb => .inl (.inl hb))
    have HR := Lib.hid ((h.mono (G := fun b => F b ∨ w.heap.size ≤ b) (.inl h.1) (fun b hb => hb)).below ((Below.refl w.heap.size w).alloc (Nat.le_refl _) (.cells #[.slice none 0 0, .slice none 0 0, .bool false] 45)))
    obtain ⟨G, hG⟩ : ∃ G, G = fun b => F b ∨ w.heap.size ≤ b := ⟨_, rfl⟩
    rw [← hG] at HR hmono
    have hGn : Hid (G w.heap.size) := by show G _; rw [hG]; exact .inr (Nat.le_refl _)
    have HO := Lib.hid (only_more (World.grownBy.refl w (some p)) (.cells #[.slice none 0 0, .slice none 0 0, .bool false] 45))
    have HB := Lib.hid (Blk.new w [.slice none 0 0, .slice none 0 0, .bool false] 45)
    have HZ : Hid ((w.alloc (.cells #[.slice none 0 0, .slice none 0 0, .bool false] 45)).heap.size = w.heap.size + 1) := by show _ = _; simp
    clear h hl hG
    generalize hW : w.alloc (.cells #[.slice none 0 0, .slice none 0 0, .bool false] 45) = W at HR HO HZ
    have HW := Lib.hid hW
    have HB' : Hid (Blk W w.heap.size [.slice none 0 0, .slice none 0 0, .bool false] 45) := by show Blk _ _ _ _; rw [← hW]; exact HB.out
    clear hW HB
    have HT := Lib.hid (take_ok W p G (b0 :: r) 1 1 rfl HR.out (by simp))
    rcases one_mark hq with ⟨rfl, t, ht, rfl⟩ | ⟨rfl, t, v, x, ht, hv, rfl⟩
    · have HP := Lib.hid ht
      clear ht hq
      go_enter Try.func49, Try.ntmps49
      go_wp2_with fail
      rw [HW.out]
      refine HT.out.mono ?_
      rintro e w1 ⟨A1, c1, rfl, ha1, _, hr1, hg1⟩
      obtain ⟨b1, o1, rfl, hc1⟩ := first_of ha1
      have HG1 := Lib.hid hg1
      have HR1 := Lib.hid hr1
      clear hg1 hr1 ha1
      have hc1' : w1.cell? ⟨b1, o1, none⟩ = some (.int .u8 1) := hc1
      clear hc1
      go_wp2_with fail
      refine (part_ok w1 p G r t u HR1.out hl' HP.out).mono ?_
      rintro e w2 ⟨A2, n2, c2, rfl, hn2, hc2, ha2, hr2, hg2⟩
      have HN2 := Lib.hid hn2
      have HA2 := Lib.hid ha2
      have HG2 := Lib.hid hg2
      have HR2 := Lib.hid hr2
      clear hn2 ha2 hg2 hr2
      have hs1 := HG1.out.size
      have hs2 := HG2.out.size
      have hz := HZ.out
      have B1 := HB'.out.only HG1.out (by omega)
      have B2 := B1.only HG2.out (by omega)
      have r0 := B2.cell (i := 0) (by simp)
      have r1 := B2.cell (i := 1) (by simp)
      have r2 := B2.cell (i := 2) (by simp)
      have f0 := B2.free 0
      have f1 := B2.free 1
      have f2 := B2.free 2
      simp only [List.getElem_cons_zero, List.getElem_cons_succ] at r0 r1 r2
      have HS := Lib.hid (And.intro hs1 (And.intro hs2 hz))
      clear B1 B2 hs1 hs2 hz
      go_wp2_with fail
      have hs1 : w.heap.size < w1.heap.size := by have := HS.out; omega
      have hpn : p ≠ w.heap.size := by omega
      refine bodyPost_ret (v := .agg #[.slice A2 n2 c2, .slice none 0 0, .bool true]) (by simp [results, Try.results49, go_sem, r0, r1, r2]) rfl ⟨A2, n2, c2, none, 0, 0, rfl, HN2.out, rfl, hc2, by omega, ?_, .inl rfl, ?_, ?_⟩
      · exact HA2.out.moved (((((Spared.refl w2 (fun b => b < w1.heap.size)).setCell hs1 0 _).setCell hs1 1 _).setCell hs1 2 _)) (fun i hi => .inl (by omega))
      · exact hmono.out _ _ (((HR2.out.set hGn.out hpn 0 _).set hGn.out hpn 1 _).set hGn.out hpn 2 _)
      · exact only_new (only_new (only_new (only_trans (only_trans HO.out HG1.out) HG2.out) (Nat.le_refl _) 0 _) (Nat.le_refl _) 1 _) (Nat.le_refl _) 2 _
    · have HP := Lib.hid ht
      have HV := Lib.hid hv
      have hlx : x.length ≤ 140737488351232 := by have := textL_less ht; omega
      clear ht hv hq
      go_enter Try.func49, Try.ntmps49
      go_wp2_with fail
      rw [HW.out]
      refine HT.out.mono ?_
      rintro e w1 ⟨A1, c1, rfl, ha1, _, hr1, hg1⟩
      obtain ⟨b1, o1, rfl, hc1⟩ := first_of ha1
      have HG1 := Lib.hid hg1
      have HR1 := Lib.hid hr1
      clear hg1 hr1 ha1
      have hc1' : w1.cell? ⟨b1, o1, none⟩ = some (.int .u8 0) := hc1
      clear hc1
      go_wp2_with fail
      refine (part_ok w1 p G r t x HR1.out hl' HP.out).mono ?_
      rintro e w2 ⟨A2, n2, c2, rfl, hn2, hc2, ha2, hr2, hg2⟩
      have HN2 := Lib.hid hn2
      have HA2 := Lib.hid ha2
      have HG2 := Lib.hid hg2
      have HR2 := Lib.hid hr2
      clear hn2 ha2 hg2 hr2
      go_wp2_with fail
      refine (part_ok w2 p G x v u HR2.out hlx HV.out).mono ?_
      rintro e w3 ⟨A3, n3, c3, rfl, hn3, hc3, ha3, hr3, hg3⟩
      have HN3 := Lib.hid hn3
      have HA3 := Lib.hid ha3
      have HG3 := Lib.hid hg3
      have HR3 := Lib.hid hr3
      clear hn3 ha3 hg3 hr3
      have hs1 := HG1.out.size
      have hs2 := HG2.out.size
      have hs3 := HG3.out.size
      have hz := HZ.out
      have B1 := HB'.out.only HG1.out (by omega)
      have B2 := (B1.only HG2.out (by omega)).only HG3.out (by omega)
      have r0 := B2.cell (i := 0) (by simp)
      have r1 := B2.cell (i := 1) (by simp)
      have r2 := B2.cell (i := 2) (by simp)
      have f0 := B2.free 0
      have f1 := B2.free 1
      have f2 := B2.free 2
      simp only [List.getElem_cons_zero, List.getElem_cons_succ] at r0 r1 r2
      have HS := Lib.hid (And.intro hs1 (And.intro hs2 (And.intro hs3 hz)))
      clear B1 B2 hs1 hs2 hs3 hz
      go_wp2_with fail
      have hs1 : w.heap.size < w1.heap.size := by have := HS.out; omega
      have hs2 : w.heap.size < w2.heap.size := by have := HS.out; omega
      have hpn : p ≠ w.heap.size := by omega
      have hp1 : p < w1.heap.size := by omega
      refine bodyPost_ret (v := .agg #[.slice A2 n2 c2, .slice A3 n3 c3, .bool false]) (by simp [results, Try.results49, go_sem, r0, r1, r2]) rfl ⟨A2, n2, c2, A3, n3, c3, rfl, HN2.out, HN3.out, hc2, hc3, ?_, ?_, ?_, ?_⟩
      · have h3 := HA2.out.moved (Spared.of_grown HG3.out (F := fun b => b < w1.heap.size) (fun k e _ => by injection e with e; rw [← e]; exact hp1)) (fun i hi => .inl hi)
        exact h3.moved (((((Spared.refl w3 (fun b => b < w1.heap.size)).setCell hs1 0 _).setCell hs1 1 _).setCell hs1 2 _)) (fun i hi => .inl (by omega))
      · exact HA3.out.moved (((((Spared.refl w3 (fun b => b < w2.heap.size)).setCell hs2 0 _).setCell hs2 1 _).setCell hs2 2 _)) (fun i hi => .inl (by omega))
      · exact hmono.out _ _ (((HR3.out.set hGn.out hpn 0 _).set hGn.out hpn 1 _).set hGn.out hpn 2 _)
      · exact only_new (only_new (only_new (only_trans (only_trans (only_trans HO.out HG1.out) HG2.out) HG3.out) (Nat.le_refl _) 0 _) (Nat.le_refl _) 1 _) (Nat.le_refl _) 2 _

set_option maxRecDepth 100000 in
set_option maxHeartbeats 1000000 in
theorem put_no (w : World) (p : Nat) (F : Nat → Prop) (l : List UInt8) (h : RdAt w p F l) (hl : l.length ≤ 140737488351232) (hq : oneL l = none) :
    Calls Try.prog 49 #[.pointer (some ⟨p, 0, none⟩)] w fun e w' => e = wrong ∧ w.grownBy w' (some p) := by
  have HR := Lib.hid (h.below ((Below.refl w.heap.size w).alloc (Nat.le_refl _) (.cells #[.slice none 0 0, .slice none 0 0, .bool false] 45)))
  have HO := Lib.hid (only_more (World.grownBy.refl w (some p)) (.cells #[.slice none 0 0, .slice none 0 0, .bool false] 45))
  clear h
  generalize hW : w.alloc (.cells #[.slice none 0 0, .slice none 0 0, .bool false] 45) = W at HR HO
  have HW := Lib.hid hW
  clear hW
  cases l with
  | nil =>
    clear hq
    go_enter Try.func49, Try.ntmps49
    go_wp2_with fail
    rw [HW.out]
    refine (take_no W p F [] 1 1 rfl HR.out (by simp)).mono ?_
    rintro e w1 ⟨rfl, rfl⟩
    go_wp2_with fail
    exact ⟨rfl, rfl, HO.out⟩
  | cons b0 r =>
    have hl' : r.length ≤ 140737488351232 := by simp at hl; omega
    have HT := Lib.hid (take_ok W p F (b0 :: r) 1 1 rfl HR.out (by simp))
    rw [oneL] at hq
    by_cases h1 : b0 = 1
    · rw [if_pos h1] at hq
      subst h1
      have ht : Hid (textL r = none) := by
        show _ = _
        revert hq
        rcases textL r with _ | ⟨t, u⟩
        · intro _; rfl
        · intro h; cases h
      clear hq
      go_enter Try.func49, Try.ntmps49
      go_wp2_with fail
      rw [HW.out]
      refine HT.out.mono ?_
      rintro e w1 ⟨A1, c1, rfl, ha1, _, hr1, hg1⟩
      obtain ⟨b1, o1, rfl, hc1⟩ := first_of ha1
      have HG1 := Lib.hid hg1
      have HR1 := Lib.hid hr1
      clear hg1 hr1 ha1
      have hc1' : w1.cell? ⟨b1, o1, none⟩ = some (.int .u8 1) := hc1
      clear hc1
      go_wp2_with fail
      refine (part_no w1 p F r HR1.out hl' ht.out).mono ?_
      rintro e w2 ⟨rfl, hg2⟩
      have HG2 := Lib.hid hg2
      clear hg2
      go_wp2_with fail
      exact ⟨rfl, rfl, only_trans (only_trans HO.out HG1.out) HG2.out⟩
    · rw [if_neg h1] at hq
      by_cases h0 : b0 = 0
      · rw [if_pos h0] at hq
        subst h0
        clear h1
        rcases ht : textL r with _ | ⟨t, x⟩
        · have HP := Lib.hid ht
          clear hq ht
          go_enter Try.func49, Try.ntmps49
          go_wp2_with fail
          rw [HW.out]
          refine HT.out.mono ?_
          rintro e w1 ⟨A1, c1, rfl, ha1, _, hr1, hg1⟩
          obtain ⟨b1, o1, rfl, hc1⟩ := first_of ha1
          have HG1 := Lib.hid hg1
          have HR1 := Lib.hid hr1
          clear hg1 hr1 ha1
          have hc1' : w1.cell? ⟨b1, o1, none⟩ = some (.int .u8 0) := hc1
          clear hc1
          go_wp2_with fail
          refine (part_no w1 p F r HR1.out hl' HP.out).mono ?_
          rintro e w2 ⟨rfl, hg2⟩
          have HG2 := Lib.hid hg2
          clear hg2
          go_wp2_with fail
          exact ⟨rfl, rfl, only_trans (only_trans HO.out HG1.out) HG2.out⟩
        · have hlx : x.length ≤ 140737488351232 := by have := textL_less ht; omega
          rw [ht] at hq
          simp only at hq
          have HV : Hid (textL x = none) := by
            show _ = _
            revert hq
            rcases textL x with _ | ⟨t, u⟩
            · intro _; rfl
            · intro h; cases h
          have HP := Lib.hid ht
          clear hq ht
          go_enter Try.func49, Try.ntmps49
          go_wp2_with fail
          rw [HW.out]
          refine HT.out.mono ?_
          rintro e w1 ⟨A1, c1, rfl, ha1, _, hr1, hg1⟩
          obtain ⟨b1, o1, rfl, hc1⟩ := first_of ha1
          have HG1 := Lib.hid hg1
          have HR1 := Lib.hid hr1
          clear hg1 hr1 ha1
          have hc1' : w1.cell? ⟨b1, o1, none⟩ = some (.int .u8 0) := hc1
          clear hc1
          go_wp2_with fail
          refine (part_ok w1 p F r t x HR1.out hl' HP.out).mono ?_
          rintro e w2 ⟨A2, n2, c2, rfl, _, _, _, hr2, hg2⟩
          have HG2 := Lib.hid hg2
          have HR2 := Lib.hid hr2
          clear hg2 hr2
          go_wp2_with fail
          refine (part_no w2 p F x HR2.out hlx HV.out).mono ?_
          rintro e w3 ⟨rfl, hg3⟩
          have HG3 := Lib.hid hg3
          clear hg3
          go_wp2_with fail
          exact ⟨rfl, rfl, only_trans (only_trans (only_trans HO.out HG1.out) HG2.out) HG3.out⟩
      · clear hq
        have t1 : ((b0.toNat : Int) == 1) = false := by rw [beq_eq_false_iff_ne]; intro e; exact h1 (UInt8.toNat_inj.1 (by show b0.toNat = 1; omega))
        have t0 : ((b0.toNat : Int) == 0) = false := by rw [beq_eq_false_iff_ne]; intro e; exact h0 (UInt8.toNat_inj.1 (by show b0.toNat = 0; omega))
        clear h1 h0
        go_enter Try.func49, Try.ntmps49
        go_wp2_with fail
        rw [HW.out]
        refine HT.out.mono ?_
        rintro e w1 ⟨A1, c1, rfl, ha1, _, _, hg1⟩
        obtain ⟨b1, o1, rfl, hc1⟩ := first_of ha1
        have HG1 := Lib.hid hg1
        clear hg1 ha1
        generalize b0.toNat = y at *
        go_wp2_with fail
        exact ⟨rfl, rfl, only_trans HO.out HG1.out⟩
end Go.Proofs.Ytmngcfmlmdhpbaa
