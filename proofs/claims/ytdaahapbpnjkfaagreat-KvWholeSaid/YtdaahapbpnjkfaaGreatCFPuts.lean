/-
  The deferred closure of Puts: what it makes of a panic of the reader's, and that it leaves all as it is where there is none. Condition: its variables can be written.
  Of the reader of package frame: a number of bytes, and these; the end. Condition: the bytes are at most 2^46.
  The reader's put: one put of a batch, or the panic. Conditions: how the reader lies in memory.
  The reader's puts: the puts of a batch, or the panic. Conditions: how the reader lies in memory.
  What the program's Puts comes to: the puts that the bytes are, or the error. Condition: the bytes are at most 2^40.
-/
import Derived.Test.YtdaahapbpnjkfaaGreatCRefF
import Derived.Test.YtdaahapbpnjkfaaGreatCLgWrite
import Derived.Test.YtdaahapbpnjkfaaGreatCFDec
import Derived.Test.YtdaahapbpnjkfaaGreatCKpS
namespace Go.Proofs.YtdaahapbpnjkfaaGreat
open Go.RowKit
set_option maxHeartbeats 400000 in
theorem putsCatch_idle (p q : Addr) (w : World) :
    CallsD Tryz.prog 105 #[.pointer (some p), .pointer (some q)] .returning w fun e u' w' => e = .returned (.tuple #[]) ∧ u' = .returning ∧ w' = w := by
  refine callsD_of_wpS Tryz.func105 rfl fun c₀ cs hu => ?_
  have hta := assert_none
  apply wpS_seq
  apply wpS_region
  simp [wpOpsS, go_sem, recoverD, hu, Tryz.ntmps105, Exit.thenS, hta]
  apply wpS_seq
  apply wpS_region
  simp [wpOpsS, go_sem, Exit.thenS]
  refine wpS_cond (t := false) (by simp [Act.eval, Array.replicate]) ?_
  simp only [Bool.false_eq_true, if_false]
  refine wpS_of_wp (wp_skip ?_)
  cases c₀
  simp_all [bodyPostS, results, Tryz.results105]
set_option maxHeartbeats 400000 in
theorem putsCatch_wrong (g h : Nat) (older : List PanicEntry) (w : World) (x : Value) (e0 : Int) (hc : w.cell? ⟨g, 0, none⟩ = some x) (hz : w.frozen? ⟨g, 0, none⟩ = false) (hc' : w.cell? ⟨h, 0, none⟩ = some (.int .i64 e0)) (hz' : w.frozen? ⟨h, 0, none⟩ = false) (hne : ¬ h = g) :
    CallsD Tryz.prog 105 #[.pointer (some ⟨g, 0, none⟩), .pointer (some ⟨h, 0, none⟩)] (.panicking ({ v := .iface 27 (.int .i64 3), recovered := false } :: older)) w fun e u' w' =>
      e = .returned (.tuple #[]) ∧ u' = .panicking ({ v := .iface 27 (.int .i64 3), recovered := true } :: older) ∧ w' = (w.setCell ⟨g, 0, none⟩ (.slice none 0 0)).setCell ⟨h, 0, none⟩ (.int .i64 3) := by
  refine callsD_of_wpS Tryz.func105 rfl fun c₀ cs hu => ?_
  have hta := assert_errno
  apply wpS_seq
  apply wpS_region
  simp [wpOpsS, go_sem, recoverD, hu, Tryz.ntmps105, Exit.thenS, hta]
  apply wpS_seq
  apply wpS_region
  simp [wpOpsS, go_sem, Exit.thenS]
  refine wpS_cond (t := true) (by simp [Act.eval, Array.replicate]) ?_
  simp only [if_true]
  apply wpS_region
  simp [wpOpsS, go_sem, hc, hz, hc', hz', bodyPostS, results, Tryz.results105]
end Go.Proofs.YtdaahapbpnjkfaaGreat
namespace Go.Proofs.YtdaahapbpnjkfaaGreat
open Go.RowKit
theorem end_ok (w : World) (p : Nat) (F : Nat → Prop) (h : RdAt w p F []) :
    Calls Tryz.prog 107 #[.pointer (some ⟨p, 0, none⟩)] w fun e w' => e = .returned (.tuple #[]) ∧ w = w' := by
  obtain ⟨_, A, c, hb, _, _⟩ := h
  have hc := hb.cell (i := 0) (by simp)
  have hf := hb.free 0
  simp only [List.getElem_cons_zero, List.length_nil] at hc
  clear hb
  go_enter Tryz.func107, Tryz.ntmps107
  go_wp2
  go_end0
  exact ⟨rfl, rfl⟩
theorem end_no (w : World) (p : Nat) (F : Nat → Prop) (l : List UInt8) (h : RdAt w p F l) (hl : 0 < l.length) :
    Calls Tryz.prog 107 #[.pointer (some ⟨p, 0, none⟩)] w fun e w' => e = wrong ∧ w = w' := by
  obtain ⟨_, A, c, hb, _, _⟩ := h
  have hc := hb.cell (i := 0) (by simp)
  have hf := hb.free 0
  simp only [List.getElem_cons_zero] at hc
  clear hb
  have ht : decide ((0 : Int) < (l.length : Int)) = true := decide_eq_true (by omega)
  go_enter Tryz.func107, Tryz.ntmps107
  go_wp2
  exact ⟨rfl, rfl, rfl⟩
theorem part_ok (w : World) (p : Nat) (F : Nat → Prop) (l t u : List UInt8) (h : RdAt w p F l) (hl : l.length ≤ 140737488351232) (ht : textL l = some (t, u)) :
    Calls Tryz.prog 162 #[.pointer (some ⟨p, 0, none⟩)] w (Parted w p F t u) := by
  have HR := Lib.hid h
  obtain ⟨h1, h2, h3, h4, h5⟩ := textL_some ht
  have HN := Lib.hid (number_ok w p F l h (by omega) h1)
  have H3 := Lib.hid h3
  have H4 := Lib.hid h4
  have HL5 := Lib.hid h5
  have hlen : (getL l 0 0).1 ≤ 140737488351232 := by rw [List.length_drop] at h2; omega
  generalize (getL l 0 0).2 = k at *
  generalize (getL l 0 0).1 = n at *
  have H2 := Lib.hid h2
  clear h h1 h2 h3 h4 h5 ht
  go_enter Tryz.func162, Tryz.ntmps162
  go_wp2_with fail
  refine HN.out.mono ?_
  rintro e w1 ⟨rfl, hr1, hg1⟩
  have HR1 := Lib.hid hr1
  have HG1 := Lib.hid hg1
  clear hr1 hg1
  go_wp2_with fail
  refine (take_ok w1 p F _ n _ rfl HR1.out H2.out).mono ?_
  rintro e w2 ⟨A2, c2, rfl, ha2, _, hr2, hg2⟩
  have HA2 : Hid (Seen w2 A2 t) := by show Seen _ _ _; rw [H3.out]; exact ha2.seen
  have HR2 : Hid (RdAt w2 p F u) := by show RdAt _ _ _ _; rw [H4.out]; exact hr2
  have HG2 := Lib.hid hg2
  clear hr2 hg2 ha2
  go_wp2_with fail
  refine (clone_made A2 t n c2 w2 HL5.out hlen HA2.out).mono ?_
  rintro e w3 ⟨A3, c3, rfl, hm3⟩
  have HM3 := Lib.hid hm3
  clear hm3
  go_wp2_with fail
  go_ret
  have hz1 := HG1.out.size
  have hz2 := HG2.out.size
  refine ⟨A3, n, c3, rfl, HL5.out, by have := cap_of HM3.out; rw [HL5.out] at this; exact this, ?_, HR2.out.below HM3.out.2, only_trans (only_trans HG1.out HG2.out) (only_of_below HM3.out.2 _)⟩
  exact HM3.out.past.mono (fun b hb => Nat.lt_of_lt_of_le hb (Nat.le_trans hz1 hz2))
theorem part_no (w : World) (p : Nat) (F : Nat → Prop) (l : List UInt8) (h : RdAt w p F l) (hl : l.length ≤ 140737488351232) (ht : textL l = none) :
    Calls Tryz.prog 162 #[.pointer (some ⟨p, 0, none⟩)] w fun e w' => e = wrong ∧ w.grownBy w' (some p) := by
  have HR := Lib.hid h
  by_cases hk : (getL l 0 0).2 = 0
  · have HN := Lib.hid (number_no w p F l h (by omega) hk)
    clear h hk ht
    go_enter Tryz.func162, Tryz.ntmps162
    go_wp2_with fail
    refine HN.out.mono ?_
    rintro e w1 ⟨rfl, rfl⟩
    go_wp2_with fail
    exact ⟨rfl, rfl, World.grownBy.refl _ _⟩
  · have h2 := (textL_none ht).resolve_left hk
    have HN := Lib.hid (number_ok w p F l h (by omega) hk)
    generalize (getL l 0 0).2 = k at *
    generalize (getL l 0 0).1 = n at *
    have H2 := Lib.hid h2
    clear h h2 hk ht
    go_enter Tryz.func162, Tryz.ntmps162
    go_wp2_with fail
    refine HN.out.mono ?_
    rintro e w1 ⟨rfl, hr1, hg1⟩
    have HR1 := Lib.hid hr1
    have HG1 := Lib.hid hg1
    clear hr1 hg1
    go_wp2_with fail
    refine (take_no w1 p F _ n _ rfl HR1.out H2.out).mono ?_
    rintro e w2 ⟨rfl, rfl⟩
    go_wp2_with fail
    exact ⟨rfl, rfl, HG1.out⟩
end Go.Proofs.YtdaahapbpnjkfaaGreat
namespace Go.Proofs.YtdaahapbpnjkfaaGreat
open Go.RowKit
def PutDone (w : World) (p : Nat) (F : Nat → Prop) (q : PutV) (u : List UInt8) (e : Ending) (w' : World) : Prop :=
  ∃ A n c B m d, e = .returned (.agg #[.slice A n c, .slice B m d, .bool q.2.2]) ∧ q.1.length = n ∧ q.2.1.length = m ∧ n ≤ c ∧ m ≤ d ∧ Away w' (fun b => b < w.heap.size) A q.1 ∧ Away w' (fun b => b < w.heap.size) B q.2.1 ∧ RdAt w' p F u ∧ w.grownBy w' (some p)
theorem one_mark {b0 : UInt8} {r : List UInt8} {q : PutV} {u : List UInt8} (h : oneL (b0 :: r) = some (q, u)) :
    (b0 = 1 ∧ ∃ t, textL r = some (t, u) ∧ q = (t, [], true)) ∨ (b0 = 0 ∧ ∃ t v x, textL r = some (t, x) ∧ textL x = some (v, u) ∧ q = (t, v, false)) := by
  rw [oneL] at h
  split at h
  · split at h
    · cases h
    · rename_i h1 _ t u' ht
      injection h with h; injection h with h2 h3; subst h3
      exact .inl ⟨h1, t, ht, h2.symm⟩
  · split at h
    · split at h
      · cases h
      · rename_i h1 _ t x ht
        split at h
        · cases h
        · rename_i v u' hv
          injection h with h; injection h with h2 h3; subst h3
          exact .inr ⟨h1, t, v, x, ht, hv, h2.symm⟩
    · cases h
theorem first_of {w' : World} {F : Nat → Prop} {A : Option Addr} {b0 : UInt8} {r : List UInt8} (h : Away w' F A ((b0 :: r).take 1)) : ∃ b off, A = some ⟨b, off, none⟩ ∧ w'.cell? ⟨b, off, none⟩ = some (.int .u8 (b0.toNat : Int)) := by
  obtain ⟨b, off, e, h⟩ := h.seen.byte 0 (by simp)
  exact ⟨b, off, e, by simpa using h⟩
theorem RdAt.set {w : World} {p g : Nat} {F : Nat → Prop} {l : List UInt8} (h : RdAt w p F l) (hF : F g) (hne : p ≠ g) (i : Nat) (v : Value) : RdAt (w.setCell ⟨g, i, none⟩ v) p F l := by
  obtain ⟨h0, A, c, h1, h2, h3⟩ := h
  exact ⟨h0, A, c, h1.other _ _ hne, h2.moved ((Spared.refl w F).setCell hF i v) (fun _ h => .inl h), h3⟩
set_option maxRecDepth 100000 in
set_option maxHeartbeats 1000000 in
theorem put_ok (w : World) (p : Nat) (F : Nat → Prop) (l : List UInt8) (q : PutV) (u : List UInt8) (h : RdAt w p F l) (hl : l.length ≤ 140737488351232) (hq : oneL l = some (q, u)) :
    Calls Tryz.prog 137 #[.pointer (some ⟨p, 0, none⟩)] w (PutDone w p F q u) := by
  cases l with
  | nil => cases hq
  | cons b0 r =>
    have hl' : r.length ≤ 140737488351232 := by simp at hl; omega
    have hp := h.lt
    have hmono : Hid (∀ W L, RdAt W p (fun b => F b ∨ w.heap.size ≤ b) L → RdAt W p F L) := fun W L hr => hr.mono h.1 (fun b hb => .inl (.inl hb))
    have HR := Lib.hid ((h.mono (G := fun b => F b ∨ w.heap.size ≤ b) (.inl h.1) (fun b hb => hb)).below ((Below.refl w.heap.size w).alloc (Nat.le_refl _) (.cells #[.slice none 0 0, .slice none 0 0, .bool false] 72)))
    obtain ⟨G, hG⟩ : ∃ G, G = fun b => F b ∨ w.heap.size ≤ b := ⟨_, rfl⟩
    rw [← hG] at HR hmono
    have hGn : Hid (G w.heap.size) := by show G _; rw [hG]; exact .inr (Nat.le_refl _)
    have HO := Lib.hid (only_more (World.grownBy.refl w (some p)) (.cells #[.slice none 0 0, .slice none 0 0, .bool false] 72))
    have HB := Lib.hid (Blk.new w [.slice none 0 0, .slice none 0 0, .bool false] 72)
    have HZ : Hid ((w.alloc (.cells #[.slice none 0 0, .slice none 0 0, .bool false] 72)).heap.size = w.heap.size + 1) := by show _ = _; simp
    clear h hl hG
    generalize hW : w.alloc (.cells #[.slice none 0 0, .slice none 0 0, .bool false] 72) = W at HR HO HZ
    have HW := Lib.hid hW
    have HB' : Hid (Blk W w.heap.size [.slice none 0 0, .slice none 0 0, .bool false] 72) := by show Blk _ _ _ _; rw [← hW]; exact HB.out
    clear hW HB
    have HT := Lib.hid (take_ok W p G (b0 :: r) 1 1 rfl HR.out (by simp))
    rcases one_mark hq with ⟨rfl, t, ht, rfl⟩ | ⟨rfl, t, v, x, ht, hv, rfl⟩
    · have HP := Lib.hid ht
      clear ht hq
      go_enter Tryz.func137, Tryz.ntmps137
      go_wp2_with fail
      rw [HW.out]
      refine HT.out.mono ?_
      rintro e w1 ⟨A1, c1, rfl, ha1, _, hr1, hg1⟩
      obtain ⟨b1, o1, rfl, hc1⟩ := first_of ha1
      have HG1 := Lib.hid hg1
      have HR1 := Lib.hid hr1
      clear hg1 hr1 ha1
      have hc1' : w1.cell? ⟨b1, o1, none⟩ = some (.int .u8 1) := hc1
      clear hc1
      go_wp2_with fail
      refine (part_ok w1 p G r t u HR1.out hl' HP.out).mono ?_
      rintro e w2 ⟨A2, n2, c2, rfl, hn2, hc2, ha2, hr2, hg2⟩
      have HN2 := Lib.hid hn2
      have HA2 := Lib.hid ha2
      have HG2 := Lib.hid hg2
      have HR2 := Lib.hid hr2
      clear hn2 ha2 hg2 hr2
      have hs1 := HG1.out.size
      have hs2 := HG2.out.size
      have hz := HZ.out
      have B1 := HB'.out.only HG1.out (by omega)
      have B2 := B1.only HG2.out (by omega)
      have r0 := B2.cell (i := 0) (by simp)
      have r1 := B2.cell (i := 1) (by simp)
      have r2 := B2.cell (i := 2) (by simp)
      have f0 := B2.free 0
      have f1 := B2.free 1
      have f2 := B2.free 2
      simp only [List.getElem_cons_zero, List.getElem_cons_succ] at r0 r1 r2
      have HS := Lib.hid (And.intro hs1 (And.intro hs2 hz))
      clear B1 B2 hs1 hs2 hz
      go_wp2_with fail
      have hs1 : w.heap.size < w1.heap.size := by have := HS.out; omega
      have hpn : p ≠ w.heap.size := by omega
      refine bodyPost_ret (v := .agg #[.slice A2 n2 c2, .slice none 0 0, .bool true]) (by simp [results, Tryz.results137, go_sem, r0, r1, r2]) rfl ⟨A2, n2, c2, none, 0, 0, rfl, HN2.out, rfl, hc2, by omega, ?_, .inl rfl, ?_, ?_⟩
      · exact HA2.out.moved (((((Spared.refl w2 (fun b => b < w1.heap.size)).setCell hs1 0 _).setCell hs1 1 _).setCell hs1 2 _)) (fun i hi => .inl (by omega))
      · exact hmono.out _ _ (((HR2.out.set hGn.out hpn 0 _).set hGn.out hpn 1 _).set hGn.out hpn 2 _)
      · exact only_new (only_new (only_new (only_trans (only_trans HO.out HG1.out) HG2.out) (Nat.le_refl _) 0 _) (Nat.le_refl _) 1 _) (Nat.le_refl _) 2 _
    · have HP := Lib.hid ht
      have HV := Lib.hid hv
      have hlx : x.length ≤ 140737488351232 := by have := textL_less ht; omega
      clear ht hv hq
      go_enter Tryz.func137, Tryz.ntmps137
      go_wp2_with fail
      rw [HW.out]
      refine HT.out.mono ?_
      rintro e w1 ⟨A1, c1, rfl, ha1, _, hr1, hg1⟩
      obtain ⟨b1, o1, rfl, hc1⟩ := first_of ha1
      have HG1 := Lib.hid hg1
      have HR1 := Lib.hid hr1
      clear hg1 hr1 ha1
      have hc1' : w1.cell? ⟨b1, o1, none⟩ = some (.int .u8 0) := hc1
      clear hc1
      go_wp2_with fail
      refine (part_ok w1 p G r t x HR1.out hl' HP.out).mono ?_
      rintro e w2 ⟨A2, n2, c2, rfl, hn2, hc2, ha2, hr2, hg2⟩
      have HN2 := Lib.hid hn2
      have HA2 := Lib.hid ha2
      have HG2 := Lib.hid hg2
      have HR2 := Lib.hid hr2
      clear hn2 ha2 hg2 hr2
      go_wp2_with fail
      refine (part_ok w2 p G x v u HR2.out hlx HV.out).mono ?_
      rintro e w3 ⟨A3, n3, c3, rfl, hn3, hc3, ha3, hr3, hg3⟩
      have HN3 := Lib.hid hn3
      have HA3 := Lib.hid ha3
      have HG3 := Lib.hid hg3
      have HR3 := Lib.hid hr3
      clear hn3 ha3 hg3 hr3
      have hs1 := HG1.out.size
      have hs2 := HG2.out.size
      have hs3 := HG3.out.size
      have hz := HZ.out
      have B1 := HB'.out.only HG1.out (by omega)
      have B2 := (B1.only HG2.out (by omega)).only HG3.out (by omega)
      have r0 := B2.cell (i := 0) (by simp)
      have r1 := B2.cell (i := 1) (by simp)
      have r2 := B2.cell (i := 2) (by simp)
      have f0 := B2.free 0
      have f1 := B2.free 1
      have f2 := B2.free 2
      simp only [List.getElem_cons_zero, List.getElem_cons_succ] at r0 r1 r2
      have HS := Lib.hid (And.intro hs1 (And.intro hs2 (And.intro hs3 hz)))
      clear B1 B2 hs1 hs2 hs3 hz
      go_wp2_with fail
      have hs1 : w.heap.size < w1.heap.size := by have := HS.out; omega
      have hs2 : w.heap.size < w2.heap.size := by have := HS.out; omega
      have hpn : p ≠ w.heap.size := by omega
      have hp1 : p < w1.heap.size := by omega
      refine bodyPost_ret (v := .agg #[.slice A2 n2 c2, .slice A3 n3 c3, .bool false]) (by simp [results, Tryz.results137, go_sem, r0, r1, r2]) rfl ⟨A2, n2, c2, A3, n3, c3, rfl, HN2.out, HN3.out, hc2, hc3, ?_, ?_, ?_, ?_⟩
      · have h3 := HA2.out.moved (Spared.of_grown HG3.out (F := fun b => b < w1.heap.size) (fun k e _ => by injection e with e; rw [← e]; exact hp1)) (fun i hi => .inl hi)
        exact h3.moved (((((Spared.refl w3 (fun b => b < w1.heap.size)).setCell hs1 0 _).setCell hs1 1 _).setCell hs1 2 _)) (fun i hi => .inl (by omega))
      · exact HA3.out.moved (((((Spared.refl w3 (fun b => b < w2.heap.size)).setCell hs2 0 _).setCell hs2 1 _).setCell hs2 2 _)) (fun i hi => .inl (by omega))
      · exact hmono.out _ _ (((HR3.out.set hGn.out hpn 0 _).set hGn.out hpn 1 _).set hGn.out hpn 2 _)
      · exact only_new (only_new (only_new (only_trans (only_trans (only_trans HO.out HG1.out) HG2.out) HG3.out) (Nat.le_refl _) 0 _) (Nat.le_refl _) 1 _) (Nat.le_refl _) 2 _
set_option maxRecDepth 100000 in
set_option maxHeartbeats 1000000 in
theorem put_no (w : World) (p : Nat) (F : Nat → Prop) (l : List UInt8) (h : RdAt w p F l) (hl : l.length ≤ 140737488351232) (hq : oneL l = none) :
    Calls Tryz.prog 137 #[.pointer (some ⟨p, 0, none⟩)] w fun e w' => e = wrong ∧ w.grownBy w' (some p) := by
  have HR := Lib.hid (h.below ((Below.refl w.heap.size w).alloc (Nat.le_refl _) (.cells #[.slice none 0 0, .slice none 0 0, .bool false] 72)))
  have HO := Lib.hid (only_more (World.grownBy.refl w (some p)) (.cells #[.slice none 0 0, .slice none 0 0, .bool false] 72))
  clear h
  generalize hW : w.alloc (.cells #[.slice none 0 0, .slice none 0 0, .bool false] 72) = W at HR HO
  have HW := Lib.hid hW
  clear hW
  cases l with
  | nil =>
    clear hq
    go_enter Tryz.func137, Tryz.ntmps137
    go_wp2_with fail
    rw [HW.out]
    refine (take_no W p F [] 1 1 rfl HR.out (by simp)).mono ?_
    rintro e w1 ⟨rfl, rfl⟩
    go_wp2_with fail
    exact ⟨rfl, rfl, HO.out⟩
  | cons b0 r =>
    have hl' : r.length ≤ 140737488351232 := by simp at hl; omega
    have HT := Lib.hid (take_ok W p F (b0 :: r) 1 1 rfl HR.out (by simp))
    rw [oneL] at hq
    by_cases h1 : b0 = 1
    · rw [if_pos h1] at hq
      subst h1
      have ht : Hid (textL r = none) := by
        show _ = _
        revert hq
        rcases textL r with _ | ⟨t, u⟩
        · intro _; rfl
        · intro h; cases h
      clear hq
      go_enter Tryz.func137, Tryz.ntmps137
      go_wp2_with fail
      rw [HW.out]
      refine HT.out.mono ?_
      rintro e w1 ⟨A1, c1, rfl, ha1, _, hr1, hg1⟩
      obtain ⟨b1, o1, rfl, hc1⟩ := first_of ha1
      have HG1 := Lib.hid hg1
      have HR1 := Lib.hid hr1
      clear hg1 hr1 ha1
      have hc1' : w1.cell? ⟨b1, o1, none⟩ = some (.int .u8 1) := hc1
      clear hc1
      go_wp2_with fail
      refine (part_no w1 p F r HR1.out hl' ht.out).mono ?_
      rintro e w2 ⟨rfl, hg2⟩
      have HG2 := Lib.hid hg2
      clear hg2
      go_wp2_with fail
      exact ⟨rfl, rfl, only_trans (only_trans HO.out HG1.out) HG2.out⟩
    · rw [if_neg h1] at hq
      by_cases h0 : b0 = 0
      · rw [if_pos h0] at hq
        subst h0
        clear h1
        rcases ht : textL r with _ | ⟨t, x⟩
        · have HP := Lib.hid ht
          clear hq ht
          go_enter Tryz.func137, Tryz.ntmps137
          go_wp2_with fail
          rw [HW.out]
          refine HT.out.mono ?_
          rintro e w1 ⟨A1, c1, rfl, ha1, _, hr1, hg1⟩
          obtain ⟨b1, o1, rfl, hc1⟩ := first_of ha1
          have HG1 := Lib.hid hg1
          have HR1 := Lib.hid hr1
          clear hg1 hr1 ha1
          have hc1' : w1.cell? ⟨b1, o1, none⟩ = some (.int .u8 0) := hc1
          clear hc1
          go_wp2_with fail
          refine (part_no w1 p F r HR1.out hl' HP.out).mono ?_
          rintro e w2 ⟨rfl, hg2⟩
          have HG2 := Lib.hid hg2
          clear hg2
          go_wp2_with fail
          exact ⟨rfl, rfl, only_trans (only_trans HO.out HG1.out) HG2.out⟩
        · have hlx : x.length ≤ 140737488351232 := by have := textL_less ht; omega
          rw [ht] at hq
          simp only at hq
          have HV : Hid (textL x = none) := by
            show _ = _
            revert hq
            rcases textL x with _ | ⟨t, u⟩
            · intro _; rfl
            · intro h; cases h
          have HP := Lib.hid ht
          clear hq ht
          go_enter Tryz.func137, Tryz.ntmps137
          go_wp2_with fail
          rw [HW.out]
          refine HT.out.mono ?_
          rintro e w1 ⟨A1, c1, rfl, ha1, _, hr1, hg1⟩
          obtain ⟨b1, o1, rfl, hc1⟩ := first_of ha1
          have HG1 := Lib.hid hg1
          have HR1 := Lib.hid hr1
          clear hg1 hr1 ha1
          have hc1' : w1.cell? ⟨b1, o1, none⟩ = some (.int .u8 0) := hc1
          clear hc1
          go_wp2_with fail
          refine (part_ok w1 p F r t x HR1.out hl' HP.out).mono ?_
          rintro e w2 ⟨A2, n2, c2, rfl, _, _, _, hr2, hg2⟩
          have HG2 := Lib.hid hg2
          have HR2 := Lib.hid hr2
          clear hg2 hr2
          go_wp2_with fail
          refine (part_no w2 p F x HR2.out hlx HV.out).mono ?_
          rintro e w3 ⟨rfl, hg3⟩
          have HG3 := Lib.hid hg3
          clear hg3
          go_wp2_with fail
          exact ⟨rfl, rfl, only_trans (only_trans (only_trans HO.out HG1.out) HG2.out) HG3.out⟩
      · clear hq
        have t1 : ((b0.toNat : Int) == 1) = false := by rw [beq_eq_false_iff_ne]; intro e; exact h1 (UInt8.toNat_inj.1 (by show b0.toNat = 1; omega))
        have t0 : ((b0.toNat : Int) == 0) = false := by rw [beq_eq_false_iff_ne]; intro e; exact h0 (UInt8.toNat_inj.1 (by show b0.toNat = 0; omega))
        clear h1 h0
        go_enter Tryz.func137, Tryz.ntmps137
        go_wp2_with fail
        rw [HW.out]
        refine HT.out.mono ?_
        rintro e w1 ⟨A1, c1, rfl, ha1, _, _, hg1⟩
        obtain ⟨b1, o1, rfl, hc1⟩ := first_of ha1
        have HG1 := Lib.hid hg1
        clear hg1 ha1
        generalize b0.toNat = y at *
        go_wp2_with fail
        exact ⟨rfl, rfl, only_trans HO.out HG1.out⟩
end Go.Proofs.YtdaahapbpnjkfaaGreat
namespace Go.Proofs.YtdaahapbpnjkfaaGreat
open Go.RowKit
theorem infoPut : (Tryz.prog.info? 72).map (fun i => (i.zero, i.size, i.bytes)) = some (some (.agg #[.slice none 0 0, .slice none 0 0, .bool false]), 3, 56) := by kernel_rfl
theorem info_parts3 {P : Program} {e : TypeId} {z : Value} {s b : Nat} (h : (P.info? e).map (fun i => (i.zero, i.size, i.bytes)) = some (some z, s, b)) : ∃ i, P.info? e = some i ∧ i.zero = some z ∧ i.size = s ∧ i.bytes = b := by
  obtain ⟨i, hi, h⟩ := Option.map_eq_some_iff.1 h
  injection h with h1 h
  injection h with h2 h3
  exact ⟨i, hi, h1, h2, h3⟩
theorem RdAt.spared {w w' : World} {p n : Nat} {F : Nat → Prop} {l : List UInt8} (h : RdAt w p F l) (hs : Spared w w' (fun b => n ≤ b)) (hp : p < n) (hF : ∀ b, n ≤ b → F b) : RdAt w' p F l := by
  obtain ⟨h0, A, c, h1, h2, h3⟩ := h
  exact ⟨h0, A, c, hs.blk h1 (by omega), h2.moved (hs.mono hF) (fun _ h => .inl h), h3⟩
def PutsRead (w : World) (p : Nat) (F : Nat → Prop) (D : Option (List PutV)) (e : Ending) (w' : World) : Prop :=
  (e = wrong ∧ D = none ∧ w.grownBy w' (some p)) ∨
  (∃ A n c ps u, e = .returned (.slice A n c) ∧ ps.length = n ∧ ListAt 72 w ps (.slice A n c) w' ∧ D = (if u = [] then some (valsOf ps) else none) ∧ RdAt w' p F u ∧ w.grownBy w' (some p))
def PU (w : World) (p : Nat) (F : Nat → Prop) (N : Nat) (L : Nat) (D : Option (List PutV)) (s i : Value) (wr : World) : Prop :=
  ∃ (k : Nat) (ps : List PPut) (A : Option Addr) (c : Nat) (r : List UInt8), k ≤ N ∧ i = .int .i64 k ∧ s = .slice A k c ∧ ps.length = k ∧ ListAt 72 w ps (.slice A k c) wr ∧ RdAt wr p F r ∧ r.length + k ≤ L ∧ D = readN (N - k) r (valsOf ps) ∧ w.grownBy wr (some p)
set_option maxRecDepth 100000 in
set_option maxHeartbeats 1000000 in
theorem puts_any (w : World) (p : Nat) (F : Nat → Prop) (l : List UInt8) (h : RdAt w p F l) (hl : l.length ≤ 1099511627776) :
    Calls Tryz.prog 106 #[.pointer (some ⟨p, 0, none⟩)] w (PutsRead w p F (putsL l)) := by
  obtain ⟨i0, hi, hz0, hz1, hz2⟩ := info_parts3 infoPut
  have hp := h.lt
  have hmono : Hid (∀ W L, RdAt W p (fun b => F b ∨ w.heap.size ≤ b) L → RdAt W p F L) := fun W L hr => hr.mono h.1 (fun b hb => .inl (.inl hb))
  have h' := h.mono (G := fun b => F b ∨ w.heap.size ≤ b) (.inl h.1) (fun b hb => hb)
  obtain ⟨G, hG⟩ : ∃ G, G = fun b => F b ∨ w.heap.size ≤ b := ⟨_, rfl⟩
  rw [← hG] at h' hmono
  have hGn : Hid (∀ b, w.heap.size ≤ b → G b) := fun b hb => by rw [hG]; exact .inr hb
  clear h hG
  have h := h'
  clear h'
  by_cases hk : (getL l 0 0).2 = 0
  · have HN := Lib.hid (number_no w p G l h (by omega) hk)
    have HD : Hid (putsL l = none) := by show _ = _; unfold putsL; rw [if_pos hk]
    clear h hk
    go_enter Tryz.func106, Tryz.ntmps106
    go_wp2_with fail
    refine HN.out.mono ?_
    rintro e w1 ⟨rfl, rfl⟩
    go_wp2_with fail
    exact ⟨rfl, .inl ⟨rfl, HD.out, World.grownBy.refl _ _⟩⟩
  · have HN := Lib.hid (number_ok w p G l h (by omega) hk)
    have HF := get_fits (l := l)
    obtain ⟨D, hD⟩ : ∃ D, D = putsL l := ⟨_, rfl⟩
    rw [← hD]
    have HD : Hid (D = readN (getL l 0 0).1 (l.drop (getL l 0 0).2) []) := by show _ = _; rw [hD]; unfold putsL; rw [if_neg hk]
    generalize (getL l 0 0).2 = k0 at *
    generalize (getL l 0 0).1 = N at *
    obtain ⟨_, _, hN⟩ := HF
    clear h hk hD
    go_enter Tryz.func106, Tryz.ntmps106
    go_wp2_with fail
    refine HN.out.mono ?_
    rintro e w1 ⟨rfl, hr1, hg1⟩
    have HR1 := Lib.hid hr1
    have HG1 := Lib.hid hg1
    clear hr1 hg1
    go_wp2_with fail
    go_loopw [3, 6] (fun s i wr => PU w p G N l.length D s i wr) (fun _ i _ => N - (intOf i).toNat)
    case atStart =>
      exact ⟨0, [], none, 0, l.drop k0, by omega, rfl, rfl, rfl, (ListAt.start _ w).through HG1.out hp, HR1.out, by rw [List.length_drop]; omega, HD.out, HG1.out⟩
    case round =>
      clear HD HR1 HG1 HN
      obtain ⟨k, ps, A, c, r, hk, rfl, rfl, hps, hla, hrd, hrl, hD, hgr⟩ := hrel
      have HPS := Lib.hid hps
      have HLA := Lib.hid hla
      have HRD := Lib.hid hrd
      have HD := Lib.hid hD
      have HGR := Lib.hid hgr
      clear hps hla hrd hD hgr
      by_cases hlt : k < N
      · rcases ho : oneL r with _ | ⟨q, u⟩
        · have HQ := Lib.hid (put_no wr p G r HRD.out (by omega) ho)
          have HE : Hid (D = none) := by
            show _ = _
            rw [HD.out, show N - k = (N - k - 1) + 1 from by omega, readN, ho]
          clear ho
          go_wp2_with fail
          refine HQ.out.mono ?_
          rintro e w2 ⟨rfl, hg2⟩
          have HG2 := Lib.hid hg2
          clear hg2
          go_wp2_with fail
          exact ⟨rfl, .inl ⟨rfl, HE.out, only_trans HGR.out HG2.out⟩⟩
        · have HQ := Lib.hid (put_ok wr p G r q u HRD.out (by omega) ho)
          have hless := oneL_less ho
          have hqb := oneL_bound ho
          have HB2 : Hid (q.1.length ≤ r.length) := hqb.1
          have HB3 : Hid (q.2.1.length ≤ r.length) := hqb.2
          clear hqb
          have HE : Hid (D = readN (N - (k + 1)) u (valsOf ps ++ [q])) := by
            show _ = _
            rw [HD.out, show N - k = (N - (k + 1)) + 1 from by omega, readN, ho]
          clear ho
          obtain ⟨q1, q2, q3⟩ := q
          go_wp2_with fail
          refine HQ.out.mono ?_
          rintro e w2 ⟨A2, n2, c2, A3, n3, c3, rfl, hn2, hn3, _, _, ha2, ha3, hr2, hg2⟩
          simp only at hn2 hn3 ha2 ha3
          have HN2 := Lib.hid hn2
          have HN3 := Lib.hid hn3
          have HA2 := Lib.hid ha2
          have HA3 := Lib.hid ha3
          have HR2 := Lib.hid hr2
          have HG2 := Lib.hid hg2
          clear hn2 hn3 ha2 ha3 hr2 hg2
          have HL2 := Lib.hid (HLA.out.through HG2.out hp)
          have HQ2 : Hid (PutOff w2 (fun b => b < wr.heap.size) ((A2, q1, c2), (A3, q2, c3), q3)) := ⟨⟨HA2.out, by have h2 : q1.length ≤ r.length := HB2.out; simp only; omega⟩, ⟨HA3.out, by have h2 : q2.length ≤ r.length := HB3.out; simp only; omega⟩⟩
          have HC2 : Hid (pcells ((A2, q1, c2), (A3, q2, c3), q3) = [.slice A2 n2 c2, .slice A3 n3 c3, .bool q3]) := by show _ = _; simp only [pcells, pv, HN2.out, HN3.out]
          go_wp2_with (at_builtin; refine wpList_append_put w2 rfl (.tmp 8) (.tmp 11) 38 rfl 72 i0 _ Tryz.underlying38 hi hz0 hz1 hz2 rfl w wr ps A k c ((A2, q1, c2), (A3, q2, c3), q3) _ _ _ rfl rfl HLA.out HL2.out HPS.out HQ2.out HC2.out (by omega) ?_)
          intro A5 c5 w5 hl5 hs5
          have HL5 := Lib.hid hl5
          have HS5 := Lib.hid hs5
          clear hl5 hs5
          go_wp2_with fail
          go_roundw
          case rel =>
            refine ⟨k + 1, _, A5, c5, u, by omega, by go_num, rfl, by rw [List.length_append, HPS.out]; rfl, HL5.out, HR2.out.spared HS5.out hp hGn.out, by omega, ?_, only_spared (only_trans HGR.out HG2.out) HS5.out⟩
            rw [HE.out]; simp [valsOf, valOf]
          case measure => simp [intOf]; omega
      · have hkN : k = N := by omega
        have HE : Hid (D = (if r = [] then some (valsOf ps) else none)) := by
          show _ = _
          rw [HD.out, hkN, Nat.sub_self, readN]
        clear hkN
        go_wp2_with fail
        go_ret
        exact .inr ⟨A, k, c, ps, r, rfl, HPS.out, HLA.out, HE.out, hmono.out _ _ HRD.out, HGR.out⟩
end Go.Proofs.YtdaahapbpnjkfaaGreat
namespace Go.Proofs.YtdaahapbpnjkfaaGreat
open Go.RowKit
def errOf (D : Option (List PutV)) : Int := if D.isSome then 0 else 3
def PutsFar (w w' : World) (A : Option Addr) (ps : List PPut) : Prop := ∀ W, Spared w' W (fun b => b < w.heap.size) → PutsSeen W A ps
def PutsNew (w : World) (D : Option (List PutV)) (e : Ending) (w' : World) : Prop :=
  ∃ A n c ps, e = .returned (.tuple #[.slice A n c, .int .i64 (errOf D)]) ∧ ps.length = n ∧ PutsFar w w' A ps ∧ valsOf ps = D.getD [] ∧ Below w.heap.size w w'
theorem ListAt.farther {e : TypeId} {w0 w w' : World} {ps : List PPut} {v : Value} (h : ListAt e w0 ps v w) (hs : Spared w w' (fun b => b < w0.heap.size)) : ListAt e w0 ps v w' := by
  refine ⟨⟨h.1.1, ?_⟩, Nat.le_trans h.2.1 hs.size, fun q hq => (h.2.2 q hq).moved (hs.mono (fun _ h => .inl h)) (fun i hi => .inl hi)⟩
  rcases h.1.2 with h0 | ⟨g, cap, cur, hv, hb, hg, rest⟩
  · exact .inl h0
  · exact .inr ⟨g, cap, cur, hv, hb, (hs.block g (h.1.lt g (by rw [hv]; rfl)).2 (by have := (h.1.lt g (by rw [hv]; rfl)).1; omega)).trans hg, rest⟩
theorem ListAt.far {e : TypeId} {w W w' : World} {ps : List PPut} {A : Option Addr} {n c : Nat} (h : ListAt e W ps (.slice A n c) w') (hz : w.heap.size ≤ W.heap.size) : PutsFar w w' A ps := fun W' hs => (h.farther (hs.mono (fun b (hb : b < w.heap.size) => by show b < W.heap.size; omega))).seen
theorem below_onlyP {w0 w w' : World} {g : Nat} (h : Below w0.heap.size w0 w) (hg : w.grownBy w' (some g)) (hn : w0.heap.size ≤ g) : Below w0.heap.size w0 w' :=
  h.grown hg h.size (fun k hk => by injection hk with hk; omega)
set_option maxRecDepth 100000 in
set_option maxHeartbeats 1000000 in
theorem fputs_new (A : Option Addr) (b : List UInt8) (c : Nat) (w : World) (hs : Seen w A b) (hc : b.length ≤ c) (hb : b.length ≤ 1099511627776) :
    Calls Tryz.prog 74 #[.slice A b.length c] w (PutsNew w (putsL b)) := by
  have hmf : ∀ (fn : Fn) (first cap : Array Value) (w : World), (Instr.makeFunc fn first cap).run Tryz.prog w = .ok (.func fn first cap) w := fun _ _ _ _ => rfl
  obtain ⟨D, hD⟩ : ∃ D, D = putsL b := ⟨_, rfl⟩
  rw [← hD]
  -- the three new blocks
  have hz : ∀ o1 o2 o3, (((w.alloc o1).alloc o2).alloc o3).heap.size = w.heap.size + 3 := fun _ _ _ => by simp
  have B1 := ((Blk.new w [.slice none 0 0] 38).alloc (.cells #[.int .i64 0] 27)).alloc (.cells #[.slice A b.length c] 168)
  have B2 := (Blk.new (w.alloc (.cells #[.slice none 0 0] 38)) [.int .i64 0] 27).alloc (.cells #[.slice A b.length c] 168)
  have B3 := Blk.new ((w.alloc (.cells #[.slice none 0 0] 38)).alloc (.cells #[.int .i64 0] 27)) [.slice A b.length c] 168
  have HBW : Below w.heap.size w (((w.alloc (.cells #[.slice none 0 0] 38)).alloc (.cells #[.int .i64 0] 27)).alloc (.cells #[.slice A b.length c] 168)) :=
    (((Below.refl _ _).alloc (Nat.le_refl _) _).alloc (by simp) _).alloc (by simp; omega) _
  have hz3 := hz (.cells #[.slice none 0 0] 38) (.cells #[.int .i64 0] 27) (.cells #[.slice A b.length c] 168)
  obtain ⟨W, hW⟩ : ∃ W, W = (((w.alloc (.cells #[.slice none 0 0] 38)).alloc (.cells #[.int .i64 0] 27)).alloc (.cells #[.slice A b.length c] 168)) := ⟨_, rfl⟩
  have B1' : Blk W w.heap.size [.slice none 0 0] 38 := by rw [hW]; exact B1
  have B2' : Blk W (w.heap.size + 1) [.int .i64 0] 27 := by rw [hW]; have := B2; simp only [World.size_alloc] at this; exact this
  have B3' : Blk W (w.heap.size + 1 + 1) [.slice A b.length c] 168 := by rw [hW]; have := B3; simp only [World.size_alloc] at this; exact this
  rw [← hW] at HBW hz3
  have HR : RdAt W (w.heap.size + 1 + 1) (fun k => w.heap.size ≤ k) b :=
    ⟨by show w.heap.size ≤ _; omega, A, c, B3', (Away.of_seen hs (fun b off _ hlt => by show ¬ w.heap.size ≤ b; omega)).moved (Spared.of_below HBW _) (fun i hi => .inl hi), hc⟩
  have H1 := Lib.hid B1'
  have H2 := Lib.hid B2'
  have HBW' := Lib.hid HBW
  have HR' := Lib.hid HR
  have HZ := Lib.hid hz3
  have HW := Lib.hid hW
  have HP := Lib.hid (puts_any W (w.heap.size + 1 + 1) _ b HR hb)
  rw [← hD] at HP
  clear hs hc B1 B2 B3 hW B1' B2' B3' HBW HR hz3 hz hD
  go_enter_defers Tryz.func74, Tryz.ntmps74
  go_wp2_with fail
  rw [← HW.out]
  refine HP.out.mono ?_
  rintro e w1 (⟨rfl, hdn, hg1⟩ | ⟨A1, n1, c1, ps, u, rfl, hps, hla, hdn, hr1, hg1⟩)
  · have HD := Lib.hid hdn
    have HG := Lib.hid hg1
    have C1 := H1.out.only hg1 (by omega)
    have C2 := H2.out.only hg1 (by omega)
    have r1 := C1.cell (i := 0) (by simp)
    have r2 := C2.cell (i := 0) (by simp)
    have f1 := C1.free 0
    have f2 := C2.free 0
    simp only [List.getElem_cons_zero] at r1 r2
    clear hdn hg1 C1 C2
    go_wp2_with fail
    refine leaves_cons (f := 105) (args := #[.pointer (some ⟨w.heap.size, 0, none⟩), .pointer (some ⟨w.heap.size + 1, 0, none⟩)]) (by simp) (by simp [go_sem]) ?_
    refine (putsCatch_wrong w.heap.size (w.heap.size + 1) [] w1 _ 0 r1 f1 r2 f2 (by omega)).mono ?_
    rintro e u' w' ⟨rfl, rfl, rfl⟩
    simp [Leaves, settle, results, Tryz.results74, go_sem, r1, r2]
    refine ⟨none, 0, 0, [], by rw [HD.out]; rfl, rfl, fun _ _ => .inl rfl, by rw [HD.out]; rfl, ?_⟩
    exact ((below_onlyP HBW'.out HG.out (by omega)).setCell (Nat.le_refl _) _).setCell (by simp) _
  · have HLA := Lib.hid hla
    have HG := Lib.hid hg1
    have HRD := Lib.hid hr1
    have HD := Lib.hid hdn
    have HPS := Lib.hid hps
    have C1 := H1.out.only hg1 (by omega)
    have C2 := H2.out.only hg1 (by omega)
    have r1 := C1.cell (i := 0) (by simp)
    have r2 := C2.cell (i := 0) (by simp)
    have f1 := C1.free 0
    have f2 := C2.free 0
    simp only [List.getElem_cons_zero] at r1 r2
    clear hdn hg1 C1 C2 hla hr1 hps
    have hgb := only_setCell (World.grownBy.refl w1 (some w.heap.size)) 0 (.slice A1 n1 c1)
    have HRD2 := Lib.hid (HRD.out.set (g := w.heap.size) (Nat.le_refl _) (by omega) 0 (.slice A1 n1 c1))
    have HLA2 := Lib.hid (HLA.out.through hgb (by have := HZ.out; omega))
    have HB2 : Hid (Below w.heap.size w (w1.setCell ⟨w.heap.size, 0, none⟩ (.slice A1 n1 c1))) := (below_onlyP HBW'.out HG.out (by omega)).setCell (Nat.le_refl _) _
    clear hgb HLA HRD
    by_cases hu : u = []
    · subst hu
      have HE : Hid (D = some (valsOf ps)) := HD.out
      clear HD
      go_wp2_with fail
      refine (end_ok _ _ _ HRD2.out).mono ?_
      rintro e w2 ⟨rfl, rfl⟩
      go_wp2_with fail
      refine leaves_cons (f := 105) (args := #[.pointer (some ⟨w.heap.size, 0, none⟩), .pointer (some ⟨w.heap.size + 1, 0, none⟩)]) (by simp) (by simp [go_sem]) ?_
      refine (putsCatch_idle _ _ _).mono ?_
      rintro e u' w' ⟨rfl, rfl, rfl⟩
      simp [Leaves, settle, results, Tryz.results74, go_sem, r1, r2]
      have hz := HZ.out
      have g1 := only_setCell (World.grownBy.refl (w1.setCell ⟨w.heap.size, 0, none⟩ (.slice A1 n1 c1)) (some w.heap.size)) 0 (.slice A1 n1 c1)
      have l1 := HLA2.out.through g1 (by omega)
      have g2 := only_setCell (World.grownBy.refl ((w1.setCell ⟨w.heap.size, 0, none⟩ (.slice A1 n1 c1)).setCell ⟨w.heap.size, 0, none⟩ (.slice A1 n1 c1)) (some (w.heap.size + 1))) 0 (.int .i64 0)
      have l2 := l1.through g2 (by omega)
      refine ⟨A1, n1, c1, ps, by rw [HE.out]; rfl, HPS.out, l2.far (by omega), by rw [HE.out]; rfl, ?_⟩
      exact (HB2.out.setCell (Nat.le_refl _) _).setCell (by simp) _
    · have HE : Hid (D = none) := by show _ = _; rw [HD.out, if_neg hu]
      have hul : 0 < u.length := List.length_pos_iff.2 hu
      clear HD hu
      go_wp2_with fail
      refine (end_no _ _ _ u HRD2.out hul).mono ?_
      rintro e w2 ⟨rfl, rfl⟩
      go_wp2_with fail
      refine leaves_cons (f := 105) (args := #[.pointer (some ⟨w.heap.size, 0, none⟩), .pointer (some ⟨w.heap.size + 1, 0, none⟩)]) (by simp) (by simp [go_sem]) ?_
      refine (putsCatch_wrong w.heap.size (w.heap.size + 1) [] _ (.slice A1 n1 c1) 0 ?_ ?_ ?_ ?_ (by omega)).mono ?_
      · simp [go_sem, r1]
      · simp [go_sem, f1]
      · simp [go_sem, r2]
      · simp [go_sem, f2]
      rintro e u' w' ⟨rfl, rfl, rfl⟩
      simp [Leaves, settle, results, Tryz.results74, go_sem, r1, r2]
      refine ⟨none, 0, 0, [], by rw [HE.out]; rfl, rfl, fun _ _ => .inl rfl, by rw [HE.out]; rfl, ?_⟩
      exact (HB2.out.setCell (Nat.le_refl _) _).setCell (by simp) _
end Go.Proofs.YtdaahapbpnjkfaaGreat
