/-
  The document's reader of tokens, as it lies, and its small methods (next, fail, is, must, name). Conditions: it is there, at a token.
  What a part of the grammar comes to in the reader: live (no fault yet) as its list says, dead (a fault stands) it changes nothing; parts behind one another. No program is named.
-/
import Derived.Test.YtehabjiacgibpaaCLpT
import Derived.Test.YtehabjiacgibpaaCRowT
import Derived.Deep.RegionHeldLaw
namespace Go.Proofs.Ytehabjiacgibpaa
open Go.RowKit
def TkR (_ : World) (_ : Nat → Prop) (t : Tk) (cs : List Value) : Prop := cs = tkC t ∧ small t.1 ∧ t.2.1 ≤ 9223372036854775807 ∧ t.2.2 ≤ 9223372036854775807
abbrev onG (g : Nat) : Nat → Prop := fun b => b = g
def Rd (W : World) (g : Nat) (Q : Option Addr × Nat) (L : List Tk) (k op : Nat) (d : Dg) : Prop :=
  Blk W g [.slice Q.1 L.length Q.2, .int .i64 (k : Int), .int .i64 (op : Int), .int .i64 (d.1 : Int), .int .i64 (d.2.1 : Int), .int .i64 (d.2.2 : Int)] 87 ∧ RowAt 3 TkR W (onG g) Q.1 L ∧ L.length ≤ 1000000
theorem Rd.below {W W' : World} {g : Nat} {Q : Option Addr × Nat} {L : List Tk} {k op : Nat} {d : Dg} (h : Rd W g Q L k op d) (hb : Below W.heap.size W W') : Rd W' g Q L k op d := by
  obtain ⟨h1, h2, h3⟩ := h
  exact ⟨h1.below hb h1.lt, RowAt.moved (Spared.of_below hb (onG g)) (fun i hi => .inl hi) (fun _ _ _ h => h) h2, h3⟩
theorem Rd.lt {W : World} {g : Nat} {Q : Option Addr × Nat} {L : List Tk} {k op : Nat} {d : Dg} (h : Rd W g Q L k op d) : g < W.heap.size := by
  obtain ⟨h1, _⟩ := h
  exact h1.lt
theorem Rd.at_ {W : World} {g : Nat} {Q : Option Addr × Nat} {L : List Tk} {k op : Nat} {d : Dg} (h : Rd W g Q L k op d) (hk : k < L.length) :
    ∃ (b off c : Nat), b ≠ g ∧ (small L[k].1 ∧ L[k].2.1 ≤ 9223372036854775807 ∧ L[k].2.2 ≤ 9223372036854775807) ∧ L.length ≤ 1000000 ∧ Blk W g [.slice (some ⟨b, off, none⟩) L.length c, .int .i64 (k : Int), .int .i64 (op : Int), .int .i64 (d.1 : Int), .int .i64 (d.2.1 : Int), .int .i64 (d.2.2 : Int)] 87 ∧
      ∀ W', Spared W W' (onG g) → W'.cell? ⟨b, off + k * 3, none⟩ = some (strV L[k].1) ∧ W'.cell? ⟨b, off + k * 3 + 1, none⟩ = some (.int .i64 (L[k].2.1 : Int)) ∧ W'.cell? ⟨b, off + k * 3 + 2, none⟩ = some (.int .i64 (L[k].2.2 : Int)) := by
  obtain ⟨h1, h2, h3⟩ := h
  obtain ⟨A, c⟩ := Q
  rcases h2 with rfl | ⟨b, off, rfl, hb, hF, hc⟩
  · simp at hk
  · obtain ⟨cs, ⟨rfl, hs⟩, h4⟩ := hc k hk
    refine ⟨b, off, c, hF, hs, h3, h1, fun W' hW => ?_⟩
    have h5 : ∀ i, i < 3 → W'.cell? ⟨b, off + k * 3 + i, none⟩ = (tkC L[k])[i]? := fun i hi => (hW.cellOf hb hF _).trans (h4 i hi)
    exact ⟨h5 0 (by decide), h5 1 (by decide), h5 2 (by decide)⟩
theorem Rd.set {W W' : World} {g : Nat} {Q : Option Addr × Nat} {L : List Tk} {k op : Nat} {d : Dg} (h : Rd W g Q L k op d) (hs : Spared W W' (onG g)) {k' op' : Nat} {d' : Dg}
    (hb : Blk W g [.slice Q.1 L.length Q.2, .int .i64 (k : Int), .int .i64 (op : Int), .int .i64 (d.1 : Int), .int .i64 (d.2.1 : Int), .int .i64 (d.2.2 : Int)] 87 → Blk W' g [.slice Q.1 L.length Q.2, .int .i64 (k' : Int), .int .i64 (op' : Int), .int .i64 (d'.1 : Int), .int .i64 (d'.2.1 : Int), .int .i64 (d'.2.2 : Int)] 87) : Rd W' g Q L k' op' d' := by
  obtain ⟨h1, h2, h3⟩ := h
  exact ⟨hb h1, RowAt.moved hs (fun i hi => .inl hi) (fun _ _ _ h => h) h2, h3⟩
theorem Rd.setNew {W W' : World} {g : Nat} {Q : Option Addr × Nat} {L : List Tk} {k op k0 op0 : Nat} {d d0 : Dg} (h0 : Rd W g Q L k0 op0 d0) (h : Rd W' g Q L k op d) {b : Nat} (hb : W.heap.size ≤ b) (i : Nat) (u : Value) : Rd (W'.setCell ⟨b, i, none⟩ u) g Q L k op d := by
  have hl := h0.lt
  obtain ⟨h1, h2, h3⟩ := h
  obtain ⟨_, q2, _⟩ := h0
  obtain ⟨A, c⟩ := Q
  refine ⟨h1.other _ _ (by show g ≠ b; omega), ?_, h3⟩
  refine RowAt.moved (F := fun x => x = g ∨ x = b) (G := onG g) (((Spared.refl W' (fun x => x = g ∨ x = b)).setCell (.inr rfl) i u)) (fun i hi => .inl (.inl hi)) (fun _ _ _ h => h) ?_
  rcases h2 with h2 | ⟨b1, off, e1, hb1, hF, hc⟩
  · exact .inl h2
  · rcases q2 with q2 | ⟨b2, off2, e2, hb2, _⟩
    · exact .inl q2
    · rw [e1] at e2
      injection e2 with e2
      injection e2 with e2 _ _
      exact .inr ⟨b1, off, e1, hb1, fun h => h.elim hF (fun h => by omega), hc⟩
theorem Spared.setNew {W W' : World} {F : Nat → Prop} (h : Spared W W' F) {b : Nat} (hb : W.heap.size ≤ b) (i : Nat) (u : Value) : Spared W (W'.setCell ⟨b, i, none⟩ u) F :=
  ⟨h.os, h.tape, h.output, by simpa [World.setCell] using h.size, fun k hk hn => (heap_setCell_other W' ⟨b, i, none⟩ k u (by show k ≠ b; omega)).trans (h.block k hk hn)⟩
theorem Rd.set_at {W : World} {g : Nat} {Q : Option Addr × Nat} {L : List Tk} {k op : Nat} {d : Dg} (h : Rd W g Q L k op d) (k' : Nat) : Rd (W.setCell ⟨g, 1, none⟩ (.int .i64 ((k' : Int)))) g Q L k' op d :=
  h.set ((Spared.refl W (onG g)).setCell rfl 1 _) (fun hb => by simpa using hb.set 1 (.int .i64 (k' : Int)))
theorem Rd.set_open {W : World} {g : Nat} {Q : Option Addr × Nat} {L : List Tk} {k op : Nat} {d : Dg} (h : Rd W g Q L k op d) (op' : Nat) : Rd (W.setCell ⟨g, 2, none⟩ (.int .i64 (op' : Int))) g Q L k op' d :=
  h.set ((Spared.refl W (onG g)).setCell rfl 2 _) (fun hb => by simpa using hb.set 2 (.int .i64 (op' : Int)))
theorem Rd.set_diag {W : World} {g : Nat} {Q : Option Addr × Nat} {L : List Tk} {k op : Nat} {d : Dg} (h : Rd W g Q L k op d) (a b e : Nat) : Rd (((W.setCell ⟨g, 3, none⟩ (.int .i64 (a : Int))).setCell ⟨g, 4, none⟩ (.int .i64 (b : Int))).setCell ⟨g, 5, none⟩ (.int .i64 (e : Int))) g Q L k op (a, b, e) :=
  h.set ((((Spared.refl W (onG g)).setCell rfl 3 _).setCell rfl 4 _).setCell rfl 5 _) (fun hb => by simpa using ((hb.set 3 (.int .i64 (a : Int))).set 4 (.int .i64 (b : Int))).set 5 (.int .i64 (e : Int)))
set_option maxHeartbeats 1000000 in
theorem next_any {W : World} {g : Nat} {Q : Option Addr × Nat} {L : List Tk} {k op : Nat} {d : Dg} (h : Rd W g Q L k op d) (hk : k < L.length) :
    Calls Try.prog 45 #[.pointer (some ⟨g, 0, none⟩)] W fun e w' => e = .returned (.agg #[strV L[k].1, .int .i64 (L[k].2.1 : Int), .int .i64 (L[k].2.2 : Int)]) ∧ Below W.heap.size W w' := by
  obtain ⟨b, off, c, hne, hs, hl, hB, hc⟩ := h.at_ hk
  have hS : ∀ w', Below W.heap.size W w' → (w'.cell? ⟨g, 0, none⟩ = some (.slice (some ⟨b, off, none⟩) L.length c) ∧ w'.cell? ⟨g, 1, none⟩ = some (.int .i64 (k : Int))) ∧ w'.cell? ⟨b, off + k * 3, none⟩ = some (strV L[k].1) ∧ w'.cell? ⟨b, off + k * 3 + 1, none⟩ = some (.int .i64 (L[k].2.1 : Int)) ∧ w'.cell? ⟨b, off + k * 3 + 2, none⟩ = some (.int .i64 (L[k].2.2 : Int)) := fun w' hw => by
    have hb := hB.below hw hB.lt
    exact ⟨⟨hb.cell (i := 0) (by simp), hb.cell (i := 1) (by simp)⟩, hc w' (Spared.of_below hw _)⟩
  generalize L[k].1 = s at *
  generalize L[k].2.1 = l1 at *
  generalize L[k].2.2 = l2 at *
  have hS0 := hS _ (((Below.refl W.heap.size W).alloc (Nat.le_refl _) (.cells #[.string ⟨#[]⟩, .int .i64 0, .int .i64 0] 91)).drew)
  have hS1 := hS _ (((Below.refl W.heap.size W).alloc (Nat.le_refl _) (.cells #[strV s, .int .i64 (l1 : Int), .int .i64 (l2 : Int)] 91)).drew)
  clear hB hc h hS
  go_enter Try.func45, Try.ntmps45
  go_wp2_with fail
  go_region_held_law (fun w' => (w'.cell? ⟨g, 0, none⟩ = some (.slice (some ⟨b, off, none⟩) L.length c) ∧ w'.cell? ⟨g, 1, none⟩ = some (.int .i64 (k : Int))) ∧ w'.cell? ⟨b, off + k * 3, none⟩ = some (strV s) ∧ w'.cell? ⟨b, off + k * 3 + 1, none⟩ = some (.int .i64 (l1 : Int)) ∧ w'.cell? ⟨b, off + k * 3 + 2, none⟩ = some (.int .i64 (l2 : Int)))
    (with_reducible assumption)
    (first
      | fail)
  go_wp2_with fail
  refine bodyPost_ret (v := .agg #[strV s, .int .i64 (l1 : Int), .int .i64 (l2 : Int)]) (by simp [results, Try.results45, go_sem]) rfl ?_
  exact ⟨rfl, ((Below.refl W.heap.size W).alloc (Nat.le_refl _) _).drew⟩
set_option maxHeartbeats 1000000 in
theorem is_any {W : World} {g : Nat} {Q : Option Addr × Nat} {L : List Tk} {k op : Nat} {d : Dg} (h : Rd W g Q L k op d) (hk : k < L.length) (s : Txt) :
    Calls Try.prog 42 #[.pointer (some ⟨g, 0, none⟩), strV s] W fun e w' =>
      e = .returned (.bool (decide (d.2.2 = 0 ∧ L[k].1 = s))) ∧ Rd w' g Q L (if d.2.2 = 0 ∧ L[k].1 = s then k + 1 else k) op d ∧ Spared W w' (onG g) := by
  obtain ⟨b, off, c, hne, hs, hl, hB, hc⟩ := h.at_ hk
  obtain ⟨z0, z1, z2⟩ := hc W (Spared.refl _ _)
  have x0 := hB.cell (i := 0) (by simp)
  have x1 := hB.cell (i := 1) (by simp)
  have x5 := hB.cell (i := 5) (by simp)
  simp only [List.getElem_cons_succ, List.getElem_cons_zero] at x0 x1 x5
  have f1 := hB.free 1
  have HB := Lib.hid hB
  have HR := Lib.hid h
  generalize L[k].1 = t at *
  clear hB hc h
  by_cases h1 : d.2.2 = 0 ∧ t = s
  · rw [if_pos h1, decide_eq_true h1]
    obtain ⟨h2, h3⟩ := h1
    have hd : ((d.2.2 : Int) != 0) = false := by rw [h2]; rfl
    have hts : (t == s) = true := beq_iff_eq.2 h3
    clear h2 h3
    go_enter Try.func42, Try.ntmps42
    go_wp2_with fail
    go_quiet (fail)
    go_wp2_with fail
    go_ret
    exact ⟨rfl, (HR.out.below (below_drewN (Below.refl _ _) _)).set_at (k + 1), (Spared.of_below (below_drewN (Below.refl _ _) _) (onG g)).setCell rfl 1 _⟩
  · rw [if_neg h1, decide_eq_false h1]
    have h2 : ¬ d.2.2 = 0 ∨ (d.2.2 = 0 ∧ ¬ t = s) := by
      by_cases h3 : d.2.2 = 0
      · exact .inr ⟨h3, fun e => h1 ⟨h3, e⟩⟩
      · exact .inl h3
    clear h1
    rcases h2 with h2 | ⟨h2, h3⟩
    · have hd : ((d.2.2 : Int) != 0) = true := bne_iff_ne.2 (by omega)
      clear h2
      go_enter Try.func42, Try.ntmps42
      go_wp2_with fail
      go_quiet (fail)
      go_wp2_with fail
      go_ret
      exact ⟨rfl, HR.out.below (below_drewN (Below.refl _ _) _), Spared.of_below (below_drewN (Below.refl _ _) _) _⟩
    · have hd : ((d.2.2 : Int) != 0) = false := by rw [h2]; rfl
      have hts : (t == s) = false := beq_eq_false_iff_ne.2 h3
      clear h2 h3
      go_enter Try.func42, Try.ntmps42
      go_wp2_with fail
      go_quiet (fail)
      go_wp2_with fail
      go_ret
      exact ⟨rfl, HR.out.below (below_drewN (Below.refl _ _) _), Spared.of_below (below_drewN (Below.refl _ _) _) _⟩
set_option maxHeartbeats 1000000 in
theorem fail_any {W : World} {g : Nat} {Q : Option Addr × Nat} {L : List Tk} {k op : Nat} {d : Dg} (h : Rd W g Q L k op d) (hk : k < L.length) (t : Tk) (e : Nat) :
    Calls Try.prog 46 #[.pointer (some ⟨g, 0, none⟩), .agg #[strV t.1, .int .i64 (t.2.1 : Int), .int .i64 (t.2.2 : Int)], .int .i64 (e : Int)] W fun r w' =>
      r = .returned (.tuple #[]) ∧ Rd w' g Q L k op (if d.2.2 = 0 then failT t e else d) ∧ Spared W w' (onG g) := by
  obtain ⟨b, off, c, hne, hs, hl, hB, hc⟩ := h.at_ hk
  obtain ⟨t1, t2, t3⟩ := t
  have hS : ∀ o, (W.alloc o).cell? ⟨g, 5, none⟩ = some (.int .i64 (d.2.2 : Int)) := fun o => (hB.alloc o).cell (i := 5) (by simp)
  have y3 : ∀ o, (W.alloc o).cell? ⟨g, 3, none⟩ = some (.int .i64 (d.1 : Int)) := fun o => (hB.alloc o).cell (i := 3) (by simp)
  have y4 : ∀ o, (W.alloc o).cell? ⟨g, 4, none⟩ = some (.int .i64 (d.2.1 : Int)) := fun o => (hB.alloc o).cell (i := 4) (by simp)
  have f3 : ∀ o, (W.alloc o).frozen? ⟨g, 3, none⟩ = false := fun o => (hB.alloc o).free 3
  have f4 : ∀ o, (W.alloc o).frozen? ⟨g, 4, none⟩ = false := fun o => (hB.alloc o).free 4
  have f5 : ∀ o, (W.alloc o).frozen? ⟨g, 5, none⟩ = false := fun o => (hB.alloc o).free 5
  have HR := Lib.hid h
  clear hB hc h
  by_cases h0 : d.2.2 = 0
  · rw [if_pos h0]
    have hd : ((d.2.2 : Int) == 0) = true := by rw [h0]; rfl
    clear h0
    go_enter Try.func46, Try.ntmps46
    go_wp2_with fail
    go_end0
    exact ⟨rfl, (HR.out.below ((Below.refl W.heap.size W).alloc (Nat.le_refl _) _)).set_diag t2 t3 e, ((((Spared.of_below ((Below.refl W.heap.size W).alloc (Nat.le_refl _) _) (onG g)).setCell rfl 3 _).setCell rfl 4 _).setCell rfl 5 _)⟩
  · rw [if_neg h0]
    have hd : ((d.2.2 : Int) == 0) = false := beq_eq_false_iff_ne.2 (by omega)
    clear h0
    go_enter Try.func46, Try.ntmps46
    go_wp2_with fail
    go_end0
    exact ⟨rfl, HR.out.below ((Below.refl W.heap.size W).alloc (Nat.le_refl _) _), Spared.of_below ((Below.refl W.heap.size W).alloc (Nat.le_refl _) _) _⟩
def afterMust (L : List Tk) (k : Nat) (h : k < L.length) (d : Dg) (s : Txt) : Nat × Dg := if d.2.2 = 0 then (if L[k].1 = s then (k + 1, d) else (k, failT L[k] 8)) else (k, d)
theorem Rd.spare {W W' : World} {g : Nat} {Q : Option Addr × Nat} {L : List Tk} {k op : Nat} {d : Dg} (h : Rd W g Q L k op d) (hb : Below W.heap.size W W') : Rd W' g Q L k op d ∧ Spared W W' (onG g) := ⟨h.below hb, Spared.of_below hb _⟩
theorem sp_trans {W W1 W2 : World} {g : Nat} (h : Spared W W1 (onG g)) (k : Spared W1 W2 (onG g)) : Spared W W2 (onG g) := h.trans k (fun _ h => .inl h)
set_option maxHeartbeats 1000000 in
theorem must_any {W : World} {g : Nat} {Q : Option Addr × Nat} {L : List Tk} {k op : Nat} {d : Dg} (h : Rd W g Q L k op d) (hk : k < L.length) (s : Txt) :
    Calls Try.prog 62 #[.pointer (some ⟨g, 0, none⟩), strV s] W fun r w' =>
      r = .returned (.tuple #[]) ∧ Rd w' g Q L (afterMust L k hk d s).1 op (afterMust L k hk d s).2 ∧ Spared W w' (onG g) := by
  have HI := Lib.hid (is_any h hk s)
  have HNX : Hid (∀ W', Rd W' g Q L k op d → Calls Try.prog 45 #[.pointer (some ⟨g, 0, none⟩)] W' fun e w' => e = .returned (.agg #[strV L[k].1, .int .i64 (L[k].2.1 : Int), .int .i64 (L[k].2.2 : Int)]) ∧ Below W'.heap.size W' w') := Lib.hid (fun W' h => next_any h hk)
  have HF : Hid (∀ W', Rd W' g Q L k op d → Calls Try.prog 46 #[.pointer (some ⟨g, 0, none⟩), .agg #[strV L[k].1, .int .i64 (L[k].2.1 : Int), .int .i64 (L[k].2.2 : Int)], .int .i64 8] W' fun r w' =>
      r = .returned (.tuple #[]) ∧ Rd w' g Q L k op (if d.2.2 = 0 then failT L[k] 8 else d) ∧ Spared W' w' (onG g)) := Lib.hid (fun W' h => fail_any h hk L[k] 8)
  unfold afterMust
  by_cases h1 : d.2.2 = 0 ∧ L[k].1 = s
  · rw [if_pos h1.1, if_pos h1.2]
    rw [if_pos h1, decide_eq_true h1] at HI
    clear h1
    go_enter Try.func62, Try.ntmps62
    go_wp2_with (go_at_call 42; with_reducible refine HI.out.mono ?_; rintro e w2 ⟨rfl, hr2, hs2⟩)
    go_end0
    exact ⟨rfl, hr2, hs2⟩
  · rw [if_neg h1, decide_eq_false h1] at HI
    have hd : (if d.2.2 = 0 then (if L[k].1 = s then (k + 1, d) else (k, failT L[k] 8)) else (k, d)) = (k, if d.2.2 = 0 then failT L[k] 8 else d) := by
      by_cases h2 : d.2.2 = 0
      · rw [if_pos h2, if_pos h2, if_neg (fun e => h1 ⟨h2, e⟩)]
      · rw [if_neg h2, if_neg h2]
    rw [hd]
    clear h1 hd
    generalize (if d.2.2 = 0 then failT L[k] 8 else d) = D at *
    go_enter Try.func62, Try.ntmps62
    go_wp2_with (first
      | (go_at_call 42; with_reducible refine HI.out.mono ?_; rintro e w2 ⟨rfl, hr2, hs2⟩; have HR2 := Lib.hid hr2; have HS2 := Lib.hid hs2; clear hr2 hs2)
      | (go_at_call 45; with_reducible refine (HNX.out _ HR2.out).mono ?_; rintro e w3 ⟨rfl, hb3⟩; have HR3 := Lib.hid (HR2.out.below hb3); have HS3 := Lib.hid (sp_trans HS2.out (Spared.of_below hb3 _)); clear hb3)
      | (go_at_call 46; with_reducible refine (HF.out _ HR3.out).mono ?_; rintro e w4 ⟨rfl, hr4, hs4⟩))
    go_end0
    exact ⟨rfl, hr4, sp_trans HS3.out hs4⟩
def afterName (L : List Tk) (k : Nat) (h : k < L.length) (d : Dg) : Txt × Nat × Dg := if d.2.2 = 0 then (if nameL L[k].1 = true then (L[k].1, k + 1, d) else ([], k, failT L[k] 8)) else ([], k, d)
set_option maxHeartbeats 1000000 in
theorem rname_any {W : World} {g : Nat} {Q : Option Addr × Nat} {L : List Tk} {k op : Nat} {d : Dg} (h : Rd W g Q L k op d) (hk : k < L.length) :
    Calls Try.prog 43 #[.pointer (some ⟨g, 0, none⟩)] W fun r w' =>
      r = .returned (strV (afterName L k hk d).1) ∧ Rd w' g Q L (afterName L k hk d).2.1 op (afterName L k hk d).2.2 ∧ Spared W w' (onG g) := by
  have HNX := Lib.hid (next_any h hk)
  have HF : Hid (∀ W', Rd W' g Q L k op d → Calls Try.prog 46 #[.pointer (some ⟨g, 0, none⟩), .agg #[strV L[k].1, .int .i64 (L[k].2.1 : Int), .int .i64 (L[k].2.2 : Int)], .int .i64 8] W' fun r w' =>
      r = .returned (.tuple #[]) ∧ Rd w' g Q L k op (if d.2.2 = 0 then failT L[k] 8 else d) ∧ Spared W' w' (onG g)) := Lib.hid (fun W' h => fail_any h hk L[k] 8)
  obtain ⟨b, off, c, hne, hsm, hl, hB, hc⟩ := h.at_ hk
  have HN := Lib.hid (fun W => refName_txt L[k].1 W hsm.1)
  have HBK := Lib.hid hB
  have HR := Lib.hid h
  unfold afterName
  obtain ⟨T, hT⟩ : ∃ T, T = L[k] := ⟨_, rfl⟩
  simp only [← hT] at HNX HF HN ⊢
  obtain ⟨t, t2, t3⟩ := T
  dsimp only at HNX HF HN ⊢
  obtain ⟨q, hq⟩ : ∃ q, nameL t = q := ⟨_, rfl⟩
  rw [hq] at HN ⊢
  clear hB hc h hq hT hsm
  by_cases h0 : d.2.2 = 0
  · rw [if_pos h0]
    have hd : ((d.2.2 : Int) != 0) = false := by rw [h0]; rfl
    rw [if_pos h0] at HF
    clear h0
    cases q
    · rw [if_neg (by decide)]
      generalize failT (t, t2, t3) 8 = D at *
      go_enter Try.func43, Try.ntmps43
      go_wp2_with (first
        | (go_at_call 45; with_reducible refine HNX.out.mono ?_; rintro e w2 ⟨rfl, hb2⟩; have HR2 := Lib.hid (HR.out.below hb2); have HS2 := Lib.hid (Spared.of_below hb2 (onG g)); have hbk := (HBK.out.below hb2 HBK.out.lt); have x1o : ∀ o, (w2.alloc o).cell? ⟨g, 1, none⟩ = some (.int .i64 (k : Int)) := fun o => (hbk.alloc o).cell (i := 1) (by simp); have x5o : ∀ o, (w2.alloc o).cell? ⟨g, 5, none⟩ = some (.int .i64 (d.2.2 : Int)) := fun o => (hbk.alloc o).cell (i := 5) (by simp); have f1o : ∀ o, (w2.alloc o).frozen? ⟨g, 1, none⟩ = false := fun o => (hbk.alloc o).free 1; clear hbk hb2)
        | (go_at_call 40; with_reducible refine (HN.out _).mono ?_; rintro e w3 ⟨rfl, rfl⟩)
        | (go_at_call 46; with_reducible refine (HF.out _ (HR2.out.below ((Below.refl _ _).alloc (Nat.le_refl _) (.cells #[strV t, .int .i64 (t2 : Int), .int .i64 (t3 : Int)] 91)))).mono ?_; rintro e w4 ⟨rfl, hr4, hs4⟩))
      go_ret
      exact ⟨rfl, hr4, sp_trans (HS2.out.trans (Spared.of_below ((Below.refl _ _).alloc (Nat.le_refl _) _) (onG g)) (fun _ h => .inl h)) hs4⟩
    · rw [if_pos rfl]
      go_enter Try.func43, Try.ntmps43
      go_wp2_with (first
        | (go_at_call 45; with_reducible refine HNX.out.mono ?_; rintro e w2 ⟨rfl, hb2⟩; have HR2 := Lib.hid (HR.out.below hb2); have HS2 := Lib.hid (Spared.of_below hb2 (onG g)); have hbk := (HBK.out.below hb2 HBK.out.lt); have x1o : ∀ o, (w2.alloc o).cell? ⟨g, 1, none⟩ = some (.int .i64 (k : Int)) := fun o => (hbk.alloc o).cell (i := 1) (by simp); have x5o : ∀ o, (w2.alloc o).cell? ⟨g, 5, none⟩ = some (.int .i64 (d.2.2 : Int)) := fun o => (hbk.alloc o).cell (i := 5) (by simp); have f1o : ∀ o, (w2.alloc o).frozen? ⟨g, 1, none⟩ = false := fun o => (hbk.alloc o).free 1; clear hbk hb2)
        | (go_at_call 40; with_reducible refine (HN.out _).mono ?_; rintro e w3 ⟨rfl, rfl⟩))
      go_ret
      exact ⟨rfl, (HR2.out.below ((Below.refl _ _).alloc (Nat.le_refl _) (.cells #[strV t, .int .i64 (t2 : Int), .int .i64 (t3 : Int)] 91))).set_at (k + 1), (HS2.out.trans (Spared.of_below ((Below.refl _ _).alloc (Nat.le_refl _) _) (onG g)) (fun _ h => .inl h)).setCell rfl 1 _⟩
  · rw [if_neg h0]
    have hd : ((d.2.2 : Int) != 0) = true := bne_iff_ne.2 (by omega)
    rw [if_neg h0] at HF
    clear h0
    cases q
    · go_enter Try.func43, Try.ntmps43
      go_wp2_with (first
        | (go_at_call 45; with_reducible refine HNX.out.mono ?_; rintro e w2 ⟨rfl, hb2⟩; have HR2 := Lib.hid (HR.out.below hb2); have HS2 := Lib.hid (Spared.of_below hb2 (onG g)); have hbk := (HBK.out.below hb2 HBK.out.lt); have x1o : ∀ o, (w2.alloc o).cell? ⟨g, 1, none⟩ = some (.int .i64 (k : Int)) := fun o => (hbk.alloc o).cell (i := 1) (by simp); have x5o : ∀ o, (w2.alloc o).cell? ⟨g, 5, none⟩ = some (.int .i64 (d.2.2 : Int)) := fun o => (hbk.alloc o).cell (i := 5) (by simp); have f1o : ∀ o, (w2.alloc o).frozen? ⟨g, 1, none⟩ = false := fun o => (hbk.alloc o).free 1; clear hbk hb2)
        | (go_at_call 40; with_reducible refine (HN.out _).mono ?_; rintro e w3 ⟨rfl, rfl⟩)
        | (go_at_call 46; with_reducible refine (HF.out _ (HR2.out.below ((Below.refl _ _).alloc (Nat.le_refl _) (.cells #[strV t, .int .i64 (t2 : Int), .int .i64 (t3 : Int)] 91)))).mono ?_; rintro e w4 ⟨rfl, hr4, hs4⟩))
      go_ret
      exact ⟨rfl, hr4, sp_trans (HS2.out.trans (Spared.of_below ((Below.refl _ _).alloc (Nat.le_refl _) _) (onG g)) (fun _ h => .inl h)) hs4⟩
    · go_enter Try.func43, Try.ntmps43
      go_wp2_with (first
        | (go_at_call 45; with_reducible refine HNX.out.mono ?_; rintro e w2 ⟨rfl, hb2⟩; have HR2 := Lib.hid (HR.out.below hb2); have HS2 := Lib.hid (Spared.of_below hb2 (onG g)); have hbk := (HBK.out.below hb2 HBK.out.lt); have x1o : ∀ o, (w2.alloc o).cell? ⟨g, 1, none⟩ = some (.int .i64 (k : Int)) := fun o => (hbk.alloc o).cell (i := 1) (by simp); have x5o : ∀ o, (w2.alloc o).cell? ⟨g, 5, none⟩ = some (.int .i64 (d.2.2 : Int)) := fun o => (hbk.alloc o).cell (i := 5) (by simp); have f1o : ∀ o, (w2.alloc o).frozen? ⟨g, 1, none⟩ = false := fun o => (hbk.alloc o).free 1; clear hbk hb2)
        | (go_at_call 40; with_reducible refine (HN.out _).mono ?_; rintro e w3 ⟨rfl, rfl⟩)
        | (go_at_call 46; with_reducible refine (HF.out _ (HR2.out.below ((Below.refl _ _).alloc (Nat.le_refl _) (.cells #[strV t, .int .i64 (t2 : Int), .int .i64 (t3 : Int)] 91)))).mono ?_; rintro e w4 ⟨rfl, hr4, hs4⟩))
      go_ret
      exact ⟨rfl, hr4, sp_trans (HS2.out.trans (Spared.of_below ((Below.refl _ _).alloc (Nat.le_refl _) _) (onG g)) (fun _ h => .inl h)) hs4⟩
end Go.Proofs.Ytehabjiacgibpaa
namespace Go.Proofs.Ytehabjiacgibpaa
open Go.RowKit
def Ends (L : List Tk) : Prop := ∀ k (h : k < L.length), k + 1 = L.length → L[k].1 = [] ∨ L[k].1 = [63]
theorem nx_drop {L : List Tk} {k : Nat} (h : k < L.length) : nx (L.drop k) = L[k] := by
  rw [nx, List.drop_eq_getElem_cons h]
  rfl
theorem drop_tail {L : List Tk} {k : Nat} : (L.drop k).tail = L.drop (k + 1) := by simp
theorem Ends.more {L : List Tk} (he : Ends L) {k : Nat} (h : k < L.length) (h1 : L[k].1 ≠ []) (h2 : L[k].1 ≠ [63]) : k + 1 < L.length := by
  by_cases hk : k + 1 = L.length
  · rcases he k h hk with e | e
    · exact absurd e h1
    · exact absurd e h2
  · omega
def Goes {α : Type} (P : List Tk → Rs α) (L : List Tk) (k : Nat) (d : Dg) (a : α) (k' : Nat) (d' : Dg) : Prop :=
  (d.2.2 = 0 → (∃ r, P (L.drop k) = .ok a r ∧ r = L.drop k' ∧ d' = d) ∨ (P (L.drop k) = .no d' ∧ d'.2.2 ≠ 0)) ∧ (d.2.2 ≠ 0 → d' = d) ∧ k ≤ k' ∧ k' < L.length
theorem Goes.then {α β : Type} {P : List Tk → Rs α} {f : α → List Tk → Rs β} {L : List Tk} {k k1 k2 : Nat} {d d1 d2 : Dg} {a : α} {b : β} (h1 : Goes P L k d a k1 d1) (h2 : Goes (f a) L k1 d1 b k2 d2) :
    Goes (fun ts => (P ts).then f) L k d b k2 d2 := by
  obtain ⟨l1, e1, m1, n1⟩ := h1
  obtain ⟨l2, e2, m2, n2⟩ := h2
  refine ⟨fun hd => ?_, fun hd => ?_, Nat.le_trans m1 m2, n2⟩
  · rcases l1 hd with ⟨r, hP, rfl, rfl⟩ | ⟨hP, hn⟩
    · simp only [hP, Rs.then]
      exact l2 hd
    · simp only [hP, Rs.then]
      refine .inr ⟨?_, ?_⟩
      · rw [e2 hn]
      · rw [e2 hn]; exact hn
  · have := e1 hd
    subst this
    exact e2 hd
theorem Goes.ok {α : Type} {L : List Tk} {k : Nat} {d : Dg} (a : α) (hk : k < L.length) : Goes (fun ts => .ok a ts) L k d a k d := ⟨fun _ => .inl ⟨_, rfl, rfl, rfl⟩, fun _ => rfl, Nat.le_refl _, hk⟩
theorem Goes.dead {α : Type} {P : List Tk → Rs α} {L : List Tk} {k : Nat} {d : Dg} (hd : d.2.2 ≠ 0) (a : α) (hk : k < L.length) : Goes P L k d a k d := ⟨fun h => absurd h hd, fun _ => rfl, Nat.le_refl _, hk⟩
theorem Goes.fail {α : Type} {P : List Tk → Rs α} {L : List Tk} {k : Nat} {d e : Dg} (a : α) (hk : k < L.length) (hd : d.2.2 = 0) (he : e.2.2 ≠ 0) (hP : P (L.drop k) = .no e) : Goes P L k d a k e :=
  ⟨fun _ => .inr ⟨hP, he⟩, fun h => absurd hd h, Nat.le_refl _, hk⟩
theorem Goes.take {α : Type} {Q R : List Tk → Rs α} {L : List Tk} {k k' : Nat} {d d' : Dg} {a : α} {s : Txt} (hk : k < L.length) (h : d.2.2 = 0 ∧ L[k].1 = s) (hq : Goes Q L (k + 1) d a k' d') :
    Goes (fun ts => if (nx ts).1 = s then Q ts.tail else R ts) L k d a k' d' := by
  obtain ⟨l, e, m, n⟩ := hq
  refine ⟨fun hd => ?_, e, by omega, n⟩
  simp only [nx_drop hk, h.2, if_true, drop_tail]
  exact l hd
theorem Goes.pass {α : Type} {Q R : List Tk → Rs α} {L : List Tk} {k k' : Nat} {d d' : Dg} {a : α} {s : Txt} (hk : k < L.length) (h : ¬ (d.2.2 = 0 ∧ L[k].1 = s)) (hr : Goes R L k d a k' d') :
    Goes (fun ts => if (nx ts).1 = s then Q ts.tail else R ts) L k d a k' d' := by
  obtain ⟨l, e, m, n⟩ := hr
  refine ⟨fun hd => ?_, e, m, n⟩
  have h1 : ¬ L[k].1 = s := fun hs => h ⟨hd, hs⟩
  simp only [nx_drop hk, h1, if_false]
  exact l hd
theorem fail8 (t : Tk) : (failT t 8).2.2 ≠ 0 := Nat.succ_ne_zero 7
theorem fail9 (t : Tk) : (failT t 9).2.2 ≠ 0 := Nat.succ_ne_zero 8
theorem nameL_ends {s : Txt} (h : nameL s = true) : s ≠ [] ∧ s ≠ [63] := by
  constructor
  · rintro rfl; revert h; decide
  · rintro rfl; revert h; decide
theorem name_goes {L : List Tk} (he : Ends L) {k : Nat} {d : Dg} (hk : k < L.length) : Goes nameP L k d (afterName L k hk d).1 (afterName L k hk d).2.1 (afterName L k hk d).2.2 := by
  unfold afterName
  by_cases h0 : d.2.2 = 0
  · rw [if_pos h0]
    by_cases h1 : nameL L[k].1 = true
    · rw [if_pos h1]
      have h2 := nameL_ends h1
      refine ⟨fun _ => .inl ⟨_, ?_, rfl, rfl⟩, fun _ => rfl, by simp, he.more hk h2.1 h2.2⟩
      simp only [nameP, nx_drop hk, h1, if_true, drop_tail]
    · rw [if_neg h1]
      refine Goes.fail _ hk h0 (fail8 _) ?_
      simp only [nameP, nx_drop hk, h1]
      rfl
  · rw [if_neg h0]
    exact Goes.dead h0 _ hk
theorem must_goes {L : List Tk} (he : Ends L) {k : Nat} {d : Dg} (hk : k < L.length) {s : Txt} (hs : s ≠ [] ∧ s ≠ [63]) : Goes (mustP s) L k d () (afterMust L k hk d s).1 (afterMust L k hk d s).2 := by
  unfold afterMust
  by_cases h0 : d.2.2 = 0
  · rw [if_pos h0]
    by_cases h1 : L[k].1 = s
    · rw [if_pos h1]
      refine ⟨fun _ => .inl ⟨_, ?_, rfl, rfl⟩, fun _ => rfl, by simp, he.more hk (h1 ▸ hs.1) (h1 ▸ hs.2)⟩
      simp only [mustP, nx_drop hk, h1, if_true, drop_tail]
    · rw [if_neg h1]
      refine Goes.fail _ hk h0 (fail8 _) ?_
      simp only [mustP, nx_drop hk, h1, if_false]
  · rw [if_neg h0]
    exact Goes.dead h0 _ hk
theorem rname_goes {W : World} {g : Nat} {Q : Option Addr × Nat} {L : List Tk} {k op : Nat} {d : Dg} (he : Ends L) (h : Rd W g Q L k op d) (hk : k < L.length) :
    Calls Try.prog 43 #[.pointer (some ⟨g, 0, none⟩)] W fun r w' =>
      ∃ s k' d', r = .returned (strV s) ∧ small s ∧ Goes nameP L k d s k' d' ∧ Rd w' g Q L k' op d' ∧ Spared W w' (onG g) :=
  (rname_any h hk).mono fun r w' ⟨h1, h2, h3⟩ => by
    refine ⟨_, _, _, h1, ?_, name_goes he hk, h2, h3⟩
    obtain ⟨b, off, c, _, hs, _⟩ := h.at_ hk
    unfold afterName
    split
    · split
      · exact hs.1
      · exact Nat.zero_le _
    · exact Nat.zero_le _
theorem must_any' {W : World} {g : Nat} {Q : Option Addr × Nat} {L : List Tk} {k op : Nat} {d : Dg} (he : Ends L) (h : Rd W g Q L k op d) (hk : k < L.length) (s : Txt) (hs : s ≠ [] ∧ s ≠ [63]) :
    Calls Try.prog 62 #[.pointer (some ⟨g, 0, none⟩), strV s] W fun r w' =>
      ∃ k' d', r = .returned (.tuple #[]) ∧ Goes (mustP s) L k d () k' d' ∧ Rd w' g Q L k' op d' ∧ Spared W w' (onG g) :=
  (must_any h hk s).mono fun _ _ ⟨h1, h2, h3⟩ => ⟨_, _, h1, must_goes he hk hs, h2, h3⟩
end Go.Proofs.Ytehabjiacgibpaa
