/-
  TupleAllows, walked. Conditions: the arguments are there; no text of the schema is longer than 2^47 bytes.
-/
import Derived.Test.YtehabjiacgibpaaCTpAw
import Derived.Test.YtehabjiacgibpaaCTpRa
import Derived.Test.YtehabjiacgibpaaCTpX
import Derived.Test.YtehabjiacgibpaaCLaOpW
import Derived.Test.YtehabjiacgibpaaCRoO
namespace Go.Proofs.Ytehabjiacgibpaa
open Go.RowKit
theorem cpS_of {s : Sc} (h : wTs s ≤ 700) (hu : ∀ u ∈ txS s, u.length ≤ 140737488351232) : cpS s := by
  intro t ht
  refine ⟨by have := wTs_mem ht; have := wRs_len t.rels; omega, fun r hr => ?_⟩
  have h1 := refs_few ht hr
  have h2 : ∀ u ∈ txR r, u.length ≤ 140737488351232 := fun u hr2 => hu u (List.mem_flatMap.2 ⟨t, ht, by unfold txT; exact List.mem_cons_of_mem _ (List.mem_flatMap.2 ⟨r, hr, hr2⟩)⟩)
  unfold txR at h2
  refine ⟨⟨by have := h2 r.name (List.mem_cons_self ..); omega, by omega⟩, fun f hf => ?_⟩
  have h3 : ∀ u ∈ txF f, u.length ≤ 140737488351232 := fun u hu2 => h2 u (List.mem_cons_of_mem _ (List.mem_append.2 (.inl (List.mem_flatMap.2 ⟨f, hf, hu2⟩))))
  have h4 := h3 f.1 (List.mem_cons_self ..)
  have h5 := h3 f.2 (List.mem_cons_of_mem _ (List.mem_cons_self ..))
  omega
set_option maxRecDepth 100000 in
set_option maxHeartbeats 4000000 in
theorem allows0 (s : Sc) (A : Option Addr) (c : Nat) (t : Tup) (W : World) (hs : ScAt W noF A s) (hl : s.length ≤ 9223372036854775807 ∧ s.length ≤ c) (hu : ∀ u ∈ txS s, u.length ≤ 140737488351232) (ht' : ∀ x ∈ six t, x.length ≤ 9223372036854775807) :
    Calls Try.prog 3 #[.agg #[.slice A s.length c], .agg ((six t).map strV).toArray] W fun e w' => e = .returned (.bool true) ∧ Below W.heap.size W w' := by
  obtain ⟨hl, hcap⟩ := hl
  obtain ⟨q0, q1, q2, q3, q4, q5, hq, he⟩ := six_of t
  obtain ⟨W1, hW⟩ : ∃ W1, W1 = (W.alloc (.cells #[.slice A s.length c] 24)).alloc (.cells #[strV q0, strV q1, strV q2, strV q3, strV q4, strV q5] 30) := ⟨_, rfl⟩
  have hKA : Blk W1 W.heap.size [.slice A s.length c] 24 := by rw [hW]; exact (Blk.new W _ _).alloc _
  have hKT : Blk W1 (W.heap.size + 1) [strV q0, strV q1, strV q2, strV q3, strV q4, strV q5] 30 := by
    rw [hW]
    have := Blk.new (W.alloc (.cells #[.slice A s.length c] 24)) [strV q0, strV q1, strV q2, strV q3, strV q4, strV q5] 30
    rw [World.size_alloc] at this
    exact this
  have HB0 : Hid (Below W.heap.size W W1) := by rw [hW]; exact Lib.hid (((Below.refl _ _).alloc (Nat.le_refl _) _).alloc (by simp) _)
  have HW := Lib.hid hW
  have HX : Hid (∀ w, Below W1.heap.size W1 w → w.cell? ⟨W.heap.size, 0, none⟩ = some (.slice A s.length c)) := Lib.hid (fun w hw => (hKA.below hw hKA.lt).cell (i := 0) (by simp))
  have HY : Hid (∀ w, Below W1.heap.size W1 w → w.cell? ⟨W.heap.size + 1, 0, none⟩ = some (strV q0) ∧ w.cell? ⟨W.heap.size + 1, 1, none⟩ = some (strV q1) ∧ w.cell? ⟨W.heap.size + 1, 2, none⟩ = some (strV q2) ∧ w.cell? ⟨W.heap.size + 1, 3, none⟩ = some (strV q3) ∧ w.cell? ⟨W.heap.size + 1, 4, none⟩ = some (strV q4) ∧ w.cell? ⟨W.heap.size + 1, 5, none⟩ = some (strV q5)) := Lib.hid (fun w hw => by
    have h2 := hKT.below hw hKT.lt
    exact ⟨h2.cell (i := 0) (by simp), h2.cell (i := 1) (by simp), h2.cell (i := 2) (by simp), h2.cell (i := 3) (by simp), h2.cell (i := 4) (by simp), h2.cell (i := 5) (by simp)⟩)
  have HS : Hid (∀ w, Below W1.heap.size W1 w → ScAt w noF A s) := Lib.hid (fun w hw => hs.below (HB0.out.trans (hw.mono HB0.out.size)))
  have HA := Lib.hid (awake_any W1)
  have HT' := Lib.hid ht'
  rw [hq]
  have HQ6 := Lib.hid hq
  clear hW hs ht' hKA hKT hq
  go_enter Try.func3, Try.ntmps3
  go_wp2_with fail
  show Calls _ _ _ ((W.alloc (.cells #[.slice A s.length c] 24)).alloc (.cells #[strV q0, strV q1, strV q2, strV q3, strV q4, strV q5] 30)) _
  rw [← HW.out]
  refine HA.out.mono ?_
  rintro e w1 ⟨rfl, hb1⟩
  have HB1 := Lib.hid hb1
  have x1 := HX.out w1 hb1
  have HF := Lib.hid (few_any s 80 w1 noF A c (HS.out w1 hb1) hl (by omega))
  obtain ⟨q, hq⟩ : ∃ q, fewS s 80 = q := ⟨_, rfl⟩
  rw [hq] at HF
  have HQ := Lib.hid hq
  clear hb1 hq HA
  cases q
  · go_wp2_with fail
    refine HF.out.mono ?_
    rintro e w2 ⟨rfl, hb2⟩
    go_wp2_with fail
    go_ret
    have hb := hop HB1.out hb2
    exact ⟨rfl, HB0.out.trans (hb.mono HB0.out.size)⟩
  have HCP := Lib.hid (cpS_of (few_80 HQ.out) hu)
  go_wp2_with fail
  refine HF.out.mono ?_
  rintro e w2 ⟨rfl, hb2⟩
  have B2 := hop HB1.out hb2
  have E1 : Hid (∀ w, Below W1.heap.size W1 w → Calls Try.prog 10 #[.agg #[.slice A s.length c], .agg #[strV q0, strV q1, strV q2, strV q3, strV q4, strV q5]] w fun e w' => e = .returned (.int .i64 (allowN s t)) ∧ Below w.heap.size w w') := Lib.hid (fun w hw => by
    rw [← HQ6.out]
    exact allowed_any s t w noF A c (HS.out w hw) hl HCP.out HT'.out)
  have E2 : Hid (∀ w, Below W1.heap.size W1 w → Calls Try.prog 11 #[.agg #[.slice A s.length c], .agg #[strV q0, strV q1, strV q2, strV q3, strV q4, strV q5]] w fun e w' => e = .returned (.int .i64 (allowN s t)) ∧ Below w.heap.size w w') := Lib.hid (fun w hw => by
    rw [← HQ6.out]
    exact refAllowed_any s t w noF A c (HS.out w hw) hl HT'.out)
  generalize allowN s t = v at *
  have hX := HX.out
  have hY0 : ∀ w, Below W1.heap.size W1 w → w.cell? ⟨W.heap.size + 1, 0, none⟩ = some (strV q0) := fun w hw => (HY.out w hw).1
  have hY1 : ∀ w, Below W1.heap.size W1 w → w.cell? ⟨W.heap.size + 1, 1, none⟩ = some (strV q1) := fun w hw => (HY.out w hw).2.1
  have hY2 : ∀ w, Below W1.heap.size W1 w → w.cell? ⟨W.heap.size + 1, 2, none⟩ = some (strV q2) := fun w hw => (HY.out w hw).2.2.1
  have hY3 : ∀ w, Below W1.heap.size W1 w → w.cell? ⟨W.heap.size + 1, 3, none⟩ = some (strV q3) := fun w hw => (HY.out w hw).2.2.2.1
  have hY4 : ∀ w, Below W1.heap.size W1 w → w.cell? ⟨W.heap.size + 1, 4, none⟩ = some (strV q4) := fun w hw => (HY.out w hw).2.2.2.2.1
  have hY5 : ∀ w, Below W1.heap.size W1 w → w.cell? ⟨W.heap.size + 1, 5, none⟩ = some (strV q5) := fun w hw => (HY.out w hw).2.2.2.2.2
  have hvv : (v == v) = true := by simp
  clear hb2 HF x1 hu
  go_wp2_with fail
  go_region_held_law (fun w' => Below W1.heap.size W1 w') (first | exact B2.drew | exact B2 | assumption)
    (first
      | (go_at_call 10; refine (E1.out _ B2.drew).mono ?_; rintro e w3 ⟨rfl, hb3⟩; have B3 : Below W1.heap.size W1 w3 := hop B2.drew hb3; clear hb3)
      | (go_at_call 11; refine (E2.out _ B3).mono ?_; rintro e w4 ⟨rfl, hb4⟩; have B4 : Below W1.heap.size W1 w4 := hop B3 hb4; clear hb4))
  go_wp2_with fail
  go_ret
  exact ⟨rfl, HB0.out.trans (B4.mono HB0.out.size)⟩
theorem tupleAllows_walk (s : Sc) (A : Option Addr) (c : Nat) (a b r d f g : Txt) (W : World) (hs : ScAt W noF A s) (hl : s.length ≤ 9223372036854775807 ∧ s.length ≤ c) (hu : ∀ u ∈ txS s, u.length ≤ 140737488351232)
    (m1 : a.length ≤ 9223372036854775807) (m2 : b.length ≤ 9223372036854775807) (m3 : r.length ≤ 9223372036854775807) (m4 : d.length ≤ 9223372036854775807) (m5 : f.length ≤ 9223372036854775807) (m6 : g.length ≤ 9223372036854775807) :
    Calls Try.prog 3 #[.agg #[.slice A s.length c], .agg #[strV a, strV b, strV r, strV d, strV f, strV g]] W fun e w' => e = .returned (.bool true) ∧ Below W.heap.size W w' :=
  allows0 s A c (a, b, r, d, f, g) W hs hl hu (six_le m1 m2 m3 m4 m5 m6)
end Go.Proofs.Ytehabjiacgibpaa
