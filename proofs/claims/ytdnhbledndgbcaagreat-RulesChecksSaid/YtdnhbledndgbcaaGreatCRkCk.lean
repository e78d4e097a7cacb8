/-
  RulesChecks, walked. Conditions: the argument is there.
-/
import Derived.Test.YtdnhbledndgbcaaGreatCRkSz
import Derived.Test.YtdnhbledndgbcaaGreatCLaOpen
namespace Go.Proofs.YtdnhbledndgbcaaGreat
open Go.RowKit
set_option maxRecDepth 100000 in
set_option maxHeartbeats 4000000 in
theorem rulesChecks_walk (s : Sc) (A : Option Addr) (c : Nat) (W : World) (hs : ScAt W noF A s) (hl : s.length ≤ 9223372036854775807 ∧ s.length ≤ c) :
    Calls Tryz.prog 3 #[.agg #[.slice A s.length c]] W fun e w' => e = .returned (.bool true) ∧ Below W.heap.size W w' := by
  obtain ⟨hl, hcap⟩ := hl
  obtain ⟨W1, hW⟩ : ∃ W1, W1 = W.alloc (.cells #[.slice A s.length c] 24) := ⟨_, rfl⟩
  have HK0 : Hid (Blk W1 W.heap.size [.slice A s.length c] 24) := by rw [hW]; exact Lib.hid (Blk.new W _ _)
  have HB0 : Hid (Below W.heap.size W W1) := by rw [hW]; exact Lib.hid ((Below.refl W.heap.size W).alloc (Nat.le_refl _) _)
  have HW := Lib.hid hW
  have HX : Hid (∀ w, Below W1.heap.size W1 w → w.cell? ⟨W.heap.size, 0, none⟩ = some (.slice A s.length c)) := Lib.hid (fun w hw => (HK0.out.below hw HK0.out.lt).cell (i := 0) (by simp))
  have HS : Hid (∀ w, Below W1.heap.size W1 w → ScAt w noF A s) := Lib.hid (fun w hw => hs.below (HB0.out.trans (hw.mono HB0.out.size)))
  have HA := Lib.hid (awake_any W1)
  clear hW hs
  go_enter Tryz.func3, Tryz.ntmps3
  go_wp2_with fail
  rw [← HW.out]
  refine HA.out.mono ?_
  rintro e w1 ⟨rfl, hb1⟩
  have HB1 := Lib.hid hb1
  have x1 := HX.out w1 hb1
  have HF := Lib.hid (few_any s 80 w1 noF A c (HS.out w1 hb1) hl (by omega))
  obtain ⟨q, hq⟩ : ∃ q, fewS s 80 = q := ⟨_, rfl⟩
  rw [hq] at HF
  have HQ := Lib.hid hq
  clear hb1 hq HA
  cases q
  · go_wp2_with fail
    refine HF.out.mono ?_
    rintro e w2 ⟨rfl, hb2⟩
    go_wp2_with fail
    go_ret
    have hb := hop HB1.out hb2
    exact ⟨rfl, HB0.out.trans (hb.mono HB0.out.size)⟩
  have HFL := Lib.hid (few_ln (few_80 HQ.out))
  have HRF := Lib.hid (few_refs (few_80 HQ.out))
  go_wp2_with fail
  refine HF.out.mono ?_
  rintro e w2 ⟨rfl, hb2⟩
  have HB2 := Lib.hid (hop HB1.out hb2)
  have x2 := HX.out w2 HB2.out
  clear hb2 HF x1
  have HLP := Lib.hid (levels2_any s noF A c hl hcap HRF.out w2 (HS.out w2 HB2.out))
  go_wp2_with fail
  refine HLP.out.mono ?_
  rintro e w3 ⟨z, A3, n3, c3, rfl, hb3, hex, hn3, _⟩
  obtain ⟨rfl, hok⟩ := hex.doc
  have HB3 := Lib.hid (hop HB2.out hb3)
  have x3 := HX.out w3 HB3.out
  have HLD := Lib.hid (rlevels2_any s A c hl HFL.out noF w3 (HS.out w3 HB3.out))
  have HH : Hid ((docC s).2.2 = 0 → (n3 = s.length ∧ IlAt w3 (fun k => k < w2.heap.size) A3 (levS s))) := Lib.hid (fun h => (hok h).2.1)
  have HN3 := Lib.hid hn3
  clear hb3 hex hn3 hok HLP x2
  go_wp2_with fail
  refine HLD.out.mono ?_
  rintro e w4 ⟨A4, n4, c4, rfl, hb4, hcase⟩
  have HB4 := Lib.hid (hop HB3.out hb4)
  have x4 := HX.out w4 HB4.out
  have HEQ : Hid (Calls Tryz.prog 9 #[.slice A3 n3 c3, .slice A4 n4 c4] w4 fun r w' => r = .returned (.bool true) ∧ Below w4.heap.size w4 w') := Lib.hid (by
    rcases hcase with ⟨h1, h2, h3⟩ | ⟨h1, h2, h3, h4⟩
    · obtain ⟨h5, h6⟩ := HH.out h1
      have hll : (levS s).length = s.length := by
        have := congrArg List.length (levS_len s)
        simpa using this
      have hrr : ∀ x ∈ levS s, x.length ≤ 1000000 := fun x hx => by
        have h7 : x.length ∈ (levS s).map List.length := List.mem_map_of_mem hx
        rw [levS_len] at h7
        obtain ⟨t, ht, h8⟩ := List.mem_map.1 h7
        have h9 := wRs_len t.rels
        have h10 := wTs_mem ht
        have h11 := few_80 HQ.out
        omega
      have h12 := wTs_len s
      have h13 := few_80 HQ.out
      have h := levelsEq_any (levS s) (levS s) _ _ A3 A4 c3 c4 w4 (h6.below hb4) h3 (by omega) hrr hrr
      rw [hll] at h
      rw [h5, h2]
      simpa using h
    · have h5 := HN3.out h1
      have h := levelsEq_any [] [] (fun _ => False) (fun _ => False) A3 A4 c3 c4 w4 (.inl rfl) (.inl rfl) (by simp) (fun x hx => by cases hx) (fun x hx => by cases hx)
      rw [h5, h3]
      simpa using h)
  clear hb4 hcase HH HN3 HLD x3
  go_wp2_with fail
  refine HEQ.out.mono ?_
  rintro e w5 ⟨rfl, hb5⟩
  have HB5 := Lib.hid (hop HB4.out hb5)
  have x5 := HX.out w5 HB5.out
  have HCP : Hid (∀ w, Below W1.heap.size W1 w → Calls Tryz.prog 10 #[.agg #[.slice A s.length c]] w fun r w' => r = .returned (faV (docC s)) ∧ Below w.heap.size w w') := Lib.hid (fun w hw => (check_any s noF A c hl hcap HRF.out w (HS.out w hw)).mono (fun r w' h => by
    obtain ⟨z, rfl, hb, hx⟩ := h
    exact ⟨by rw [hx.doc.1], hb⟩))
  have HCD : Hid (∀ w, Below W1.heap.size W1 w → Calls Tryz.prog 11 #[.agg #[.slice A s.length c]] w fun r w' => r = .returned (faV (docC s)) ∧ Below w.heap.size w w') := Lib.hid (fun w hw => rcheck_any s A c hl HFL.out noF w (HS.out w hw))
  clear hb5 HEQ x4
  generalize docC s = z at *
  obtain ⟨z1, z2, z3⟩ := z
  have hN : ∀ w, Below W1.heap.size W1 w → (Below W1.heap.size W1 w ∧ w.cell? ⟨W.heap.size, 0, none⟩ = some (.slice A s.length c)) := fun w hw => ⟨hw, HX.out w hw⟩
  have hS0 := hN w5.drew HB5.out.drew
  have HN := Lib.hid hN
  clear hN x5
  go_wp2_with fail
  generalize hqq : decide ((z1, z2, z3).2.2 = 0) = q
  clear hqq
  cases q
  all_goals focus
    go_region_held_law (fun w => (Below W1.heap.size W1 w ∧ w.cell? ⟨W.heap.size, 0, none⟩ = some (.slice A s.length c)))
      (with_reducible assumption)
      (first
        | (go_at_call 10; (with_reducible refine (HCP.out _ HB5.out.drew).mono ?_); rintro r w6 ⟨rfl, hb6⟩; have HB6 := Lib.hid (hop HB5.out.drew hb6); have hS6 := HN.out w6 HB6.out; clear hb6)
        | (go_at_call 11; (with_reducible refine (HCD.out _ HB6.out).mono ?_); rintro r w7 ⟨rfl, hb7⟩; have HB7 := Lib.hid (hop HB6.out hb7); have hS7 := HN.out w7 HB7.out; clear hb7))
    go_wp2_with fail
    go_ret
    exact ⟨rfl, HB0.out.trans (HB7.out.mono HB0.out.size)⟩
end Go.Proofs.YtdnhbledndgbcaaGreat
