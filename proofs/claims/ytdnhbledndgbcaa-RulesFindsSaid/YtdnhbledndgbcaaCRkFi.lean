/-
  RulesFinds, walked. Conditions: the arguments are there; no text of the schema is longer than 2^47 bytes.
-/
import Derived.Test.YtdnhbledndgbcaaCPaSz0
import Derived.Test.YtdnhbledndgbcaaCClose
import Derived.Test.YtdnhbledndgbcaaCRuF
import Derived.Test.YtdnhbledndgbcaaCLaX
import Derived.Test.YtdnhbledndgbcaaCLaOpW
namespace Go.Proofs.Ytdnhbledndgbcaa
open Go.RowKit
theorem cpE_of : ∀ e : Ex, nodes e ≤ 1000000 → (∀ u ∈ txE e, u.length ≤ 140737488351232) → cpE e := by
  intro e
  refine Ex.all (P := fun e => nodes e ≤ 1000000 → (∀ u ∈ txE e, u.length ≤ 140737488351232) → cpE e) (fun k n o ks ih hn hu => ?_) e
  unfold nodes at hn
  have hL : ∀ l : List Ex, (∀ x ∈ l, x ∈ ks) → nodesL l ≤ 1000000 → (∀ u ∈ txL l, u.length ≤ 140737488351232) → cpL l := by
    intro l
    induction l with
    | nil => intro _ _ _; unfold cpL; trivial
    | cons x r ihr =>
      intro hs hl ht
      unfold nodesL at hl
      unfold txL at ht
      unfold cpL
      exact ⟨ih x (hs x (List.mem_cons_self ..)) (by omega) (fun u hu => ht u (List.mem_append.2 (.inl hu))), ihr (fun y hy => hs y (List.mem_cons_of_mem _ hy)) (by omega) (fun u hu => ht u (List.mem_append.2 (.inr hu)))⟩
  unfold txE at hu
  have h1 := hu n (List.mem_cons_self ..)
  have h2 := hu o (List.mem_cons_of_mem _ (List.mem_cons_self ..))
  have h3 := kids_nodes ks
  unfold cpE
  exact ⟨by omega, by omega, by omega, hL ks (fun _ h => h) (by omega) (fun u hu2 => hu u (List.mem_cons_of_mem _ (List.mem_cons_of_mem _ hu2)))⟩
theorem cpR_of {s : Sc} (h : wTs s ≤ 700) (hu : ∀ u ∈ txS s, u.length ≤ 140737488351232) {t : Ty} (ht : t ∈ s) {r : Rl} (hr : r ∈ t.rels) : cpR r := by
  have h1 := refs_few ht hr
  have h2 : ∀ u ∈ txR r, u.length ≤ 140737488351232 := fun u hr2 => hu u (List.mem_flatMap.2 ⟨t, ht, by unfold txT; exact List.mem_cons_of_mem _ (List.mem_flatMap.2 ⟨r, hr, hr2⟩)⟩)
  unfold txR at h2
  refine ⟨⟨by have := h2 r.name (List.mem_cons_self ..); omega, by omega⟩, fun f hf => ?_, cpE_of r.expr (by omega) (fun u hu2 => h2 u (List.mem_cons_of_mem _ (List.mem_append.2 (.inr hu2))))⟩
  have h3 : ∀ u ∈ txF f, u.length ≤ 140737488351232 := fun u hu2 => h2 u (List.mem_cons_of_mem _ (List.mem_append.2 (.inl (List.mem_flatMap.2 ⟨f, hf, hu2⟩))))
  have h4 := h3 f.1 (List.mem_cons_self ..)
  have h5 := h3 f.2 (List.mem_cons_of_mem _ (List.mem_cons_self ..))
  omega
theorem cp_found {s : Sc} (h : wTs s ≤ 700) (hu : ∀ u ∈ txS s, u.length ≤ 140737488351232) (t n : Txt) (hf : (findR s t n).2 = true) : cpR (findR s t n).1 := by
  unfold findR at hf ⊢
  dsimp only at hf ⊢
  by_cases hk : relN s (typN s t) n < 0
  · rw [if_pos hk] at hf; cases hf
  · rw [if_neg hk]
    dsimp only
    have hk : 0 ≤ relN s (typN s t) n := by omega
    rcases typN_is s t with h1 | ⟨i, hi, h1⟩
    · rw [h1] at hk; unfold relN at hk; rw [ofT_neg (by decide)] at hk; exact absurd hk (show ¬ (0 : Int) ≤ -1 by decide)
    · rw [h1] at hk ⊢
      unfold relN at hk ⊢
      rw [ofT_at hi] at hk ⊢
      rcases relsN_is s[i].rels n with h2 | ⟨k, hk2, h2⟩
      · omega
      · rw [h2, relAt_at hi hk2]
        exact cpR_of h hu (List.getElem_mem hi) (List.getElem_mem hk2)
theorem eqE_refl : ∀ e : Ex, eqE e e = true := by
  intro e
  refine Ex.all (P := fun e => eqE e e = true) (fun k n o ks ih => ?_) e
  have hL : ∀ l : List Ex, (∀ x ∈ l, x ∈ ks) → eqL l l = true := by
    intro l
    induction l with
    | nil => intro _; unfold eqL; rfl
    | cons x r ihr =>
      intro hs
      unfold eqL
      rw [ih x (hs x (List.mem_cons_self ..)), ihr (fun y hy => hs y (List.mem_cons_of_mem _ hy))]
      rfl
  unfold eqE
  rw [if_pos ⟨rfl, rfl⟩]
  split
  · simp
  · exact hL ks (fun _ h => h)
set_option maxRecDepth 100000 in
set_option maxHeartbeats 4000000 in
theorem rulesFinds_walk (s : Sc) (A : Option Addr) (c : Nat) (t n : ByteArray) (W : World) (hs : ScAt W noF A s) (hl : s.length ≤ 9223372036854775807 ∧ s.length ≤ c) (hu : ∀ u ∈ txS s, u.length ≤ 140737488351232) (_ : t.size ≤ 140737488351232) (_ : n.size ≤ 140737488351232) :
    Calls Try.prog 4 #[.agg #[.slice A s.length c], .string t, .string n] W fun e w' => e = .returned (.bool true) ∧ Below W.heap.size W w' := by
  obtain ⟨hl, hcap⟩ := hl
  obtain ⟨W1, hW⟩ : ∃ W1, W1 = W.alloc (.cells #[.slice A s.length c] 25) := ⟨_, rfl⟩
  have HK0 : Hid (Blk W1 W.heap.size [.slice A s.length c] 25) := by rw [hW]; exact Lib.hid (Blk.new W _ _)
  have HB0 : Hid (Below W.heap.size W W1) := by rw [hW]; exact Lib.hid ((Below.refl W.heap.size W).alloc (Nat.le_refl _) _)
  have HW := Lib.hid hW
  have HX : Hid (∀ w, Below W1.heap.size W1 w → w.cell? ⟨W.heap.size, 0, none⟩ = some (.slice A s.length c)) := Lib.hid (fun w hw => (HK0.out.below hw HK0.out.lt).cell (i := 0) (by simp))
  have HS : Hid (∀ w, Below W1.heap.size W1 w → ScAt w noF A s) := Lib.hid (fun w hw => hs.below (HB0.out.trans (hw.mono HB0.out.size)))
  have HA := Lib.hid (awake_any W1)
  clear hW hs
  go_enter Try.func4, Try.ntmps4
  go_wp2_with fail
  rw [← HW.out]
  refine HA.out.mono ?_
  rintro e w1 ⟨rfl, hb1⟩
  have HB1 := Lib.hid hb1
  have x1 := HX.out w1 hb1
  have HF := Lib.hid (few_any s 80 w1 noF A c (HS.out w1 hb1) hl (by omega))
  obtain ⟨q, hq⟩ : ∃ q, fewS s 80 = q := ⟨_, rfl⟩
  rw [hq] at HF
  have HQ := Lib.hid hq
  clear hb1 hq HA
  cases q
  · go_wp2_with fail
    refine HF.out.mono ?_
    rintro e w2 ⟨rfl, hb2⟩
    go_wp2_with fail
    go_ret
    have hb := hop HB1.out hb2
    exact ⟨rfl, HB0.out.trans (hb.mono HB0.out.size)⟩
  have HFL := Lib.hid (few_ln (few_80 HQ.out))
  have HRF := Lib.hid (few_refs (few_80 HQ.out))
  go_wp2_with fail
  refine HF.out.mono ?_
  rintro e w2 ⟨rfl, hb2⟩
  have HB2 := Lib.hid (hop HB1.out hb2)
  have x2 := HX.out w2 HB2.out
  clear hb2 HF x1
  obtain ⟨T, hT⟩ : ∃ T : Txt, T = t.data.toList := ⟨_, rfl⟩
  obtain ⟨N, hN⟩ : ∃ N : Txt, N = n.data.toList := ⟨_, rfl⟩
  have HFP : Hid (Calls Try.prog 12 #[.agg #[.slice A s.length c], .string t, .string n] w2 (FoundP w2 (findR s T N))) := Lib.hid (by
    have h := find_any s T N w2 noF A c (HS.out w2 HB2.out) hl (cp_found (few_80 HQ.out) hu T N)
    rw [hT, hN] at h
    rw [hT, hN]
    exact h)
  have HFD : Hid (∀ w, Below W1.heap.size W1 w → Calls Try.prog 13 #[.agg #[.slice A s.length c], .string t, .string n] w (FoundAs w noF (findR s T N))) := Lib.hid (fun w hw => by
    have h := rfind_any s T N w noF A c (HS.out w hw) hl
    rw [hT, hN] at h
    rw [hT, hN]
    exact h)
  generalize findR s T N = R at *
  obtain ⟨x, q⟩ := R
  clear hu hT hN
  go_wp2_with fail
  refine HFP.out.mono ?_
  rintro e w3 ⟨cs3, rfl, hx3, hb3⟩
  obtain ⟨B3, m3, k3, n3, o3, E3, me3, ce3, rfl, _, _, he3⟩ := hx3.six
  have HB3 := Lib.hid (hop HB2.out hb3)
  obtain ⟨u3, hu3⟩ : ∃ u3, u3 = w3.alloc (.cells #[strV x.name, .slice B3 x.refs.length m3, .int .i64 k3, strV n3, strV o3, .slice E3 me3 ce3] 38) := ⟨_, rfl⟩
  have hbu3 : Below w3.heap.size w3 u3 := by rw [hu3]; exact (Below.refl _ _).alloc (Nat.le_refl _) _
  have HK3 : Hid (Blk u3 w3.heap.size [strV x.name, .slice B3 x.refs.length m3, .int .i64 k3, strV n3, strV o3, .slice E3 me3 ce3] 38) := by rw [hu3]; exact Lib.hid (Blk.new _ _ _)
  have HE3 := Lib.hid (ExAt.below hbu3 he3)
  have HBU3 := Lib.hid (hop HB3.out hbu3)
  have x3 := HX.out u3 HBU3.out
  have HU3 := Lib.hid hu3
  rw [hu3] at x3
  clear hx3 hb3 he3 hbu3 hu3 x2
  go_wp2_with fail
  rw [← HU3.out]
  refine (HFD.out u3 HBU3.out).mono ?_
  rintro e w4 ⟨cs4, rfl, hx4, hb4⟩
  obtain ⟨B4, m4, k4, n4, o4, E4, me4, ce4, rfl, _, _, he4⟩ := hx4.six
  obtain ⟨u4, hu4⟩ : ∃ u4, u4 = w4.alloc (.cells #[strV x.name, .slice B4 x.refs.length m4, .int .i64 k4, strV n4, strV o4, .slice E4 me4 ce4] 38) := ⟨_, rfl⟩
  have hbu4 : Below w4.heap.size w4 u4 := by rw [hu4]; exact (Below.refl _ _).alloc (Nat.le_refl _) _
  have HK4 : Hid (Blk u4 w4.heap.size [strV x.name, .slice B4 x.refs.length m4, .int .i64 k4, strV n4, strV o4, .slice E4 me4 ce4] 38) := by rw [hu4]; exact Lib.hid (Blk.new _ _ _)
  have HBU4 := Lib.hid (hop HBU3.out (hop hb4 hbu4))
  have HEX := Lib.hid (exprs_any x.expr x.expr u4 _ _ _ _ (ExAt.below (hop hb4 hbu4) HE3.out) (ExAt.below hbu4 he4))
  rw [eqE_refl] at HEX
  have HEX : Hid (Calls Try.prog 14 #[.agg #[.int .i64 k3, strV n3, strV o3, .slice E3 me3 ce3], .agg #[.int .i64 k4, strV n4, strV o4, .slice E4 me4 ce4]] u4 fun r w' => r = .returned (.bool true) ∧ Below u4.heap.size u4 w') := HEX
  have HK34 := Lib.hid (HK3.out.below (hop hb4 hbu4) HK3.out.lt)
  have a2 := HK34.out.cell (i := 2) (by simp)
  have a3 := HK34.out.cell (i := 3) (by simp)
  have a4 := HK34.out.cell (i := 4) (by simp)
  have a5 := HK34.out.cell (i := 5) (by simp)
  have b2 := HK4.out.cell (i := 2) (by simp)
  have b3 := HK4.out.cell (i := 3) (by simp)
  have b4 := HK4.out.cell (i := 4) (by simp)
  have b5 := HK4.out.cell (i := 5) (by simp)
  simp only [List.getElem_cons_succ, List.getElem_cons_zero] at a2 a3 a4 a5 b2 b3 b4 b5
  have HU4 := Lib.hid hu4
  rw [hu4] at a2 a3 a4 a5 b2 b3 b4 b5
  clear hx4 hb4 he4 hbu4 hu4 x3
  go_wp2_with fail
  rw [← HU4.out]
  refine HEX.out.mono ?_
  rintro e w5 ⟨rfl, hb5⟩
  have hk35 := HK34.out.below hb5 HK34.out.lt
  have hk45 := HK4.out.below hb5 HK4.out.lt
  have a0 := hk35.cell (i := 0) (by simp)
  have a1 := hk35.cell (i := 1) (by simp)
  have b0 := hk45.cell (i := 0) (by simp)
  have b1 := hk45.cell (i := 1) (by simp)
  simp only [List.getElem_cons_succ, List.getElem_cons_zero] at a0 a1 b0 b1
  have HB5 := Lib.hid (hop HBU4.out hb5)
  clear a2 a3 a4 a5 b2 b3 b4 b5 hk35 hk45 hb5
  generalize x.refs.length = rl at *
  generalize x.name = nm at *
  cases q
  all_goals focus
    by_cases hrl : 0 < rl
    · have h1 : (0 : Int) < (rl : Int) := by omega
      have h2 : decide ((0 : Int) < (rl : Int)) = true := decide_eq_true h1
      go_wp2_with fail
      go_ret
      exact ⟨rfl, HB0.out.trans (HB5.out.mono HB0.out.size)⟩
    · obtain rfl : rl = 0 := by omega
      go_wp2_with fail
      go_ret
      exact ⟨rfl, HB0.out.trans (HB5.out.mono HB0.out.size)⟩
end Go.Proofs.Ytdnhbledndgbcaa
