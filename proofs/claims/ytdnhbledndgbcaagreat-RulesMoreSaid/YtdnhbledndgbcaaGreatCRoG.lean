/-
  The leaves of an expression, passed on one by one to a closure, by the closure's contract. Conditions: the expression is there, and stays so whatever the closure does.
  What depends on what, as the program's maps hold it: for each node those that depend on it, and how far each stands above it. One more is put. Condition: the maps are there.
  What a relation depends on, passed on one by one to a closure, by the closure's contract. Conditions: the index is there, and stays so whatever the closure does.
-/
import Derived.Test.YtdnhbledndgbcaaGreatCRoL
import Derived.Lib.MinMax
namespace Go.Proofs.YtdnhbledndgbcaaGreat
open Go.RowKit
structure Nomap (w w' : World) (F : Nat → Prop) : Prop where
  os : w'.os = w.os
  tape : w'.tape = w.tape
  output : w'.output = w.output
  size : w.heap.size ≤ w'.heap.size
  block : ∀ k, k < w.heap.size → ¬ F k → (∀ es c, w.heap[k]? ≠ some (.map es c)) → w'.heap[k]? = w.heap[k]?
theorem Nomap.refl (w : World) (F : Nat → Prop) : Nomap w w F := ⟨rfl, rfl, rfl, Nat.le_refl _, fun _ _ _ _ => rfl⟩
theorem Nomap.trans {w w' w'' : World} {F : Nat → Prop} (h : Nomap w w' F) (k : Nomap w' w'' F) : Nomap w w'' F :=
  ⟨k.os.trans h.os, k.tape.trans h.tape, k.output.trans h.output, Nat.le_trans h.size k.size, fun i hi hF hn => by
    have h1 := h.block i hi hF hn
    exact (k.block i (Nat.lt_of_lt_of_le hi h.size) hF (fun es c => by rw [h1]; exact hn es c)).trans h1⟩
theorem Nomap.of_spared {w w' : World} {F : Nat → Prop} (h : Spared w w' F) : Nomap w w' F := ⟨h.os, h.tape, h.output, h.size, fun i hi hF _ => h.block i hi hF⟩
theorem Nomap.of_below {w w' : World} (h : Below w.heap.size w w') (F : Nat → Prop) : Nomap w w' F := Nomap.of_spared (Spared.of_below h F)
theorem Nomap.drew {w w' : World} {F : Nat → Prop} (h : Nomap w w' F) : Nomap w w'.drew F := ⟨h.os, h.tape, h.output, h.size, h.block⟩
theorem Nomap.blk {w w' : World} {F : Nat → Prop} {g : Nat} {L : List Value} {t : TypeId} (h : Nomap w w' F) (hb : Blk w g L t) (hg : ¬ F g) : Blk w' g L t :=
  (h.block g hb.lt hg (fun es c e => by unfold Blk at hb; rw [hb] at e; cases e)).trans hb
theorem Nomap.mono {w w' : World} {F G : Nat → Prop} (h : Nomap w w' F) (hG : ∀ k, F k → G k) : Nomap w w' G := ⟨h.os, h.tape, h.output, h.size, fun i hi hg hn => h.block i hi (fun hf => hg (hG i hf)) hn⟩
theorem RowAt.kidS {W : World} {F : Nat → Prop} {A : Option Addr} {ks : List Ex} (h : RowAt 4 ExAt W F A ks) {j : Nat} (hj : j < ks.length) :
    ∃ b off k n o A' m c, A = some ⟨b, off, none⟩ ∧ ExAt W F ks[j] [.int .i64 k, strV n, strV o, .slice A' m c] ∧ ∀ W', Spared W W' F → ExFour W' b (off + j * 4) k n o A' m c := by
  rcases h with rfl | ⟨b, off, rfl, hb, hF, hk⟩
  · simp at hj
  · obtain ⟨cs, h1, h2⟩ := hk j hj
    obtain ⟨k, n, o, A', m, c, rfl⟩ := h1.shape
    refine ⟨b, off, k, n, o, A', m, c, rfl, h1, fun W' hW => ?_⟩
    have hc : ∀ i, i < 4 → W'.cell? ⟨b, off + j * 4 + i, none⟩ = [.int .i64 k, strV n, strV o, .slice A' m c][i]? := fun i hi => (hW.cellOf hb hF _).trans (h2 i hi)
    exact ⟨hc 0 (by decide), hc 1 (by decide), hc 2 (by decide), hc 3 (by decide)⟩
mutual
def lvsE : Ex → Nat → List (Ex × Nat)
  | .mk k n o ks, st => if ks.length = 0 then [(.mk k n o ks, st)] else lvsL k ks 0 st
def lvsL (k : Int) : List Ex → Nat → Nat → List (Ex × Nat)
  | [], _, _ => []
  | x :: r, i, st => lvsE x (if k = 4 ∧ i = 1 then 1 else st) ++ lvsL k r (i + 1) st
end
theorem lvsL_drop {k : Int} {ks : List Ex} {j st : Nat} (h : j < ks.length) : lvsL k (ks.drop j) j st = lvsE ks[j] (if k = 4 ∧ j = 1 then 1 else st) ++ lvsL k (ks.drop (j + 1)) (j + 1) st := by
  rw [List.drop_eq_getElem_cons h, lvsL]
set_option maxRecDepth 100000 in
set_option maxHeartbeats 2000000 in
theorem leaves_any {g : Nat} (eg : ∀ args w, (callFunc g args).run Tryz.prog w = .ok (.enter g args) w) {p1 p2 p3 : Value} (W0 : World) (F : Nat → Prop) (I : List (Ex × Nat) → World → Prop) (hF : ∀ k, F k → k < W0.heap.size)
    (hS : ∀ l w, I l w → Spared W0 w F) (hI : ∀ l w w', I l w → Below w.heap.size w w' → I l w')
    (hp : ∀ l w x (st : Nat) cs, I l w → ExAt w F x cs → st ≤ 1 → Calls Tryz.prog g #[.agg cs.toArray, .int .i64 (st : Int), p1, p2, p3] w fun r w' => r = .returned (.tuple #[]) ∧ I (l ++ [(x, st)]) w' ∧ Nomap w w' F) :
    ∀ e (st : Nat) l W cs, st ≤ 1 → ExAt W0 F e cs → I l W → Calls Tryz.prog 77 #[.agg cs.toArray, .int .i64 (st : Int), .func (.func g) #[] #[p1, p2, p3]] W fun r w' => r = .returned (.tuple #[]) ∧ I (l ++ lvsE e st) w' ∧ Nomap W w' F := by
  intro e
  refine Ex.all (P := fun e => ∀ (st : Nat) l W cs, st ≤ 1 → ExAt W0 F e cs → I l W → Calls Tryz.prog 77 #[.agg cs.toArray, .int .i64 (st : Int), .func (.func g) #[] #[p1, p2, p3]] W fun r w' => r = .returned (.tuple #[]) ∧ I (l ++ lvsE e st) w' ∧ Nomap W w' F) (fun k n o ks ih st l W cs hst hE hl => ?_) e
  have hE0 := hE
  obtain ⟨E, m, rfl, ⟨⟨k1, k2⟩, -, -, hkl⟩, hr⟩ := hE.row
  show Calls _ _ #[.agg #[.int .i64 k, strV n, strV o, .slice E ks.length m], _, _] _ _
  obtain ⟨V, hV⟩ : ∃ V, V = l ++ lvsE (.mk k n o ks) st := ⟨_, rfl⟩
  rw [← hV]
  unfold lvsE at hV
  obtain ⟨W1, hW1⟩ : ∃ W1, W1 = W.alloc (.cells #[.int .i64 k, strV n, strV o, .slice E ks.length m] 44) := ⟨_, rfl⟩
  have hb1 : Below W.heap.size W W1 := by rw [hW1]; exact (Below.refl _ _).alloc (Nat.le_refl _) _
  have hk1 : Blk W1 W.heap.size [.int .i64 k, strV n, strV o, .slice E ks.length m] 44 := by rw [hW1]; exact Blk.new _ _ _
  have hnF : ¬ F W.heap.size := fun h => by have := hF _ h; have := (hS l W hl).size; omega
  have HX : Hid (∀ w, Nomap W1 w F → w.cell? ⟨W.heap.size, 0, none⟩ = some (.int .i64 k) ∧ w.cell? ⟨W.heap.size, 1, none⟩ = some (strV n) ∧ w.cell? ⟨W.heap.size, 2, none⟩ = some (strV o) ∧ w.cell? ⟨W.heap.size, 3, none⟩ = some (.slice E ks.length m)) := Lib.hid (fun w hw => by
    have h1 := hw.blk hk1 hnF
    exact ⟨h1.cell (i := 0) (by simp), h1.cell (i := 1) (by simp), h1.cell (i := 2) (by simp), h1.cell (i := 3) (by simp)⟩)
  have HI1 : Hid (I l W1) := Lib.hid (hI l W W1 hl hb1)
  have HN1 := Lib.hid (Nomap.of_below hb1 F)
  have HW1 := Lib.hid hW1
  have HP := Lib.hid hp
  have HIH := Lib.hid ih
  have HII := Lib.hid hI
  have HSS := Lib.hid hS
  have HR := Lib.hid hr
  clear hE hr ih hI hS hb1 hk1 hnF hW1 hl hp
  by_cases h0 : ks.length = 0
  · rw [if_pos h0] at hV
    have hks : ks = [] := List.eq_nil_of_length_eq_zero h0
    subst hks
    have HC : Hid (Calls Tryz.prog g #[.agg #[.int .i64 k, strV n, strV o, .slice E 0 m], .int .i64 (st : Int), p1, p2, p3] W1 fun r w' => r = .returned (.tuple #[]) ∧ I (l ++ [(.mk k n o [], st)]) w' ∧ Nomap W1 w' F) := Lib.hid (HP.out l W1 (.mk k n o []) st _ HI1.out (hE0.moved (HSS.out _ _ HI1.out) (fun _ h => .inl h)) hst)
    have HV := Lib.hid hV
    obtain ⟨x0, x1, x2, x3⟩ := HX.out W1 (Nomap.refl _ _)
    simp only [List.length_nil] at *
    clear hE0 hV
    go_enter Tryz.func77, Tryz.ntmps77
    clear x1 x2 h0
    go_wp2_with (go_at_fn g; rw [← HW1.out]; refine HC.out.mono ?_; rintro r w5 ⟨rfl, hi5, hn5⟩; have HI5 := Lib.hid hi5; have HN5 := Lib.hid hn5; obtain ⟨y0, _, _, y3⟩ := HX.out w5 hn5; clear hi5 hn5)
    go_loopw [20] (fun i wr => i = .int .i64 0 ∧ Hid (I V wr) ∧ Hid (Nomap W wr F)) (fun _ _ => 0)
    case atStart => exact ⟨rfl, by rw [HV.out]; exact HI5, Lib.hid (HN1.out.trans HN5.out)⟩
    case round =>
      obtain ⟨rfl, HA, HB⟩ := hrel
      go_wp2_with fail
      go_end0
      exact ⟨rfl, HA.out, HB.out⟩
  · rw [if_neg h0] at hV
    have HV : Hid (V = l ++ lvsL k (ks.drop 0) 0 st) := Lib.hid (by rw [hV, List.drop_zero])
    have hd0 : ((ks.length : Int) == 0) = false := beq_eq_false_iff_ne.2 (by omega)
    obtain ⟨x0, x1, x2, x3⟩ := HX.out W1 (Nomap.refl _ _)
    rw [HW1.out] at x0 x1 x2 x3
    clear hE0 hV x0 x1 x2
    go_enter Tryz.func77, Tryz.ntmps77
    go_wp2_with fail
    rw [← HW1.out]
    clear x3
    go_loopw [20] (fun i wr => ∃ (j : Nat) (l2 : List (Ex × Nat)), j ≤ ks.length ∧ i = .int .i64 j ∧ Hid (V = l2 ++ lvsL k (ks.drop j) j st) ∧ Hid (I l2 wr) ∧ Hid (Nomap W1 wr F)) (fun i _ => ks.length - (intOf i).toNat)
    case atStart => exact ⟨0, l, by omega, rfl, HV, HI1, Lib.hid (Nomap.refl _ _)⟩
    case round =>
      obtain ⟨j, l2, hj, rfl, H, HI2, HN2⟩ := hrel
      obtain ⟨x0, _, _, x3⟩ := HX.out wr HN2.out
      by_cases hlt : j < ks.length
      · obtain ⟨b, off, k3, n3, o3, A3, m3, c3, rfl, hE3, hc3⟩ := HR.out.kidS hlt
        have h := hc3 wr (HSS.out _ _ HI2.out)
        unfold ExFour at h
        obtain ⟨e0, e1, e2, e3⟩ := h
        have HD := Lib.hid (lvsL_drop (k := k) (st := st) hlt)
        obtain ⟨w7, hw7⟩ : ∃ w7, w7 = wr.alloc (.cells #[.int .i64 k3, strV n3, strV o3, .slice A3 m3 c3] 44) := ⟨_, rfl⟩
        have hb7 : Below wr.heap.size wr w7 := by rw [hw7]; exact (Below.refl _ _).alloc (Nat.le_refl _) _
        have hk7 : Blk w7 wr.heap.size [.int .i64 k3, strV n3, strV o3, .slice A3 m3 c3] 44 := by rw [hw7]; exact Blk.new _ _ _
        have HI7 := Lib.hid (HII.out _ _ _ HI2.out hb7)
        have HN7 := Lib.hid (HN2.out.trans (Nomap.of_below hb7 F))
        obtain ⟨x0', _, _, _⟩ := HX.out w7 HN7.out
        have u0 := hk7.cell (i := 0) (by simp)
        have u1 := hk7.cell (i := 1) (by simp)
        have u2 := hk7.cell (i := 2) (by simp)
        have u3 := hk7.cell (i := 3) (by simp)
        simp only [List.getElem_cons_succ, List.getElem_cons_zero] at u0 u1 u2 u3
        rw [hw7] at x0' u0 u1 u2 u3
        have HCC : Hid (∀ st' : Nat, st' ≤ 1 → Calls Tryz.prog 77 #[.agg #[.int .i64 k3, strV n3, strV o3, .slice A3 m3 c3], .int .i64 (st' : Int), .func (.func g) #[] #[p1, p2, p3]] w7 fun r w' => r = .returned (.tuple #[]) ∧ I (l2 ++ lvsE ks[j] st') w' ∧ Nomap w7 w' F) := Lib.hid (fun st' hst' => HIH.out ks[j] (List.getElem_mem hlt) st' l2 w7 _ hst' hE3 HI7.out)
        have HW7 := Lib.hid hw7
        clear hb7 hk7 hw7 hc3 hE3 HI7
        generalize ks[j] = kid at *
        by_cases hc : k = 4 ∧ j = 1
        · have HN : Hid (V = (l2 ++ lvsE kid 1) ++ lvsL k (ks.drop (j + 1)) (j + 1) st) := Lib.hid (by rw [H.out, HD.out, if_pos hc, List.append_assoc])
          have HC : Hid (Calls Tryz.prog 77 #[.agg #[.int .i64 k3, strV n3, strV o3, .slice A3 m3 c3], .int .i64 1, .func (.func g) #[] #[p1, p2, p3]] w7 fun r w' => r = .returned (.tuple #[]) ∧ I (l2 ++ lvsE kid 1) w' ∧ Nomap w7 w' F) := Lib.hid (HCC.out 1 (Nat.le_refl _))
          have d1 : (k == 4) = true := beq_iff_eq.2 hc.1
          have d2 : ((j : Int) == 1) = true := beq_iff_eq.2 (by omega)
          have d3 : k = 4 := hc.1
          have d4 : (j : Int) = 1 := by omega
          have hjs : j + 1 ≤ ks.length := by omega
          clear hc HCC d3 d4
          go_wp2_with (go_at_call 77; rw [← HW7.out]; refine HC.out.mono ?_; rintro r w8 ⟨rfl, hi8, hn8⟩; have HI8 := Lib.hid hi8; have HN8 := Lib.hid (HN7.out.trans hn8); clear hi8 hn8)
          go_roundw
          case rel => exact ⟨j + 1, _, hjs, by go_num, HN, HI8, HN8⟩
          case measure => simp [intOf]; omega
        · have HN : Hid (V = (l2 ++ lvsE kid st) ++ lvsL k (ks.drop (j + 1)) (j + 1) st) := Lib.hid (by rw [H.out, HD.out, if_neg hc, List.append_assoc])
          have HC := Lib.hid (HCC.out st hst)
          have hjs : j + 1 ≤ ks.length := by omega
          clear HCC
          by_cases hk4 : k = 4
          · have d1 : (k == 4) = true := beq_iff_eq.2 hk4
            have d2 : ((j : Int) == 1) = false := beq_eq_false_iff_ne.2 (by intro h; exact hc ⟨hk4, by omega⟩)
            clear hc hk4
            go_wp2_with (go_at_call 77; rw [← HW7.out]; refine HC.out.mono ?_; rintro r w8 ⟨rfl, hi8, hn8⟩; have HI8 := Lib.hid hi8; have HN8 := Lib.hid (HN7.out.trans hn8); clear hi8 hn8)
            go_roundw
            case rel => exact ⟨j + 1, _, hjs, by go_num, HN, HI8, HN8⟩
            case measure => simp [intOf]; omega
          · have d1 : (k == 4) = false := beq_eq_false_iff_ne.2 hk4
            clear hc hk4
            go_wp2_with (go_at_call 77; rw [← HW7.out]; refine HC.out.mono ?_; rintro r w8 ⟨rfl, hi8, hn8⟩; have HI8 := Lib.hid hi8; have HN8 := Lib.hid (HN7.out.trans hn8); clear hi8 hn8)
            go_roundw
            case rel => exact ⟨j + 1, _, hjs, by go_num, HN, HI8, HN8⟩
            case measure => simp [intOf]; omega
      · have HN : Hid (V = l2) := Lib.hid (by rw [H.out, List.drop_of_length_le (by omega), lvsL, List.append_nil])
        go_wp2_with fail
        go_end0
        rw [HN.out]
        exact ⟨rfl, HI2.out, HN1.out.trans HN2.out⟩
end Go.Proofs.YtdnhbledndgbcaaGreat
namespace Go.Proofs.YtdnhbledndgbcaaGreat
open Go.RowKit
def mapV (p : Nk × Nat) : Nk × Value := (p.1, .map (some p.2))
def intV (p : Nk × Nat) : Nk × Value := (p.1, .int .i64 (p.2 : Int))
structure DepAt (w : World) (ba : Nat) (LA : List (Nk × Nat)) (In : Nk → List (Nk × Nat)) : Prop where
  map : MapAt w ba (LA.map mapV)
  inner : ∀ p ∈ LA, MapAt w p.2 ((In p.1).map intV) ∧ p.2 ≠ ba
  inj : ∀ p ∈ LA, ∀ q ∈ LA, p.2 = q.2 → p.1 = q.1
  no : ∀ y, y ∉ LA.map (·.1) → In y = []
def depB (ba : Nat) (LA : List (Nk × Nat)) (k : Nat) : Prop := k = ba ∨ k ∈ LA.map (·.2)
theorem DepAt.spared {w w' : World} {ba : Nat} {LA : List (Nk × Nat)} {In : Nk → List (Nk × Nat)} (h : DepAt w ba LA In) {F : Nat → Prop} (hs : Spared w w' F) (hF : ∀ k, depB ba LA k → ¬ F k) : DepAt w' ba LA In :=
  ⟨h.map.spared hs (hF _ (.inl rfl)), fun p hp => ⟨(h.inner p hp).1.spared hs (hF _ (.inr (List.mem_map_of_mem hp))), (h.inner p hp).2⟩, h.inj, h.no⟩
theorem DepAt.below {w w' : World} {ba : Nat} {LA : List (Nk × Nat)} {In : Nk → List (Nk × Nat)} (h : DepAt w ba LA In) (hb : Below w.heap.size w w') : DepAt w' ba LA In :=
  h.spared (Spared.of_below hb (fun _ => False)) (fun _ _ h => h)
theorem zero_inner (w : World) : (zeroValue 102).run Tryz.prog w = .ok (.map none) w := by kernel_rfl
theorem zero_int (w : World) : (zeroValue 3).run Tryz.prog w = .ok (.int .i64 0) w := by kernel_rfl
def dput (In : Nk → List (Nk × Nat)) (on dfrom : Nk) (st : Nat) : Nk → List (Nk × Nat) := fun y => if y = on then putK (In on) dfrom (max ((lookK (In on) dfrom).getD 0) st) else In y
theorem DepAt.put_old {w w' : World} {ba : Nat} {LA : List (Nk × Nat)} {In : Nk → List (Nk × Nat)} (h : DepAt w ba LA In) {on : Nk} {nb : Nat} (hon : (on, nb) ∈ LA) {dfrom : Nk} {n : Nat}
    (hm : MapAt w' nb (((putK (In on) dfrom n)).map intV)) (hg : w.grownBy w' (some nb)) : DepAt w' ba LA (fun y => if y = on then putK (In on) dfrom n else In y) := by
  have hs : Spared w w' (fun k => k = nb) := Spared.of_grown hg (fun k e _ => by injection e with e; exact e.symm)
  have hnb := (h.inner _ hon).2
  refine ⟨h.map.spared hs (fun e => hnb e.symm), fun p hp => ⟨?_, (h.inner p hp).2⟩, h.inj, fun y hy => ?_⟩
  · by_cases hpy : p.1 = on
    · rw [if_pos hpy]
      have hkeys := h.map.keys
      have : p.2 = nb := by
        have h1 := (lookK_mem hkeys).2 (List.mem_map_of_mem (f := mapV) hp)
        have h2 := (lookK_mem hkeys).2 (List.mem_map_of_mem (f := mapV) hon)
        unfold mapV at h1 h2
        dsimp only at h1 h2
        rw [hpy] at h1
        rw [h1] at h2
        injection h2 with h2
        injection h2 with h2
        injection h2
      rw [this]
      exact hm
    · rw [if_neg hpy]
      exact (h.inner p hp).1.spared hs (fun e => hpy (h.inj p hp (on, nb) hon e))
  · rw [if_neg (fun e => hy (by rw [e]; exact List.mem_map_of_mem (f := (·.1)) hon))]
    exact h.no y hy
theorem DepAt.made {w w1 w2 : World} {ba : Nat} {LA : List (Nk × Nat)} {In : Nk → List (Nk × Nat)} (h : DepAt w ba LA In) {on : Nk} (hon : on ∉ LA.map (·.1)) (hw1 : w1 = w.alloc (.map #[] 0))
    (hm : MapAt w2 ba (putK (LA.map mapV) on (.map (some w.heap.size)))) (hg : w1.grownBy w2 (some ba)) : DepAt w2 ba (LA ++ [(on, w.heap.size)]) In := by
  have hb1 : Below w.heap.size w w1 := by rw [hw1]; exact (Below.refl _ _).alloc (Nat.le_refl _) _
  have h1 := h.below hb1
  have hs : Spared w1 w2 (fun k => k = ba) := Spared.of_grown hg (fun k e _ => by injection e with e; exact e.symm)
  have hba : ba < w.heap.size := h.map.lt
  have hnew : MapAt w2 w.heap.size [] := MapAt.spared (by rw [hw1]; exact MapAt.made w) hs (by omega)
  have hput : putK (LA.map mapV) on (.map (some w.heap.size)) = (LA ++ [(on, w.heap.size)]).map mapV := by
    unfold putK
    have hf : findAt (LA.map mapV) on 0 = none := by
      cases hq : findAt (LA.map mapV) on 0 with
      | none => rfl
      | some q =>
        have h3 := List.mem_of_getElem? (findAt_some (j := q.1) (v := q.2) hq).2
        obtain ⟨p, hp, e⟩ := List.mem_map.1 h3
        injection e with e1 _
        exact absurd (by rw [← e1]; exact List.mem_map_of_mem (f := (·.1)) hp) hon
    rw [hf, List.map_append]; rfl
  rw [hput] at hm
  refine ⟨hm, fun p hp => ?_, fun p hp q hq e => ?_, fun y hy => ?_⟩
  · rcases List.mem_append.1 hp with hp | hp
    · have hi := h1.inner p hp
      exact ⟨hi.1.spared hs hi.2, hi.2⟩
    · rw [List.mem_singleton.1 hp]
      dsimp only
      rw [h.no on hon]
      exact ⟨hnew, by omega⟩
  · have hlt : ∀ r ∈ LA, r.2 < w.heap.size := fun r hr => (h.inner r hr).1.lt
    rcases List.mem_append.1 hp with hp | hp <;> rcases List.mem_append.1 hq with hq | hq
    · exact h.inj p hp q hq e
    · rw [List.mem_singleton.1 hq] at e ⊢
      have := hlt p hp
      dsimp only at e
      omega
    · rw [List.mem_singleton.1 hp] at e ⊢
      have := hlt q hq
      dsimp only at e
      omega
    · rw [List.mem_singleton.1 hp, List.mem_singleton.1 hq]
  · refine h.no y (fun h2 => hy ?_)
    rw [List.map_append]
    exact List.mem_append_left _ h2
theorem DepAt.look {w : World} {ba : Nat} {LA : List (Nk × Nat)} {In : Nk → List (Nk × Nat)} (h : DepAt w ba LA In) {on : Nk} {nb : Nat} (hon : (on, nb) ∈ LA) :
    (Instr.lookup 124 (.map (some ba)) (.agg #[strV on.1, strV on.2]) false).run Tryz.prog w = .ok (.map (some nb)) w := by
  have h1 := run_look h.map Tryz.underlying124 (zero_inner w) on false
  rw [(lookK_mem h.map.keys).2 (List.mem_map_of_mem (f := mapV) hon)] at h1
  exact h1
theorem DepAt.look_no {w : World} {ba : Nat} {LA : List (Nk × Nat)} {In : Nk → List (Nk × Nat)} (h : DepAt w ba LA In) {on : Nk} (hon : on ∉ LA.map (·.1)) :
    (Instr.lookup 124 (.map (some ba)) (.agg #[strV on.1, strV on.2]) false).run Tryz.prog w = .ok (.map none) w := by
  have h1 := run_look h.map Tryz.underlying124 (zero_inner w) on false
  rw [lookK_none.2 (by rw [show (LA.map mapV).map (·.1) = LA.map (·.1) from keys_map (fun n : Nat => Value.map (some n)) LA]; exact hon)] at h1
  exact h1
theorem DepAt.get {w : World} {ba : Nat} {LA : List (Nk × Nat)} {In : Nk → List (Nk × Nat)} (h : DepAt w ba LA In) {on : Nk} {nb : Nat} (hon : (on, nb) ∈ LA) (z : Nk) :
    (Instr.lookup 102 (.map (some nb)) (.agg #[strV z.1, strV z.2]) false).run Tryz.prog w = .ok (.int .i64 (((lookK (In on) z).getD 0 : Nat) : Int)) w := by
  have h1 := run_look (h.inner _ hon).1 Tryz.underlying102 (zero_int w) z false
  have h2 : lookK ((In on).map intV) z = (lookK (In on) z).map (fun n : Nat => Value.int .i64 (n : Int)) := lookK_map (fun n : Nat => Value.int .i64 (n : Int)) (In on) z
  dsimp only at h1
  rw [h2] at h1
  cases hq : lookK (In on) z with
  | none => rw [hq] at h1; exact h1
  | some n => rw [hq] at h1; exact h1
theorem DepAt.put {w : World} {ba : Nat} {LA : List (Nk × Nat)} {In : Nk → List (Nk × Nat)} (h : DepAt w ba LA In) {on : Nk} {nb : Nat} (hon : (on, nb) ∈ LA) (dfrom : Nk) (n : Nat) :
    ∃ w', (Instr.mapUpdate 102 (.map (some nb)) (.agg #[strV dfrom.1, strV dfrom.2]) (.int .i64 (n : Int))).run Tryz.prog w = .ok () w' ∧ DepAt w' ba LA (fun y => if y = on then putK (In on) dfrom n else In y) ∧ w.grownBy w' (some nb) := by
  obtain ⟨w', h1, h2, h3, _⟩ := run_put (h.inner _ hon).1 Tryz.underlying102 dfrom (.int .i64 (n : Int))
  have h4 : putK ((In on).map intV) dfrom (.int .i64 (n : Int)) = (putK (In on) dfrom n).map intV := putK_map (fun n : Nat => Value.int .i64 (n : Int)) (In on) dfrom n
  rw [h4] at h2
  exact ⟨w', h1, h.put_old hon h2 h3, h3⟩
theorem map_eql_some (nb : Nat) (w : World) : (binOp .eql 102 (.map (some nb)) (.map none)).run Tryz.prog w = .ok (.bool false) w := by kernel_rfl
theorem map_eql_none (w : World) : (binOp .eql 102 (.map none) (.map none)).run Tryz.prog w = .ok (.bool true) w := by kernel_rfl
set_option maxRecDepth 100000 in
set_option maxHeartbeats 2000000 in
theorem dep1_any (on dfrom : Nk) (st : Nat) (W : World) (ba : Nat) (LA : List (Nk × Nat)) (In : Nk → List (Nk × Nat)) (hD : DepAt W ba LA In) {b2 b3 : Nat} {t2 t3 : TypeId} (h2 : Blk W b2 [.map (some ba)] t2) (h3 : Blk W b3 [strV dfrom.1, strV dfrom.2] t3) :
    Calls Tryz.prog 93 #[.agg #[strV on.1, strV on.2], .int .i64 (st : Int), .pointer (some ⟨b2, 0, none⟩), .pointer (some ⟨b3, 0, none⟩)] W fun r w' => r = .returned (.tuple #[]) ∧ (∃ LA', DepAt w' ba LA' (dput In on dfrom st) ∧ ∀ p ∈ LA', p ∈ LA ∨ W.heap.size ≤ p.2) ∧ Spared W w' (depB ba LA) := by
  obtain ⟨W1, hW1⟩ : ∃ W1, W1 = W.alloc (.cells #[strV on.1, strV on.2] 97) := ⟨_, rfl⟩
  have hb1 : Below W.heap.size W W1 := by rw [hW1]; exact (Below.refl _ _).alloc (Nat.le_refl _) _
  have hk1 : Blk W1 W.heap.size [strV on.1, strV on.2] 97 := by rw [hW1]; exact Blk.new _ _ _
  have hD1 := hD.below hb1
  have g2 := h2.below hb1 h2.lt
  have g3 := h3.below hb1 h3.lt
  have hlt := hD.map.lt
  have hlts : ∀ p ∈ LA, p.2 < W.heap.size := fun p hp => (hD.inner p hp).1.lt
  have hdB : ∀ k, depB ba LA k → k < W.heap.size := fun k hk => by
    rcases hk with rfl | hk
    · exact hlt
    · obtain ⟨p, hp, rfl⟩ := List.mem_map.1 hk
      exact hlts p hp
  have hnb2 : ∀ k, depB ba LA k → k ≠ b2 ∧ k ≠ b3 ∧ k ≠ W.heap.size := fun k hk => by
    have hmap : ∃ L, MapAt W k L := by
      rcases hk with rfl | hk
      · exact ⟨_, hD.map⟩
      · obtain ⟨p, hp, rfl⟩ := List.mem_map.1 hk
        exact ⟨_, (hD.inner p hp).1⟩
    obtain ⟨L, es, cl, hL, _⟩ := hmap
    refine ⟨fun e => ?_, fun e => ?_, fun e => ?_⟩
    · unfold Blk at h2; rw [← e, hL] at h2; cases h2
    · unfold Blk at h3; rw [← e, hL] at h3; cases h3
    · have := hdB k hk; omega
  obtain ⟨c, d⟩ := on
  obtain ⟨a, e⟩ := dfrom
  dsimp only at *
  have x0 := hk1.cell (i := 0) (by simp)
  have x1 := hk1.cell (i := 1) (by simp)
  have y0 := g2.cell (i := 0) (by simp)
  simp only [List.getElem_cons_succ, List.getElem_cons_zero] at x0 x1 y0
  rw [hW1] at x0 x1 y0
  by_cases hon : (c, d) ∈ LA.map (·.1)
  · obtain ⟨⟨on', nb⟩, hmem, rfl⟩ := List.mem_map.1 hon
    have hql := map_eql_some nb
    have hl1 := hD1.look hmem
    have hD1d : DepAt W1.drew ba LA In := hD1.below (Below.refl _ _).drew
    have hl2 := hD1d.look hmem
    have hg2 := hD1d.get hmem (a, e)
    obtain ⟨m, hm⟩ : ∃ m, max ((lookK (In (c, d)) (a, e)).getD 0) st = m := ⟨_, rfl⟩
    obtain ⟨w2, hrun, hD2, hgr⟩ := hD1d.put hmem (a, e) m
    obtain ⟨o, ho⟩ : ∃ o, (lookK (In (c, d)) (a, e)).getD 0 = o := ⟨_, rfl⟩
    rw [ho] at hg2 hm
    have hmx : ∀ (w : World) (ts : Array TypeId) (t : TypeId), (Builtin.max_ ts t #[.int .i64 (o : Int), .int .i64 (st : Int)]).run Tryz.prog w = .ok (.int .i64 (m : Int)) w := fun w ts t => by
      rw [Lib.run_max_ints]
      congr 2
      omega
    have k1 := hk1.cell (i := 0) (by simp)
    have k2 := hk1.cell (i := 1) (by simp)
    have k3 := g2.cell (i := 0) (by simp)
    have k4 := g3.cell (i := 0) (by simp)
    have k5 := g3.cell (i := 1) (by simp)
    simp only [List.getElem_cons_succ, List.getElem_cons_zero] at k1 k2 k3 k4 k5
    rw [hW1] at hl1
    dsimp only at hl1 hl2 hg2 hrun
    have HW1 := Lib.hid hW1
    go_enter Tryz.func93, Tryz.ntmps93
    go_wp2_with fail
    rw [← HW1.out]
    have HSP : Hid (Spared W w2 (depB ba LA)) := Lib.hid ((Spared.of_below hb1.drew (depB ba LA)).trans (Spared.of_grown (F := depB ba LA) hgr (fun k e _ => by injection e with e; rw [← e]; exact .inr (List.mem_map_of_mem hmem))) (fun _ h => .inl h))
    have HDP : Hid (DepAt w2 ba LA (dput In (c, d) (a, e) st)) := Lib.hid (by unfold dput; rw [ho, hm]; exact hD2)
    clear hl1 hD1 hb1 g2 g3 hlt hlts hdB hnb2 h2 h3 hm ho hD hon hD1d hk1 hgr hql x0 x1 y0 hW1 hD2 hmem
    go_region
    go_wp2_with fail
    go_end0
    exact ⟨rfl, ⟨LA, HDP.out, fun p hp => .inl hp⟩, HSP.out⟩
  · have hql := map_eql_none
    have hl1 := hD1.look_no hon
    have hb2 : Below W1.heap.size W1 (W1.alloc (.map #[] 0)) := (Below.refl _ _).alloc (Nat.le_refl _) _
    obtain ⟨w3, hrun0, hm3, hg3, hz3⟩ := run_put (hD1.below hb2).map Tryz.underlying124 (c, d) (.map (some W1.heap.size))
    have hD3 := hD1.made hon rfl hm3 hg3
    have hmem : ((c, d), W1.heap.size) ∈ LA ++ [((c, d), W1.heap.size)] := by simp
    have hsp3 : Spared W1 w3 (depB ba LA) := (Spared.of_below hb2 (depB ba LA)).trans (Spared.of_grown (F := depB ba LA) hg3 (fun k e _ => by injection e with e; exact .inl e.symm)) (fun _ h => .inl h)
    have hmm := @run_makeMap Tryz.prog
    have hD3d : DepAt w3.drew ba (LA ++ [((c, d), W1.heap.size)]) In := hD3.below (Below.refl _ _).drew
    have hl2 := hD3d.look hmem
    have hg2 := hD3d.get hmem (a, e)
    obtain ⟨m, hm⟩ : ∃ m, max ((lookK (In (c, d)) (a, e)).getD 0) st = m := ⟨_, rfl⟩
    obtain ⟨w2, hrun, hD2, hgr⟩ := hD3d.put hmem (a, e) m
    obtain ⟨o, ho⟩ : ∃ o, (lookK (In (c, d)) (a, e)).getD 0 = o := ⟨_, rfl⟩
    rw [ho] at hg2 hm
    have hmx : ∀ (w : World) (ts : Array TypeId) (t : TypeId), (Builtin.max_ ts t #[.int .i64 (o : Int), .int .i64 (st : Int)]).run Tryz.prog w = .ok (.int .i64 (m : Int)) w := fun w ts t => by
      rw [Lib.run_max_ints]
      congr 2
      omega
    have hfb : ∀ k, k = W.heap.size ∨ k = b2 ∨ k = b3 → ¬ depB ba LA k := fun k hk hd => by
      obtain ⟨e1, e2, e3⟩ := hnb2 k hd
      rcases hk with h | h | h
      · exact e3 h
      · exact e1 h
      · exact e2 h
    have n1 := hsp3.blk hk1 (hfb _ (.inl rfl))
    have n2 := hsp3.blk g2 (hfb _ (.inr (.inl rfl)))
    have n3 := hsp3.blk g3 (hfb _ (.inr (.inr rfl)))
    have k1 := n1.cell (i := 0) (by simp)
    have k2 := n1.cell (i := 1) (by simp)
    have k3 := n2.cell (i := 0) (by simp)
    have k4 := n3.cell (i := 0) (by simp)
    have k5 := n3.cell (i := 1) (by simp)
    simp only [List.getElem_cons_succ, List.getElem_cons_zero] at k1 k2 k3 k4 k5
    rw [hW1] at hl1
    dsimp only at hl1 hl2 hg2 hrun hrun0
    have HSP : Hid (Spared W w2 (depB ba LA)) := Lib.hid (by
      have h1 : Spared W w3 (depB ba LA) := (Spared.of_below hb1 (depB ba LA)).trans hsp3 (fun _ h => .inl h)
      refine h1.trans (Spared.of_grown (w := w3.drew) (F := fun k => k = W1.heap.size) hgr (fun k e _ => by injection e with e; exact e.symm) |> fun h => ⟨h.os, h.tape, h.output, h.size, h.block⟩) (fun k hk => .inr ?_)
      rw [hk]; exact hb1.size)
    have HDP : Hid (DepAt w2 ba (LA ++ [((c, d), W1.heap.size)]) (dput In (c, d) (a, e) st)) := Lib.hid (by unfold dput; rw [ho, hm]; exact hD2)
    have HMZ : Hid (W.heap.size ≤ W1.heap.size) := Lib.hid hb1.size
    have HW1 := Lib.hid hW1
    have HZ1 : Hid (W1.heap.size = W.heap.size + 1) := Lib.hid (by rw [hW1]; exact World.size_alloc _ _)
    rw [HZ1.out, hW1] at hrun0
    unfold nkV at hrun0
    dsimp only at hrun0
    rw [HZ1.out] at hl2 hg2 hrun
    clear hD1 hb1 g2 g3 hlt hlts hdB hnb2 h2 h3 hm ho hD hon hD3d hk1 hgr hW1 hD2 hmem hb2 hm3 hg3 hz3 hD3 hsp3 hfb n1 n2 n3
    go_enter Tryz.func93, Tryz.ntmps93
    go_wp2_with fail
    clear hl1 hrun0 x0 x1 y0 hmm hql
    go_region
    go_wp2_with fail
    go_end0
    exact ⟨rfl, ⟨_, HDP.out, fun p hp => (List.mem_append.1 hp).imp id (fun h => by rw [List.mem_singleton.1 h]; exact HMZ.out)⟩, HSP.out⟩
end Go.Proofs.YtdnhbledndgbcaaGreat
namespace Go.Proofs.YtdnhbledndgbcaaGreat
open Go.RowKit
theorem nk_at {w : World} {base : Nat} {A : Option Addr} {c : Nat} {ls : List Nk} (h : w.ownsRow base 97 2 (.slice A ls.length c) ls.length (ls.flatMap nkC)) (h0 : 0 < ls.length) :
    ∃ g, A = some ⟨g, 0, none⟩ ∧ base ≤ g ∧ g < w.heap.size ∧ (∀ es c, w.heap[g]? ≠ some (.map es c)) ∧ ∀ w' : World, w'.heap[g]? = w.heap[g]? → ∀ j (hj : j < ls.length), w'.cell? ⟨g, j * 2, none⟩ = some (strV ls[j].1) ∧ w'.cell? ⟨g, j * 2 + 1, none⟩ = some (strV ls[j].2) := by
  have hcs := h
  rcases h.2 with ⟨_, h1⟩ | ⟨g, cap, cur, hv, hb, hh, hnc, hx, hsz, htake⟩
  · omega
  · injection hv with hA _ hcc
    subst hA hcc
    have hcells := World.ownsRow.cells hcs rfl
    refine ⟨g, rfl, hb, (Array.getElem?_eq_some_iff.1 hh).1, fun es c e => (by rw [hh] at e; cases e), fun w' hw j hj => ?_⟩
    have hf : ∀ i, i < 2 → (ls.flatMap nkC)[j * 2 + i]? = (nkC ls[j])[i]? := fun i hi => flatMap_at nkC (fun _ => rfl) ls j hj i hi
    have c0 := hcells (j * 2) (strV ls[j].1) (by have := hf 0 (by omega); exact this)
    have c1 := hcells (j * 2 + 1) (strV ls[j].2) (by have := hf 1 (by omega); exact this)
    rw [add_plain, Nat.zero_add] at c0 c1
    exact ⟨(World.cell?_of_block hw).trans c0, (World.cell?_of_block hw).trans c1⟩
def leafD (kn : Kn) (typ : Txt) (p : Ex × Nat) : List (Nk × Nat) := ((typ, p.1.name), p.2) :: (if p.1.kind = 1 then (overK kn (typ, p.1.name) p.1.over).map (fun x => (x, p.2)) else [])
def depsK (kn : Kn) (typ : Txt) (r : Rl) : List (Nk × Nat) :=
  (r.refs.filter (fun f => decide (f.2 ≠ []))).map (fun f => (f, 0)) ++ (if r.refs.length = 0 then (lvsE r.expr 0).flatMap (leafD kn typ) else [])
set_option maxRecDepth 100000 in
set_option maxHeartbeats 2000000 in
theorem depC_any {g : Nat} (eg : ∀ args w, (callFunc g args).run Tryz.prog w = .ok (.enter g args) w) {p1 p2 : Value} (F F1 : Nat → Prop) (N0 : Nat) (b : Nat) (L : List (Nk × Value)) (kn : Kn) (hB : ∀ x, ((kn x).getD noRel).refs.length ≤ 1000000) (I : List (Nk × Nat) → World → Prop) (hF : ∀ k, F k → k < N0)
    (hS : ∀ l w, I l w → KnAt w F1 b L kn ∧ N0 ≤ w.heap.size) (hI : ∀ l w w', I l w → Below w.heap.size w w' → I l w')
    (hp : ∀ l w (on : Nk) (st : Nat), I l w → st ≤ 1 → Calls Tryz.prog g #[.agg #[strV on.1, strV on.2], .int .i64 (st : Int), p1, p2] w fun r w' => r = .returned (.tuple #[]) ∧ I (l ++ [(on, st)]) w' ∧ Nomap w w' F)
    (x : Ex) (st : Nat) (hst : st ≤ 1) (l : List (Nk × Nat)) (W : World) (Fx : Nat → Prop) (cs : List Value) (hx : ExAt W Fx x cs) (hl : I l W) (typ rn : Txt) {bf bp bk : Nat} {tf tp tk : TypeId} (h1 : Blk W bf [strV typ, strV rn] tf) (h2 : Blk W bp [.func (.func g) #[] #[p1, p2]] tp) (h3 : Blk W bk [.map (some b)] tk) (hn : ¬ F bf ∧ ¬ F bp ∧ ¬ F bk) :
    Calls Tryz.prog 105 #[.agg cs.toArray, .int .i64 (st : Int), .pointer (some ⟨bf, 0, none⟩), .pointer (some ⟨bp, 0, none⟩), .pointer (some ⟨bk, 0, none⟩)] W fun r w' => r = .returned (.tuple #[]) ∧ I (l ++ leafD kn typ (x, st)) w' ∧ Nomap W w' F := by
  obtain ⟨kd, nm, ov, ks⟩ := x
  obtain ⟨E, m, rfl, ⟨⟨k1, k2⟩, -, -, -⟩, -⟩ := hx.row
  show Calls _ _ #[.agg #[.int .i64 kd, strV nm, strV ov, .slice E ks.length m], _, _, _, _] _ _
  obtain ⟨V, hV⟩ : ∃ V, V = l ++ leafD kn typ (.mk kd nm ov ks, st) := ⟨_, rfl⟩
  rw [← hV]
  replace hV : V = l ++ (((typ, nm), st) :: (if kd = 1 then (overK kn (typ, nm) ov).map (fun x => (x, st)) else [])) := hV
  generalize ks.length = kl
  obtain ⟨W1, hW1⟩ : ∃ W1, W1 = (W.alloc (.cells #[.int .i64 kd, strV nm, strV ov, .slice E kl m] 44)).alloc (.cells #[strV typ, strV nm] 97) := ⟨_, rfl⟩
  have hb1 : Below W.heap.size W W1 := by rw [hW1]; exact ((Below.refl _ _).alloc (Nat.le_refl _) _).alloc (by simp) _
  have hk0 : Blk W1 W.heap.size [.int .i64 kd, strV nm, strV ov, .slice E kl m] 44 := by rw [hW1]; exact (Blk.new _ _ _).alloc _
  have hk1 : Blk W1 (W.heap.size + 1) [strV typ, strV nm] 97 := by
    rw [hW1]
    have := Blk.new (W.alloc (.cells #[.int .i64 kd, strV nm, strV ov, .slice E kl m] 44)) [strV typ, strV nm] 97
    rw [World.size_alloc] at this
    exact this
  have hN := (hS l W hl).2
  have hnF : ∀ k, W.heap.size ≤ k → ¬ F k := fun k hk hf => by have := hF k hf; omega
  have g1 := h1.below hb1 h1.lt
  have g2 := h2.below hb1 h2.lt
  have g3 := h3.below hb1 h3.lt
  have HX : Hid (∀ w, Nomap W1 w F → w.cell? ⟨W.heap.size, 0, none⟩ = some (.int .i64 kd) ∧ w.cell? ⟨W.heap.size, 2, none⟩ = some (strV ov) ∧ w.cell? ⟨W.heap.size + 1, 0, none⟩ = some (strV typ) ∧ w.cell? ⟨W.heap.size + 1, 1, none⟩ = some (strV nm) ∧ w.cell? ⟨bp, 0, none⟩ = some (.func (.func g) #[] #[p1, p2]) ∧ w.cell? ⟨bk, 0, none⟩ = some (.map (some b))) := Lib.hid (fun w hw => by
    have h1 := hw.blk hk0 (hnF _ (Nat.le_refl _))
    have h2 := hw.blk hk1 (hnF _ (Nat.le_succ _))
    exact ⟨h1.cell (i := 0) (by simp), h1.cell (i := 2) (by simp), h2.cell (i := 0) (by simp), h2.cell (i := 1) (by simp), (hw.blk g2 hn.2.1).cell (i := 0) (by simp), (hw.blk g3 hn.2.2).cell (i := 0) (by simp)⟩)
  have hI1 := hI _ _ _ hl hb1
  have HC : Hid (Calls Tryz.prog g #[.agg #[strV typ, strV nm], .int .i64 (st : Int), p1, p2] W1 fun r w' => r = .returned (.tuple #[]) ∧ I (l ++ [((typ, nm), st)]) w' ∧ Nomap W1 w' F) := Lib.hid (hp l W1 (typ, nm) st hI1 hst)
  have e0 := (h1.alloc (.cells #[.int .i64 kd, strV nm, strV ov, .slice E kl m] 44)).cell (i := 0) (by simp)
  simp only [List.getElem_cons_zero] at e0
  obtain ⟨x0, x2, y0, y1, z0, z1⟩ := HX.out W1 (Nomap.refl _ _)
  have HN1 := Lib.hid (Nomap.of_below hb1 F)
  have HW1 := Lib.hid hW1
  have HNF : Hid (∀ k, W.heap.size ≤ k → ¬ F k) := Lib.hid hnF
  have HP := Lib.hid hp
  have HII := Lib.hid hI
  have HSS := Lib.hid hS
  have HBB := Lib.hid hB
  have HZ1 : Hid (W.heap.size ≤ W1.heap.size) := Lib.hid hb1.size
  rw [hW1] at x0 x2 y0 y1 z0 z1
  clear hx h1 h2 h3 hb1 hk0 hk1 hW1 hnF g1 g2 g3 hI1 hN hp hI hS hB hn hl
  by_cases hkd : kd = 1
  · rw [if_pos hkd] at hV
    subst hkd
    have HV := Lib.hid hV
    clear hV
    go_enter Tryz.func105, Tryz.ntmps105
    go_wp2_with (first
      | (go_at_fn g; rw [← HW1.out]; refine HC.out.mono ?_; rintro r w5 ⟨rfl, hi5, hn5⟩; have HI5 := Lib.hid hi5; have HN5 := Lib.hid hn5; obtain ⟨u0, u2, u3, u4, u5, u6⟩ := HX.out w5 hn5; have HOV : Hid (Calls Tryz.prog 91 #[.map (some b), .agg #[strV typ, strV nm], strV ov] w5 (NkRow w5 (w5.heap.size + 1) (overK kn (typ, nm) ov))) := Lib.hid (over_any (typ, nm) ov w5 F1 b L kn (HSS.out _ _ hi5).1 (HBB.out (typ, nm))); clear hi5 hn5)
      | (go_at_call 91; refine HOV.out.mono ?_; rintro r w6 ⟨A6, c6, rfl, ho6, hz6, hb6⟩; have HO6 := Lib.hid ho6; have HB6 := Lib.hid hb6; clear ho6 hb6))
    obtain ⟨ol, hol⟩ : ∃ ol, overK kn (typ, nm) ov = ol := ⟨_, rfl⟩
    rw [hol] at HV HO6
    have HV2 : Hid (V = (l ++ [((typ, nm), st)]) ++ (ol.drop 0).map (fun x => (x, st))) := Lib.hid (by rw [HV.out, List.drop_zero]; simp)
    have HI6 := Lib.hid (HII.out _ _ _ HI5.out HB6.out)
    have HN6 : Hid (Nomap W1 w6 F) := Lib.hid (HN5.out.trans (Nomap.of_below HB6.out F))
    have HZ6 : Hid (W.heap.size ≤ w5.heap.size) := Lib.hid (Nat.le_trans HZ1.out HN5.out.size)
    clear u0 u2 u3 u4 u5 u6 x0 x2 y0 y1 z0 z1 e0 hz6 HOV
    have HOV : Hid (overK kn (typ, nm) ov = ol) := Lib.hid hol
    rw [hol]
    clear hol
    have hol2 : ol.length ≤ 1000000 := by
      have h1 := HBB.out (typ, nm)
      have h2 := List.length_filterMap_le (overR kn ov) ((kn (typ, nm)).getD noRel).refs
      have h3 : ol.length = (((kn (typ, nm)).getD noRel).refs.filterMap (overR kn ov)).length := by rw [← HOV.out]; rfl
      omega
    go_loopw [28] (fun i wr => ∃ (j : Nat) (l2 : List (Nk × Nat)), j ≤ ol.length ∧ i = .int .i64 j ∧ Hid (V = l2 ++ (ol.drop j).map (fun x => (x, st))) ∧ Hid (I l2 wr) ∧ Hid (Nomap w6 wr F)) (fun i _ => ol.length - (intOf i).toNat)
    case atStart => exact ⟨0, _, by omega, rfl, HV2, HI6, Lib.hid (Nomap.refl _ _)⟩
    case round =>
      obtain ⟨j, l2, hj, rfl, H, HI2, HN2⟩ := hrel
      by_cases hlt : j < ol.length
      · obtain ⟨g6, rfl, hg1, hg2, hg3, hg4⟩ := nk_at HO6.out (by omega)
        have hsame : wr.heap[g6]? = w6.heap[g6]? := HN2.out.block g6 hg2 (HNF.out _ (by have := HZ6.out; omega)) hg3
        obtain ⟨q0, q1⟩ := hg4 wr hsame j hlt
        have HD : Hid ((ol.drop j).map (fun x => (x, st)) = (ol[j], st) :: (ol.drop (j + 1)).map (fun x => (x, st))) := Lib.hid (by rw [List.drop_eq_getElem_cons hlt, List.map_cons])
        obtain ⟨on, hon⟩ : ∃ on, ol[j] = on := ⟨_, rfl⟩
        rw [hon] at q0 q1 HD
        obtain ⟨a, c⟩ := on
        dsimp only at q0 q1
        obtain ⟨w7, hw7⟩ : ∃ w7, w7 = wr.alloc (.cells #[strV a, strV c] 97) := ⟨_, rfl⟩
        have hb7 : Below wr.heap.size wr w7 := by rw [hw7]; exact (Below.refl _ _).alloc (Nat.le_refl _) _
        have hk7 : Blk w7 wr.heap.size [strV a, strV c] 97 := by rw [hw7]; exact Blk.new _ _ _
        have HN7 : Hid (Nomap w6 w7 F) := Lib.hid (HN2.out.trans (Nomap.of_below hb7 F))
        obtain ⟨_, _, _, _, u5, _⟩ := HX.out w7 (HN6.out.trans HN7.out)
        have HC7 : Hid (Calls Tryz.prog g #[.agg #[strV a, strV c], .int .i64 (st : Int), p1, p2] w7 fun r w' => r = .returned (.tuple #[]) ∧ I (l2 ++ [((a, c), st)]) w' ∧ Nomap w7 w' F) := Lib.hid (HP.out l2 w7 (a, c) st (HII.out _ _ _ HI2.out hb7) hst)
        have v0 := hk7.cell (i := 0) (by simp)
        have v1 := hk7.cell (i := 1) (by simp)
        simp only [List.getElem_cons_succ, List.getElem_cons_zero] at v0 v1
        rw [hw7] at u5 v0 v1
        have HNN : Hid (V = (l2 ++ [((a, c), st)]) ++ (ol.drop (j + 1)).map (fun x => (x, st))) := Lib.hid (by rw [H.out, HD.out]; simp)
        have HW7 := Lib.hid hw7
        clear hon hb7 hk7 hw7 hsame hg1 hg2 hg3 hg4
        go_wp2_with (go_at_fn g; rw [← HW7.out]; refine HC7.out.mono ?_; rintro r w8 ⟨rfl, hi8, hn8⟩; have HI8 := Lib.hid hi8; have HN8 := Lib.hid (HN7.out.trans hn8); clear hi8 hn8)
        go_roundw
        case rel => exact ⟨j + 1, _, by omega, by go_num, HNN, HI8, HN8⟩
        case measure => simp [intOf]; omega
      · have HNN : Hid (V = l2) := Lib.hid (by rw [H.out, List.drop_of_length_le (by omega), List.map_nil, List.append_nil])
        go_wp2_with fail
        go_end0
        rw [HNN.out]
        exact ⟨rfl, HI2.out, HN1.out.trans (HN6.out.trans HN2.out)⟩
  · rw [if_neg hkd] at hV
    have HV := Lib.hid hV
    have hd1 : (kd == 1) = false := beq_eq_false_iff_ne.2 hkd
    clear hV hkd
    go_enter Tryz.func105, Tryz.ntmps105
    go_wp2_with (go_at_fn g; rw [← HW1.out]; refine HC.out.mono ?_; rintro r w5 ⟨rfl, hi5, hn5⟩; have HI5 := Lib.hid hi5; have HN5 := Lib.hid hn5; obtain ⟨u0, u2, u3, u4, u5, u6⟩ := HX.out w5 hn5; clear hi5 hn5)
    go_end0
    rw [HV.out]
    exact ⟨rfl, HI5.out, HN1.out.trans HN5.out⟩
end Go.Proofs.YtdnhbledndgbcaaGreat
