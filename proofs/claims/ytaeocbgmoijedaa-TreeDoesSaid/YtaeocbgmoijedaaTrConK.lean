/-
  slices.Grow, Concat and Clone of pages: a row of the call's own with what the rows have. Conditions: at most 1,000,000 elements.
-/
import Derived.Test.YtaeocbgmoijedaaChecked
import Derived.Test.YtaeocbgmoijedaaTrRow
import Derived.Test.YtaeocbgmoijedaaOnly
import Derived.WalkSpells
import Derived.Lib.SliceRun
import Derived.Deep.LoopGhost
import Derived.Outline
namespace Go.Proofs.Ytaeocbgmoijedaa
open Go.RowKit

theorem rowK : ∃ i z, RowTy Try.prog 53 55 3 72 i z := by
  have hf : (Try.prog.info? 55).map (fun i => (i.zero, i.size, i.bytes)) = some (some (.agg #[.slice none 0 0, .slice none 0 0, .slice none 0 0]), 3, 72) := by kernel_rfl
  obtain ⟨i, hi, hz, hs, hb⟩ := info_parts hf
  exact ⟨i, _, Try.underlying53, by kernel_rfl, hi, hz, hs, hb, rfl, by decide⟩

set_option maxHeartbeats 400000 in
theorem growK_any (w : World) (m : Nat) (hm : m ≤ 1000000) :
    Calls Try.prog 62 #[.slice none 0 0, .int .i64 (m : Int)] w fun e w' => (∃ A c, e = .returned (.slice A 0 c) ∧ w'.ownsRow w.heap.size 55 3 (.slice A 0 c) 0 []) ∧ Below w.heap.size w w' := by
  obtain ⟨i0, z0, R⟩ := rowK
  by_cases h0 : m = 0
  · subst h0
    go_enter Try.func62, Try.ntmps62
    go_wp2
    go_ret
    exact ⟨⟨none, 0, rfl, World.ownsRow_nil _ _ _ _⟩, Below.refl _ _⟩
  · have hp : 0 < m := by omega
    have hpi : (0 : Int) < (m : Int) := by omega
    have hcut : ∀ (A : Option Addr) (n c : Nat) (W : World), (Instr.slice 53 (.slice A n c) none (some (.int .i64 0)) none).run Try.prog W = .ok (.slice A 0 c) W := fun A n c W => R.head A n c 0 (Nat.zero_le _) W
    have HR := Lib.hid R
    clear R h0
    go_enter Try.func62, Try.ntmps62
    go_wp2_with (refine wpList_append_room HR.out rfl (.tmp 20) (.tmp 21) 3 rfl Try.underlying3 m rfl rfl hp (by omega) hm ?_)
    intro cap w1 hown hb1 hcap
    have HOWN := Lib.hid hown
    have HB := Lib.hid hb1
    clear hown hb1 hcap
    go_wp2_with fail
    go_ret
    exact ⟨⟨_, _, rfl, HOWN.out⟩, HB.out⟩

set_option maxHeartbeats 1000000 in
set_option maxRecDepth 100000 in
theorem concatK_any (w : World) (F : Nat → Prop) (B off d dc : Nat) (rs : List RowV) (hd : rs.length = d) (hdm : d ≤ 1000) (hB : B < w.heap.size) (hc : ∀ j (hj : j < rs.length), w.cell? ⟨B, off + j, none⟩ = some (rvVal rs[j])) (hok : ∀ r ∈ rs, RvOk w F 3 r) (ht : tot rs ≤ 1000000) :
    Calls Try.prog 61 #[.slice (some ⟨B, off, none⟩) d dc] w fun e w' => (∃ A c, e = .returned (.slice A (tot rs) c) ∧ w'.ownsRow w.heap.size 55 3 (.slice A (tot rs) c) (tot rs) (cat rs)) ∧ Below w.heap.size w w' := by
  obtain ⟨i0, z0, R⟩ := rowK
  have HR := Lib.hid R
  have HD := Lib.hid hd
  have HC : Hid (∀ W, Below w.heap.size w W → ∀ k (hk : k < rs.length), W.cell? ⟨B, off + k, none⟩ = some (.slice rs[k].1 rs[k].2.1 rs[k].2.2.1)) := fun W hW k hk => (hW.cell (p := ⟨B, off + k, none⟩) hB).trans (hc k hk)
  have HOK := Lib.hid hok
  have HT0 : Hid (tot (rs.take 0) = 0) := rfl
  have HTD : Hid (tot (rs.take d) = tot rs ∧ cat (rs.take d) = cat rs) := by rw [← hd, List.take_length]; exact ⟨rfl, rfl⟩
  have HTT := Lib.hid (tot_take rs)
  have HTS : Hid (∀ k (hk : k < rs.length), tot (rs.take (k + 1)) = tot (rs.take k) + rs[k].2.1) := fun k hk => tot_step hk
  clear hd hc hok R
  go_enter Try.func61, Try.ntmps61
  go_wp2_with fail
  go_loopg [3, 11] d (fun kx s3 s11 wr => ∃ k, k + kx = d ∧ s11 = .int .i64 k ∧ s3 = .int .i64 (tot (rs.take k) : Nat) ∧ w = wr)
  case atStart => exact ⟨0, by omega, rfl, by rw [HT0.out]; rfl, rfl⟩
  case round =>
    obtain ⟨k, hk, rfl, rfl, rfl⟩ := hrel
    have hTk := HTT.out k
    by_cases hlt : k < d
    · have hkl : (k : Int) < (d : Int) := by omega
      have hkr : k < rs.length := by rw [HD.out]; exact hlt
      have c1 := HC.out w (Below.refl _ _) k hkr
      have hs := HTS.out k hkr
      have hT2 := HTT.out (k + 1)
      obtain ⟨x, hx⟩ : ∃ x, x = rs[k].2.1 := ⟨_, rfl⟩
      rw [← hx] at c1 hs
      generalize rs[k].1 = A1 at *
      generalize rs[k].2.2.1 = c2 at *
      clear hx
      obtain ⟨T, hT⟩ : ∃ T, T = tot (rs.take k) := ⟨_, rfl⟩
      obtain ⟨T2, hT2'⟩ : ∃ T2, T2 = tot (rs.take (k + 1)) := ⟨_, rfl⟩
      rw [← hT] at hTk hs ⊢
      rw [← hT2'] at hT2 hs
      have HS := Lib.hid hs
      have HT2 := Lib.hid hT2'
      have hle : T + x ≤ 1000000 := by omega
      clear hs hT hT2'
      go_wp2_with fail
      go_roundg (d - (k + 1))
      case measure => omega
      case rel => exact ⟨k + 1, by omega, by go_num, by rw [← HT2.out, HS.out]; go_num, rfl⟩
    · obtain rfl : k = d := by omega
      have hkl : ¬ (k : Int) < (k : Int) := by omega
      rw [HTD.out.1]
      obtain ⟨T, hT⟩ : ∃ T, T = tot rs := ⟨_, rfl⟩
      rw [← hT] at ht hTk ⊢
      have HT := Lib.hid hT
      clear hT
      go_wp2_with fail
      refine (growK_any _ T ht).mono ?_
      rintro e w2 ⟨⟨A, c, rfl, hown⟩, hb⟩
      have HOWN := Lib.hid hown
      have HB := Lib.hid hb
      clear hown hb
      go_wp2_with fail
      have HCT0 : Hid (cat (rs.take 0) = []) := rfl
      go_loopg [6, 27] k (fun kx s6 s27 wr => ∃ j, j + kx = k ∧ s27 = .int .i64 j ∧ wr.ownsRow w.heap.size 55 3 s6 (tot (rs.take j)) (cat (rs.take j)) ∧ Below w.heap.size w wr)
      case atStart => exact ⟨0, by omega, rfl, by rw [HT0.out, HCT0.out]; exact HOWN.out, HB.out⟩
      case round =>
        obtain ⟨j, hj, rfl, hown, hb⟩ := hrel
        have HOW := Lib.hid hown
        have HBW := Lib.hid hb
        have hTj := HTT.out j
        clear hown hb HOWN HB hkl
        by_cases hlt2 : j < k
        · have hkl : (j : Int) < (k : Int) := by omega
          have hkr : j < rs.length := by rw [HD.out]; exact hlt2
          have c1 := HC.out wr HBW.out j hkr
          have HS := Lib.hid (HTS.out j hkr)
          have HCS : Hid (cat (rs.take (j + 1)) = cat (rs.take j) ++ rs[j].2.2.2) := cat_step hkr
          have hT2 := HTT.out (j + 1)
          have HRV := Lib.hid ((HOK.out _ (List.getElem_mem hkr)).below HBW.out)
          have hle : tot (rs.take j) + rs[j].2.1 ≤ 1000000 := by have := HS.out; have := HT.out; omega
          obtain ⟨form6, hform⟩ : ∃ q : Option Addr × Nat, u6 = .slice q.1 (tot (rs.take j)) q.2 := by
            obtain ⟨A, c, e⟩ := own_shape HOW.out
            exact ⟨(A, c), e⟩
          subst hform
          clear hT2 hTj
          go_wp2_with (refine wpList_append_cells HR.out rfl (.tmp 31) (.tmp 32) rfl F w.heap.size _ _ _ rfl HOW.out rs[j].1 rs[j].2.2.2 rs[j].2.1 rs[j].2.2.1 rfl HRV.out.2.1 HRV.out.1 HRV.out.2.2 (by omega) hle HBW.out.size ?_)
          intro v' w1 hown' hg
          have HO1 : Hid (w1.ownsRow w.heap.size 55 3 v' (tot (rs.take (j + 1))) (cat (rs.take (j + 1)))) := by
            show World.ownsRow _ _ _ _ _ _ _
            rw [HS.out, HCS.out]; exact hown'
          have HB1 : Hid (Below w.heap.size w w1) := below_grown HBW.out HBW.out.size HOW.out hg
          clear hown' hg
          go_wp2_with fail
          go_roundg (k - (j + 1))
          case measure => omega
          case rel => exact ⟨j + 1, by omega, by go_num, HO1.out, HB1.out⟩
        · obtain rfl : j = k := by omega
          have hkl : ¬ (j : Int) < (j : Int) := by omega
          have HO : Hid (wr.ownsRow w.heap.size 55 3 u6 T (cat rs)) := by
            have := HOW.out
            rw [HTD.out.1, HTD.out.2, ← HT.out] at this
            exact this
          obtain ⟨A, c, rfl⟩ := own_shape HO.out
          clear HOW
          go_wp2_with fail
          go_ret
          exact ⟨⟨A, c, by rw [← HT.out]; rfl, by rw [← HT.out]; exact HO.out⟩, HBW.out⟩

set_option maxHeartbeats 400000 in
theorem cloneK_any (w : World) (F : Nat → Prop) (ad : Addr) (C : List Value) (n c : Nat) (hC : C.length = n * 3) (hr : Cells w F (some ad) C) (h1 : ∀ u ∈ C, u.oneCell' = true) (hn : n ≤ 1000000) :
    Calls Try.prog 52 #[.slice (some ad) n c] w fun e w' => (∃ A c, e = .returned (.slice A n c) ∧ w'.ownsRow w.heap.size 55 3 (.slice A n c) n C) ∧ Below w.heap.size w w' := by
  obtain ⟨i0, z0, R⟩ := rowK
  have HR := Lib.hid R
  have HB : Hid (Below w.heap.size w (w.alloc (.cells #[] 55))) := (Below.refl _ _).alloc (Nat.le_refl _) _
  have HOWN : Hid ((w.alloc (.cells #[] 55)).ownsRow w.heap.size 55 3 (.slice (some ⟨w.heap.size, 0, none⟩) 0 0) 0 []) :=
    ⟨by simp, .inr ⟨w.heap.size, 0, #[], rfl, Nat.le_refl _, heap_alloc_new w _, Nat.le_refl _, by unfold maxLen; omega, by simp, by simp⟩⟩
  have HC := Lib.hid (hr.below HB.out)
  have hnil : ∀ (W : World) (A : Option Addr) (n c : Nat), (binOp .eql 53 (.slice A n c) (.slice none 0 0)).run Try.prog W = .ok (.bool A.isNone) W := fun W A n c => Lib.run_eql_slice_nil (P := Try.prog) W 53 55 A n c 0 0 Try.underlying53
  clear R hr
  go_enter Try.func52, Try.ntmps52
  go_wp2_with (refine wpList_append_cells HR.out rfl (.tmp 5) (.tmp 6) rfl F w.heap.size _ _ _ rfl HOWN.out (some ad) C n c rfl hC HC.out h1 (by omega) (by omega) (by simp) ?_)
  intro v' w1 hown hg
  have HB1 : Hid (Below w.heap.size w w1) := below_grown HB.out (by simp) HOWN.out hg

  obtain ⟨A, c', rfl⟩ := own_shape hown
  have HO := Lib.hid hown
  clear hown hg
  go_wp2_with fail
  go_ret
  exact ⟨⟨A, c', rfl, HO.out⟩, HB1.out⟩

/-- rows of what pages have, joined -/
theorem joinK (h : Nat) (W : World) (F : Nat → Prop) (hF : ∀ b, F b → b < W.heap.size) (B d dc : Nat) (ls : List (Option Addr × List (El (h + 1)) × Nat)) (N : Nat) (hd : ls.length = d) (hdm : d ≤ 1000) (hB : B < W.heap.size)
    (hc : ∀ j (hj : j < ls.length), W.cell? ⟨B, 0 + j, none⟩ = some (.slice ls[j].1 ls[j].2.1.length ls[j].2.2)) (hok : ∀ r ∈ ls, Cells W F r.1 (rowCells (h + 1) r.2.1)) (hN : ((ls.map fun r => r.2.1).flatten).length = N) (hm : N ≤ 1000000) :
    Calls Try.prog 61 #[.slice (some ⟨B, 0, none⟩) d dc] W fun e w' => (∃ A c, e = .returned (.slice A N c) ∧ Cells w' F A (rowCells (h + 1) (ls.map fun r => r.2.1).flatten) ∧ N ≤ c) ∧ Below W.heap.size W w' := by
  have e1 : tot (ls.map fun r => ((r.1, r.2.1.length, r.2.2, rowCells (h + 1) r.2.1) : RowV)) = N := by
    rw [← hN, List.length_flatten, List.map_map]
    unfold tot
    rw [List.map_map]
    rfl
  have e2 : cat (ls.map fun r => ((r.1, r.2.1.length, r.2.2, rowCells (h + 1) r.2.1) : RowV)) = rowCells (h + 1) (ls.map fun r => r.2.1).flatten := by
    unfold cat
    rw [List.map_map]
    clear hN e1 hok hc hd
    induction ls with
    | nil => rfl
    | cons r ls ih =>
      rw [List.map_cons, List.flatten_cons, List.map_cons, List.flatten_cons, rowCells_append, ih]
      rfl
  have := concatK_any W F B 0 d dc (ls.map fun r => ((r.1, r.2.1.length, r.2.2, rowCells (h + 1) r.2.1) : RowV)) (by rw [List.length_map]; exact hd) hdm hB (fun j hj => by
    rw [List.length_map] at hj
    rw [hc j hj, List.getElem_map]
    rfl) (fun r hr => by
    obtain ⟨q, hq, rfl⟩ := List.mem_map.1 hr
    exact ⟨hok q hq, rowCells_length (h + 1) q.2.1, rowCells_one (h + 1) q.2.1⟩) (by rw [e1]; exact hm)
  rw [e1, e2] at this
  refine this.mono ?_
  rintro e w' ⟨⟨A, c, rfl, hown⟩, hb⟩
  obtain ⟨h2, h3⟩ := own_cells hown
  exact ⟨⟨A, c, rfl, h2.moved (.refl _ _) (fun i hi => .inl (hF i hi)), h3⟩, hb⟩
end Go.Proofs.Ytaeocbgmoijedaa
