/-
  The walk of the statement TreeOrders: pairs that are put in two orders. Condition: the slice of calls has its length at most its capacity; the number fits 64 bits.
-/
import Derived.Test.YtaeocbgmoijedaaTrOrdL
namespace Go.Proofs.Ytaeocbgmoijedaa
open Go.RowKit

/-- two trees, of keys that were put in two orders -/
def Pair2 (w : World) (g1 g2 : Nat) (wr : World) (a b : List Kv) (n m : Nat) : Prop :=
  Below w.heap.size w wr ∧ (TreeAt wr (fun x => x = g1 ∨ x = g2) g1 1000000 a ∧ TreeAt wr (fun x => x = g1 ∨ x = g2) g2 1000000 b) ∧ Fits a n ∧ Fits b m

set_option maxHeartbeats 4000000 in
set_option maxRecDepth 100000 in
theorem treeOrders_walk (A : Option Addr) (l : List TOp) (c : Nat) (a1 : Int) (w : World) (hl : l.length ≤ 9223372036854775807) (hs : TsSeen w A l) (hcap : l.length ≤ c) (b1l : -9223372036854775808 ≤ a1) (b1h : a1 ≤ 9223372036854775807) :
    Calls Try.prog 7 #[.slice A l.length c, .int .i64 a1] w fun e w' => e = .returned (.bool true) ∧ Below w.heap.size w w' := by
  have HAW := Lib.hid (awake_any w)
  have HS := Lib.hid hs
  obtain ⟨n, hn⟩ : ∃ n, n = l.length := ⟨_, rfl⟩
  rw [← hn] at hl hcap ⊢
  have HN := Lib.hid hn
  have HCAP := Lib.hid hcap
  clear hs hn
  go_enter Try.func7, Try.ntmps7
  go_wp2_with fail
  with_reducible refine HAW.out.mono ?_
  rintro e w1 ⟨rfl, hb1⟩
  have B1 := Lib.hid hb1
  have S1 : Hid (TsSeen w1 A l) := HS.out.below hb1
  clear hb1 HAW
  go_wp2_with fail
  with_reducible refine (few_any A l n c w1 S1.out HN.out.symm).mono ?_
  rintro e w1' ⟨rfl, rfl⟩
  obtain ⟨fb, hfb⟩ : ∃ fb, fb = fewB l := ⟨_, rfl⟩
  rw [← hfb]
  have HFW := Lib.hid hfb
  clear hfb
  go_wp2_with fail
  with_reducible refine (new_any w1 1000000).mono ?_
  rintro e w2 ⟨rfl, hb2, hsz2, ht2⟩
  have T2 := Lib.hid (ht2 (fun x => x = w1.heap.size ∨ x = w2.heap.size) (.inl rfl))
  have B2 := Lib.hid (hop B1.out hb2)
  have HGW : Hid (w.heap.size ≤ w1.heap.size) := B1.out.size
  have HNE : Hid (w1.heap.size ≠ w2.heap.size) := by show _ ≠ _; omega
  have HGW2 : Hid (w.heap.size ≤ w2.heap.size) := B2.out.size
  clear hsz2 ht2 hb2
  obtain ⟨g1, hg⟩ : ∃ g, g = w1.heap.size := ⟨_, rfl⟩
  rw [← hg] at T2 HGW HNE ⊢
  clear hg
  go_wp2_with fail
  with_reducible refine (new_any w2 1000000).mono ?_
  rintro e w3 ⟨rfl, hb3, hsz3, ht3⟩
  have T3 := Lib.hid (ht3 (fun x => x = g1 ∨ x = w2.heap.size) (.inr rfl))
  have T32 := Lib.hid (T2.out.below hb3)
  have B3 := Lib.hid (hop B2.out hb3)
  clear hsz3 ht3 hb3 T2
  obtain ⟨g2, hg⟩ : ∃ g, g = w2.heap.size := ⟨_, rfl⟩
  rw [← hg] at T3 T32 HGW2 HNE ⊢
  clear hg
  cases fb
  · go_wp2_with fail
    go_ret
    exact ⟨rfl, B3.out⟩
  by_cases c0 : a1 < 0
  · go_wp2_with fail
    go_ret
    exact ⟨rfl, B3.out⟩
  obtain ⟨k0, rfl⟩ : ∃ k0 : Nat, a1 = (k0 : Int) := ⟨a1.toNat, by omega⟩
  by_cases c1 : n ≤ k0
  · have c1' : (n : Int) ≤ (k0 : Int) := by omega
    go_wp2_with fail
    go_ret
    exact ⟨rfl, B3.out⟩
  have d0 : decide ((k0 : Int) < 0) = false := decide_eq_false c0
  have d1 : decide (n ≤ k0) = false := decide_eq_false c1
  have c1' : ¬ (n : Int) ≤ (k0 : Int) := by omega
  have d2 : decide ((n : Int) ≤ (k0 : Int)) = false := decide_eq_false c1'
  have M3 : Hid (Pair2 w g1 g2 w3 [] [] 0 0) := ⟨B3.out, ⟨T32.out, T3.out⟩, ⟨Wee.nil, Nat.le_refl _⟩, ⟨Wee.nil, Nat.le_refl _⟩⟩
  clear T3 T32 B3 B2 B1 S1 b1l b1h
  have hk0 : k0 < n := by omega
  go_wp2_with fail
  clear d0 d1 d2 c1' c0 c1
  have hn3 : n ≤ 300 := by have := (few_at HFW.out.symm).1; have := HN.out; omega
  go_loopg [9] n (fun kx s wr => ∃ (k : Nat), k + kx = n ∧ s = .int .i64 (k : Int) ∧ Pair2 w g1 g2 wr (putAll (keysOf (l.take k)) []) [] k 0)
  case atStart => exact ⟨0, by omega, rfl, M3.out⟩
  case round =>
    obtain ⟨k, hk, rfl, hm⟩ := hrel
    have HK := Lib.hid hk
    have TT : Hid (TreeAt wr (fun x => x = g1 ∨ x = g2) g1 1000000 (putAll (keysOf (l.take k)) [])) := hm.2.1.1
    have TU : Hid (TreeAt wr (fun x => x = g1 ∨ x = g2) g2 1000000 []) := hm.2.1.2
    have HFI : Hid (Fits (putAll (keysOf (l.take k)) []) k) := hm.2.2.1
    have BR : Hid (Below w.heap.size w wr) := hm.1
    clear M3 hm
    have HF2 : Hid (∀ W : World, wr.heap.size ≤ W.heap.size → ∀ b, (b = g1 ∨ b = g2) → b < W.heap.size) := fun W hW b hb => by
      rcases hb with rfl | rfl
      · exact Nat.lt_of_lt_of_le TT.out.lt hW
      · exact Nat.lt_of_lt_of_le TU.out.lt hW
    by_cases hlt : k < n
    · have hkl : (k : Int) < (n : Int) := by omega
      have hkn : k < l.length := by have := HN.out; omega
      obtain ⟨b, off, m, z, K, V, ck, cv, y, x, kd, kn, rfl, e1, e2, e3, e4, hym, hxz, hm1, hz1, e5, e6, hsy, hsx, hcl⟩ := HS.out.call HFW.out.symm k hkn
      obtain ⟨o0, o1, o2, o3⟩ := hcl wr BR.out
      have HCL := Lib.hid hcl
      have HYM := Lib.hid hym
      have SY := Lib.hid (hsy.below BR.out)
      have HNX : Hid (putAll (keysOf (l.take (k + 1))) [] = putL y y (putAll (keysOf (l.take k)) [])) := by show _ = _; rw [keys_take hkn, putAll_more, e1]
      have hwi : IntKind.i64.wrap ((k : Int) + 1) = ((k + 1 : Nat) : Int) := by rw [IntKind.wrap_i64]; omega
      obtain ⟨L, hL⟩ : ∃ L, L = putAll (keysOf (l.take k)) [] := ⟨_, rfl⟩
      rw [← hL] at TT HFI HNX
      have HPUT : Hid (∀ W, Below wr.heap.size wr W → Calls Try.prog 13 #[.pointer (some ⟨g1, 0, none⟩), .slice K m ck, .slice K m ck] W fun e w' => e = .returned (.int .i64 0) ∧ TreeAt w' (fun x => x = g1 ∨ x = g2) g1 1000000 (putL y y L) ∧ Spared W w' (fun b => b = g1)) := fun W hW =>
        put_roomy W _ (HF2.out W hW.size) g1 L K y m ck (TT.out.below hW) ⟨HFI.out.1, by have := HFI.out.2; omega⟩ (SY.out.below hW) HYM.out hm1
      have bd : Below wr.heap.size wr wr.drew := (Below.refl _ _).drew
      have HB : Hid (∀ W, Below w.heap.size w W → W.cell? ⟨b, off + k * 4 + 1, none⟩ = some (.slice K m ck)) := fun W hW => (HCL.out W hW).2.1
      have B4D : Below w.heap.size w wr.drew := BR.out.drew
      clear hcl hym hxz hsy hsx e1 e2 e3 e4 e5 e6 hkn o0 o1 o2 o3 hL
      go_upto_region 9 with fail
      go_region_held_law (fun W => W.cell? ⟨b, off + k * 4 + 1, none⟩ = some (.slice K m ck))
        (first | exact HB.out _ B4D | exact HB.out _ B7)
        ((go_at_call 13; (with_reducible refine (HPUT.out _ bd).mono ?_); rintro e w7 ⟨rfl, ht7, hs7⟩; have T7 := Lib.hid ht7; have B7 : Below w.heap.size w w7 := hs7.below B4D (fun j hj => by have := HGW.out; omega); have U7 := Lib.hid ((TU.out.below bd).moved (hs7.mono (fun b hb => ⟨.inl hb, by rw [hb]; exact HNE.out⟩)) (fun _ h => .inl h) (.inr rfl)); clear ht7 hs7))
      all_goals
        go_wp2_with fail
        go_roundg (n - (k + 1))
        case measure => have := HK.out; omega
        case rel => exact ⟨k + 1, by have := HK.out; omega, rfl, by rw [HNX.out]; exact ⟨B7, ⟨T7.out, U7.out⟩, HFI.out.put TT.out.srt (by have := HYM.out; omega) (by have := HYM.out; omega), ⟨Wee.nil, Nat.le_refl _⟩⟩⟩
    · obtain rfl : k = n := by have := HK.out; omega
      have hkl : ¬ (k : Int) < (k : Int) := by omega
      have HKA : Hid (l.take k = l) := by show _ = _; rw [HN.out, List.take_length]
      rw [HKA.out] at TT HFI
      obtain ⟨i0, z0, R⟩ := rowO
      have hcut1 := R.head A k c k0 (by omega)
      have hcut2 := R.tail A k c k0 (by omega)
      obtain ⟨A2, hA2⟩ : ∃ A2, A2 = if c = k0 then A else A.map (·.add (k0 * 4)) := ⟨_, rfl⟩
      obtain ⟨n2, hn2⟩ : ∃ n2, n2 = k - k0 := ⟨_, rfl⟩
      obtain ⟨c2, hc2⟩ : ∃ c2, c2 = c - k0 := ⟨_, rfl⟩
      rw [← hA2, ← hn2, ← hc2] at hcut2
      have hkl2 : k ≤ l.length := by have := HN.out; omega
      have CW : Hid (Cells wr (fun _ => False) A (opCells l)) := (HS.out.below BR.out).cells _ (fun _ h => h)
      have CD : Hid (Cells wr (fun _ => False) A2 (opCells (l.drop k0))) := by
        have := CW.out.drop k0 4 c (by rw [opCells_length]; have := HN.out; have := HCAP.out; omega)
        rw [opCells_drop, ← hA2] at this
        exact this
      have CT : Hid (Cells wr (fun _ => False) A (opCells (l.take k0))) := by
        have := CW.out.take (k0 * 4)
        rw [opCells_take] at this
        exact this
      have HLD : Hid ((opCells (l.drop k0)).length = n2 * 4) := by show _ = _; rw [opCells_length, List.length_drop, hn2, ← HN.out]
      have HLT : Hid ((opCells (l.take k0)).length = k0 * 4) := by show _ = _; rw [opCells_length, List.length_take]; have := HN.out; congr 1; omega
      have hsum : n2 + k0 = k := by omega
      have HSUM := Lib.hid hsum
      have HR := Lib.hid R
      have bd : Below wr.heap.size wr wr.drew := (Below.refl _ _).drew
      obtain ⟨D, hD⟩ : ∃ D, D = opCells (l.drop k0) := ⟨_, rfl⟩
      obtain ⟨E, hE⟩ : ∃ E, E = opCells (l.take k0) := ⟨_, rfl⟩
      rw [← hD] at CD HLD
      rw [← hE] at CT HLT
      have HD := Lib.hid hD
      have HE := Lib.hid hE
      have hn29 : n2 ≤ 300 := by omega
      have hk29 : n2 + k0 ≤ 300 := by omega
      have O1 := Lib.hid (fun (u : Value) (hu : u ∈ D) => opCells_one (l.drop k0) u (by rw [← HD.out]; exact hu))
      have O2 := Lib.hid (fun (u : Value) (hu : u ∈ E) => opCells_one (l.take k0) u (by rw [← HE.out]; exact hu))
      clear R hlt hA2 hn2 hc2 hkl2 hD hE hsum
      go_wp2_with fail
      go_region_held_law (fun _ => True)
        (first | trivial)
        (first
          | (refine step_append_cells HR.out rfl (.const (.slice none 0 0)) (.tmp 70) rfl (fun _ => False) wr.heap.size (.slice none 0 0) 0 [] (by simp [Act.eval]) (World.ownsRow_nil _ _ _ _) A2 D n2 c2 (by simp [Act.eval]) HLD.out (CD.out.below bd) O1.out (by omega) (by omega) bd.size ?_
             intro v6 w6 ho6 hg6
             rw [Nat.zero_add, List.nil_append] at ho6
             obtain ⟨A6, c6, rfl⟩ := own_shape ho6
             have O6 := Lib.hid ho6
             have B6 : Hid (Below wr.heap.size wr w6) := below_grown bd (Nat.le_refl _) (World.ownsRow_nil wr.drew wr.heap.size 33 4) hg6
             clear ho6 hg6)
          | (refine step_append_cells HR.out rfl (.tmp 71) (.tmp 74) rfl (fun _ => False) wr.heap.size (.slice A6 n2 c6) n2 D (by simp [Act.eval, Act.put]) O6.out A E k0 c (by simp [Act.eval, Act.put]) HLT.out (CT.out.below B6.out) O2.out (by omega) (by omega) B6.out.size ?_
             intro v7 w7 ho7 hg7
             have B7 : Hid (Below wr.heap.size wr w7) := below_grown B6.out B6.out.size O6.out hg7
             rw [HSUM.out, HD.out, HE.out, ← opCells_append] at ho7
             obtain ⟨A7, c7, rfl⟩ := own_shape ho7
             have O7 := Lib.hid ho7
             clear ho7 hg7))
      all_goals
        obtain ⟨M, hM⟩ : ∃ M, M = l.drop k0 ++ l.take k0 := ⟨_, rfl⟩
        have HML : Hid (M.length = k) := by show _ = _; rw [hM, List.length_append, List.length_drop, List.length_take]; have := HN.out; omega
        have HMF : Hid (true = fewB M) := by show _ = _; rw [hM]; exact (fewB_turn HFW.out.symm k0).symm
        have HMS : Hid (putAll (keysOf l) [] = putAll (backOf M 0) []) := by show _ = _; rw [hM]; exact turned_same l k0
        have HMO : Hid (∀ o ∈ M, TOk w o) := fun o ho => by
          rw [hM] at ho
          rcases List.mem_append.1 ho with ho | ho
          · exact HS.out.ok o (List.mem_of_mem_drop ho)
          · exact HS.out.ok o (List.mem_of_mem_take ho)
        have MC7 : Hid (Cells w7 (fun x => x = g1 ∨ x = g2) A7 (opCells M)) := by
          have h := (own_cells O7.out).1
          rw [← hM] at h
          exact h.moved (.refl _ _) (fun i hi => .inl (HF2.out wr (Nat.le_refl _) i hi))
        have B7W := Lib.hid (hop BR.out B7.out)
        obtain ⟨LL, hLL⟩ : ∃ LL, LL = putAll (keysOf l) [] := ⟨_, rfl⟩
        rw [← hLL] at TT HFI HMS
        have M7 : Hid (Pair2 w g1 g2 w7 LL [] k 0) := ⟨B7W.out, ⟨TT.out.below B7.out, TU.out.below B7.out⟩, HFI.out, ⟨Wee.nil, Nat.le_refl _⟩⟩
        have hwm : IntKind.i64.wrap ((k : Int) - 1) = (k : Int) - 1 := by rw [IntKind.wrap_i64]; omega
        clear hLL hM O7 CD CT CW HLD HLT HSUM HD HE O1 O2 HR TT TU HFI O6 HF2 HKA
        go_wp2_with fail
        go_loopg [11] k (fun kx s wr2 => s = .int .i64 ((kx : Int) - 1) ∧ kx ≤ k ∧ Pair2 w g1 g2 wr2 LL (putAll (backOf M kx) []) k (k - kx) ∧ Cells wr2 (fun x => x = g1 ∨ x = g2) A7 (opCells M))
        case atStart =>
          have hbe : putAll (backOf M k) [] = [] := by rw [← HML.out, back_end]; rfl
          refine ⟨rfl, Nat.le_refl _, ?_, MC7.out⟩
          rw [hbe, Nat.sub_self]
          exact M7.out
        case round =>
          obtain ⟨rfl, hle, hm, hmc⟩ := hrel
          have TT : Hid (TreeAt wr (fun x => x = g1 ∨ x = g2) g1 1000000 LL) := hm.2.1.1
          have TU : Hid (TreeAt wr (fun x => x = g1 ∨ x = g2) g2 1000000 (putAll (backOf M gk) [])) := hm.2.1.2
          have HFI : Hid (Fits LL k) := hm.2.2.1
          have HFJ : Hid (Fits (putAll (backOf M gk) []) (k - gk)) := hm.2.2.2
          have BR2 : Hid (Below w.heap.size w wr) := hm.1
          have MC := Lib.hid hmc
          clear M7 MC7 hm hmc
          have HF2 : Hid (∀ W : World, wr.heap.size ≤ W.heap.size → ∀ b, (b = g1 ∨ b = g2) → b < W.heap.size) := fun W hW b hb => by
            rcases hb with rfl | rfl
            · exact Nat.lt_of_lt_of_le TT.out.lt hW
            · exact Nat.lt_of_lt_of_le TU.out.lt hW
          cases gk with
          | succ j =>
            have hij : (((j + 1 : Nat) : Int)) - 1 = (j : Int) := by omega
            rw [hij]
            have hj0 : (0 : Int) ≤ (j : Int) := by omega
            have hjk : (j : Int) < (k : Int) := by omega
            have hwj : IntKind.i64.wrap ((j : Int) - 1) = (j : Int) - 1 := by rw [IntKind.wrap_i64]; omega
            have hjm : j < M.length := by have := HML.out; omega
            have MS : Hid (TsSeen wr A7 M) := .of_cells MC.out (fun o ho => (HMO.out o ho).below BR2.out)
            obtain ⟨b', off', hA', hb', hF', _⟩ := MC.out.at_ (j * 4) (by rw [opCells_length]; omega)
            obtain ⟨b, off, m, z, K, V, ck, cv, y, x, kd, kn, hA7, e1, e2, e3, e4, hym, hxz, hm1, hz1, e5, e6, hsy, hsx, hcl⟩ := MS.out.call HMF.out.symm j hjm
            rw [hA'] at hA7
            injection hA7 with hA8
            injection hA8 with hA9 hA10
            subst hA9 hA10 hA'
            obtain ⟨o0, o1, o2, o3⟩ := hcl wr (Below.refl _ _)
            have HYM := Lib.hid hym
            have SY := Lib.hid hsy
            have HNX : Hid (putAll (backOf M j) [] = putL y y (putAll (backOf M (j + 1)) [])) := by show _ = _; rw [back_step hjm, putAll_more, e1]
            obtain ⟨L, hL⟩ : ∃ L, L = putAll (backOf M (j + 1)) [] := ⟨_, rfl⟩
            rw [← hL] at TU HFJ HNX
            have HPUT : Hid (∀ W, Below wr.heap.size wr W → Calls Try.prog 13 #[.pointer (some ⟨g2, 0, none⟩), .slice K m ck, .slice K m ck] W fun e w' => e = .returned (.int .i64 0) ∧ TreeAt w' (fun x => x = g1 ∨ x = g2) g2 1000000 (putL y y L) ∧ Spared W w' (fun b => b = g2)) := fun W hW =>
              put_roomy W _ (HF2.out W hW.size) g2 L K y m ck (TU.out.below hW) ⟨HFJ.out.1, by have := HFJ.out.2; omega⟩ (SY.out.below hW) HYM.out hm1
            have bd : Below wr.heap.size wr wr.drew := (Below.refl _ _).drew
            have HB : Hid (∀ W, Spared wr W (fun x => x = g2) → W.cell? ⟨b', off' + j * 4 + 1, none⟩ = some (.slice K m ck)) := fun W hW =>
              (World.cell?_of_block (a := ⟨b', off' + j * 4 + 1, none⟩) (hW.block b' hb' (fun h => hF' (.inr h)))).trans o1
            have SD : Spared wr wr.drew (fun x => x = g2) := .of_below bd _
            have B4D : Below w.heap.size w wr.drew := BR2.out.drew
            clear hcl hym hxz hsy hsx e1 e2 e3 e4 e5 e6 hjm o0 o1 o2 o3 hL
            go_upto_region 15 with fail
            go_region_held_law (fun W => W.cell? ⟨b', off' + j * 4 + 1, none⟩ = some (.slice K m ck))
              (first | exact HB.out _ SD | exact HB.out _ SD8)
              ((go_at_call 13; (with_reducible refine (HPUT.out _ bd).mono ?_); rintro e w8 ⟨rfl, ht8, hs8⟩; have T8 := Lib.hid ht8; have SD8 : Spared wr w8 (fun x => x = g2) := SD.trans hs8 (fun _ h => .inl h); have B8 : Below w.heap.size w w8 := hs8.below B4D (fun j hj => by have := HGW2.out; omega); clear ht8 hs8))
            all_goals
              go_wp2_with fail
              go_roundg j
              case measure => omega
              case rel =>
                refine ⟨rfl, by omega, ⟨B8, ⟨TT.out.moved (SD8.mono (fun b hb => ⟨.inr hb, by rw [hb]; exact Ne.symm HNE.out⟩)) (fun _ h => .inl h) (.inl rfl), ?_⟩, HFI.out, ?_⟩, MC.out.moved (SD8.mono (fun _ h => .inr h)) (fun _ h => .inl h)⟩
                · rw [HNX.out]; exact T8.out
                · rw [HNX.out]
                  have := HFJ.out.put TU.out.srt (y := y) (v := y) (by have := HYM.out; omega) (by have := HYM.out; omega)
                  rw [show k - (j + 1) + 1 = k - j by omega] at this
                  exact this
          | zero =>
            rw [show ((0 : Nat) : Int) - 1 = -1 from rfl]
            rw [← HMS.out] at TU
            have HL3 : Hid (LL.length ≤ 300) := by show _ ≤ _; have := HFI.out.2; omega
            go_wp2_with fail
            with_reducible refine (scan_any wr _ g1 1000000 LL none none [] [] 0 0 0 0 1000 TT.out (Seen.nil _ _) rfl (Seen.nil _ _) rfl (by omega)).mono ?_
            rintro e w9 ⟨hb9, B09, acc9, v9, rfl, hB9, hf9, hacc9⟩
            rw [scan_all 1000 LL (by have := HL3.out; omega) (by omega)] at hacc9
            obtain ⟨A9, c9, rfl⟩ := hf9.form
            have F9 := Lib.hid hf9
            have ACC9 := Lib.hid hacc9
            have T9 := Lib.hid (TT.out.below hb9)
            have U9 := Lib.hid (TU.out.below hb9)
            have B9 := Lib.hid (hop BR2.out hb9)
            clear hf9 hacc9 hb9
            go_wp2_with fail
            with_reducible refine (scan_any w9 _ g2 1000000 LL none none [] [] 0 0 0 0 1000 U9.out (Seen.nil _ _) rfl (Seen.nil _ _) rfl (by omega)).mono ?_
            rintro e w10 ⟨hb10, B10, acc10, v10, rfl, hB10, hf10, hacc10⟩
            rw [scan_all 1000 LL (by have := HL3.out; omega) (by omega)] at hacc10
            obtain ⟨A10, c10, rfl⟩ := hf10.form
            have F10 := Lib.hid hf10
            have T10 := Lib.hid (T9.out.below hb10)
            have U10 := Lib.hid (U9.out.below hb10)
            have B10' := Lib.hid (hop B9.out hb10)
            have KA : Hid (KvSeen w10 A9 LL) := (F9.out.kv ACC9.out).below hb10
            have KB : Hid (KvSeen w10 A10 LL) := hf10.kv hacc10
            have hn9 : acc9.length = LL.length := kv_length ACC9.out
            have hn10 : acc10.length = LL.length := kv_length hacc10
            obtain ⟨nl, hnl⟩ : ∃ nl, nl = LL.length := ⟨_, rfl⟩
            rw [hn9, hn10, ← hnl]
            have hnl3 : nl ≤ 1000000 := by have := HL3.out; omega
            have HNL := Lib.hid hnl
            clear hf10 hacc10 hb10 F9 F10 hn9 hn10 hnl
            go_wp2_with fail
            with_reducible refine (pairs_same w10 A9 A10 LL nl c9 c10 HNL.out.symm hnl3 KA.out KB.out).mono ?_
            rintro e w11 ⟨rfl, hb11⟩
            have T11 := Lib.hid (T10.out.below hb11)
            have U11 := Lib.hid (U10.out.below hb11)
            have B11 := Lib.hid (hop B10'.out hb11)
            have HS1 := Lib.hid (size_any w11 _ g1 1000000 LL T11.out)
            have HS2 := Lib.hid (size_any w11 _ g2 1000000 LL U11.out)
            clear hb11
            generalize (sizeL LL : Int) = sz at HS1 HS2
            go_wp2_with fail
            with_reducible refine HS1.out.mono ?_
            rintro e w12 ⟨rfl, rfl⟩
            go_wp2_with fail
            with_reducible refine HS2.out.mono ?_
            rintro e w13 ⟨rfl, rfl⟩
            go_wp2_with fail
            with_reducible refine (tsound_any w13 _ g1 1000000 LL T11.out).mono ?_
            rintro e w14 ⟨rfl, hb14⟩
            have U14 := Lib.hid (U11.out.below hb14)
            have B14 := Lib.hid (hop B11.out hb14)
            clear hb14
            go_wp2_with fail
            with_reducible refine (tsound_any w14 _ g2 1000000 LL U14.out).mono ?_
            rintro e w15 ⟨rfl, hb15⟩
            have B15 := Lib.hid (hop B14.out hb15)
            clear hb15
            go_wp2_with fail
            go_ret
            exact ⟨rfl, B15.out⟩
end Go.Proofs.Ytaeocbgmoijedaa
