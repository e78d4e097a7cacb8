/-
  What the program's Mac comes to: the code, as a Lean function of the key and the bytes. Conditions: their lengths fit; the program's tables lie as their initialisers lay them.
-/
import Derived.Test.YtmmfnfndepijlaaDoorSumOf
namespace Go.Proofs.YtmmfnfndepijlaaDoor
open Go.RowKit

/-- the same, the length named apart -/
theorem sumOf_len (k : List UInt8) (A : Option Addr) (b : List UInt8) (n c : Nat) (w : World) (hbn : b.length = n) (hk : k.length = 64) (hs : Seen w A b) (hc : n ≤ c) (hn : n ≤ 70368744177600) (ht : Tabs w) :
    Calls Tryd.prog 15 #[.agg (k.map bv).toArray, .slice A n c] w fun e w' => ∃ A', e = .returned (.slice A' 32 32) ∧ Seen w' A' (shaL (k ++ b)) ∧ Below w.heap.size w w' := by
  subst hbn
  exact sumOf_any k A b c w hk hs hc hn ht
theorem mask54 (l : List UInt8) (w : World) (hl : l.length = 64) :
    Calls Tryd.prog 16 #[.agg (l.map bv).toArray, .int .u8 54] w fun e w' => e = .returned (.agg ((xorL 54 l).map bv).toArray) ∧ Below w.heap.size w w' := masked_any l 54 w hl
theorem mask92 (l : List UInt8) (w : World) (hl : l.length = 64) :
    Calls Tryd.prog 16 #[.agg (l.map bv).toArray, .int .u8 92] w fun e w' => e = .returned (.agg ((xorL 92 l).map bv).toArray) ∧ Below w.heap.size w w' := masked_any l 92 w hl

set_option maxRecDepth 100000 in
set_option maxHeartbeats 1000000 in
theorem mac_any (A : Option Addr) (key : List UInt8) (c : Nat) (B : Option Addr) (b : List UInt8) (d : Nat) (w : World) (hs : Seen w A key) (hc : key.length ≤ c) (hn : key.length ≤ 70368744177600)
    (hs' : Seen w B b) (hd : b.length ≤ d) (hn' : b.length ≤ 70368744177600) (ht : Tabs w) :
    Calls Tryd.prog 8 #[.slice A key.length c, .slice B b.length d] w fun e w' => ∃ A', e = .returned (.slice A' 32 32) ∧ Seen w' A' (macL key b) ∧ Below w.heap.size w w' := by
  have HS := Lib.hid hs
  have HS' := Lib.hid hs'
  have HT := Lib.hid ht
  clear hs hs' ht
  have z := zero64
  have HZL : Hid ((List.replicate 64 (0 : UInt8)).length = 64) := List.length_replicate
  generalize List.replicate 64 (0 : UInt8) = Z at z HZL
  obtain ⟨C, hC⟩ : ∃ C, C = (Z.map bv).toArray := ⟨_, rfl⟩
  rw [← hC] at z
  have HCL : Hid (C.size = 64) := by show _ = _; rw [hC]; simp [HZL.out]
  clear hC
  obtain ⟨F, hF⟩ : ∃ F, F = fillL (keyL key) := ⟨_, rfl⟩
  have HM : Hid (macL key b = shaL (xorL 92 F ++ shaL (xorL 54 F ++ b))) := by rw [hF]; rfl
  have HF64 : Hid (F.length = 64) := by show _ = _; rw [hF]; exact length_fillL (keyL_short key)
  have X54 : Hid ((xorL 54 F).length = 64) := by show _ = _; rw [length_xorL]; exact HF64.out
  have X92 : Hid ((xorL 92 F).length = 64) := by show _ = _; rw [length_xorL]; exact HF64.out
  have HE : Hid (Calls Tryd.prog 14 #[.slice A key.length c] w fun e w' => e = .returned (.agg (F.map bv).toArray) ∧ Below w.heap.size w w') := by
    rw [hF]; exact extended_any A key c w HS.out hc (by omega) HT.out
  clear hF
  rw [HM.out]
  have M54 := Lib.hid (fun w => mask54 F w HF64.out)
  have M92 := Lib.hid (fun w => mask92 F w HF64.out)
  have HFL : Hid ((F.map bv).length = 64) := by show _ = _; rw [List.length_map]; exact HF64.out
  have HF1 := Lib.hid (bv_one F)
  obtain ⟨R, hR⟩ : ∃ R, R = F.map bv := ⟨_, rfl⟩
  rw [← hR] at HE M54 M92 HFL HF1
  clear hR
  go_enter Tryd.func8, Tryd.ntmps8
  go_wp2_with fail
  refine HE.out.mono ?_
  rintro e w1 ⟨rfl, hb1⟩
  have B1 := Lib.hid hb1
  clear hb1 HE
  have G1 : Hid ((w1.alloc (.cells C 31)).heap[w1.heap.size]? = some (.cells C 31 (0, 0))) := heap_alloc_new w1 _
  have G2 : Hid (((w1.alloc (.cells C 31)).setRow w1.heap.size R.toArray).heap[w1.heap.size]? = some (.cells R.toArray 31 (0, 0))) := setRow_heap _ _ _ _ _ _ G1.out
  have B2 : Hid (Below w1.heap.size w1 ((w1.alloc (.cells C 31)).setRow w1.heap.size R.toArray)) := below_setRow ((Below.refl _ _).alloc (Nat.le_refl _) _) (Nat.le_refl _) _
  go_wp2_with (first
    | (refine wpList_store_row rfl 31 (.tmp 5) (.tmp 8) rfl w1.heap.size R.toArray rfl rfl 31 _ G1.out (by rw [info44]; simp [HFL.out]) (by simp [HFL.out, HCL.out]) HF1.out ?_)
    | (refine wpList_load_row rfl 31 (.tmp 5) rfl w1.heap.size rfl 31 R.toArray (0, 0) _ G2.out Tryd.underlying31 rfl (by rw [info44]; simp [HFL.out]) ?_))
  have LT : w1.heap.size < ((w1.alloc (.cells C 31)).setRow w1.heap.size R.toArray).heap.size := by simp
  generalize (w1.alloc (.cells C 31)).setRow w1.heap.size R.toArray = w2 at *
  clear G1
  refine (M54.out _).mono ?_
  rintro e w3 ⟨rfl, hb3⟩
  have G3 : Hid (w3.heap[w1.heap.size]? = some (.cells R.toArray 31 (0, 0))) := (hb3.block _ LT).trans G2.out
  have B3 := Lib.hid (hop (hop B1.out B2.out) hb3)
  have LT3 : w1.heap.size < w3.heap.size := Nat.lt_of_lt_of_le LT hb3.size
  clear hb3 G2 B2 M54 LT
  go_wp2_with fail
  refine (sumOf_len _ B b _ d _ rfl X54.out (HS'.out.below B3.out) hd hn' (HT.out.below B3.out)).mono ?_
  rintro e w4 ⟨A4, rfl, hs4, hb4⟩
  have G4 : Hid (w4.heap[w1.heap.size]? = some (.cells R.toArray 31 (0, 0))) := (hb4.block _ LT3).trans G3.out
  have B4 := Lib.hid (hop B3.out hb4)
  have S4 := Lib.hid hs4
  clear hs4 hb4 G3 B3 LT3
  have L32 : Hid ((shaL (xorL 54 F ++ b)).length = 32) := length_shaL _
  obtain ⟨I, hI⟩ : ∃ I, I = shaL (xorL 54 F ++ b) := ⟨_, rfl⟩
  have HI := Lib.hid hI
  rw [← hI] at L32 S4
  clear hI
  go_wp2_with (refine wpList_load_row rfl 31 (.tmp 5) rfl w1.heap.size rfl 31 R.toArray (0, 0) _ G4.out Tryd.underlying31 rfl (by rw [info44]; simp [HFL.out]) ?_)
  refine (M92.out _).mono ?_
  rintro e w5 ⟨rfl, hb5⟩
  have B5 := Lib.hid (hop B4.out hb5)
  have S5 := Lib.hid (S4.out.below hb5)
  clear hb5 B4 S4 G4
  go_wp2_with fail
  refine (sumOf_len _ A4 I 32 32 _ L32.out X92.out S5.out (Nat.le_refl _) (by omega) (HT.out.below B5.out)).mono ?_
  rintro e w6 ⟨A6, rfl, hs6, hb6⟩
  have B6 := Lib.hid (hop B5.out hb6)
  have S6 := Lib.hid hs6
  clear hs6 hb6
  go_wp2_with fail
  go_ret
  exact ⟨A6, rfl, by rw [← HI.out]; exact S6.out, B6.out⟩
end Go.Proofs.YtmmfnfndepijlaaDoor
