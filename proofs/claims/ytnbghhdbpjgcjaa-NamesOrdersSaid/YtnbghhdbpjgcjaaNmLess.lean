/-
  What the document's Less comes to. Condition: none.
-/
import Derived.Test.YtnbghhdbpjgcjaaNmTup
namespace Go.Proofs.Ytnbghhdbpjgcjaa
open Go.RowKit

def lessF : List Txt → List Txt → Bool
  | x :: xs, y :: ys => if x = y then lessF xs ys else Op.bytesLess x y
  | _, _ => false
theorem lessF_drop {X Y : List Txt} {k : Nat} (h1 : k < X.length) (h2 : k < Y.length) : lessF (X.drop k) (Y.drop k) = if X[k] = Y[k] then lessF (X.drop (k + 1)) (Y.drop (k + 1)) else Op.bytesLess X[k] Y[k] := by
  rw [List.drop_eq_getElem_cons h1, List.drop_eq_getElem_cons h2, lessF]
def six (t : Tup) : List Txt := [t.1, t.2.1, t.2.2.1, t.2.2.2.1, t.2.2.2.2.1, t.2.2.2.2.2]
set_option maxHeartbeats 800000 in
theorem refLess_any (a b c d f g a' b' c' d' f' g' : Txt) (w : World) :
    Calls Try.prog 26 #[.agg #[strV a, strV b, strV c, strV d, strV f, strV g], .agg #[strV a', strV b', strV c', strV d', strV f', strV g']] w fun e w' =>
      e = .returned (.bool (lessF [a, b, c, d, f, g] [a', b', c', d', f', g'])) ∧ Below w.heap.size w w' := by
  obtain ⟨X, hX⟩ : ∃ X : List Txt, X = [a, b, c, d, f, g] := ⟨_, rfl⟩
  obtain ⟨Y, hY⟩ : ∃ Y : List Txt, Y = [a', b', c', d', f', g'] := ⟨_, rfl⟩
  obtain ⟨v, hv⟩ : ∃ v, v = lessF X Y := ⟨_, rfl⟩
  rw [← hX, ← hY, ← hv]
  have HV := Lib.hid hv
  have hlX : X.length = 6 := by rw [hX]; rfl
  have hlY : Y.length = 6 := by rw [hY]; rfl
  obtain ⟨W0, hW⟩ : ∃ W0, W0 = (((w.alloc (.cells #[strV a, strV b, strV c, strV d, strV f, strV g] 33)).alloc (.cells #[strV a', strV b', strV c', strV d', strV f', strV g'] 33)).alloc
    (.cells #[strV a, strV b, strV c, strV d, strV f, strV g] 9)).alloc (.cells #[strV a', strV b', strV c', strV d', strV f', strV g'] 9) := ⟨_, rfl⟩
  have hbx : Blk W0 (w.heap.size + 1 + 1) (X.map strV) 9 := by
    have h := (Blk.new ((w.alloc (.cells #[strV a, strV b, strV c, strV d, strV f, strV g] 33)).alloc (.cells #[strV a', strV b', strV c', strV d', strV f', strV g'] 33)) (X.map strV) 9).alloc (.cells #[strV a', strV b', strV c', strV d', strV f', strV g'] 9)
    rw [hX] at h ⊢
    rw [hW]
    simpa using h
  have hby : Blk W0 (w.heap.size + 1 + 1 + 1) (Y.map strV) 9 := by
    have h := Blk.new (((w.alloc (.cells #[strV a, strV b, strV c, strV d, strV f, strV g] 33)).alloc (.cells #[strV a', strV b', strV c', strV d', strV f', strV g'] 33)).alloc
      (.cells #[strV a, strV b, strV c, strV d, strV f, strV g] 9)) (Y.map strV) 9
    rw [hY] at h ⊢
    rw [hW]
    simpa using h
  have hb0 : Below w.heap.size w W0 := by
    rw [hW]
    exact ((((Below.refl _ _).alloc (Nat.le_refl _) _).alloc (by simp) _).alloc (by simp; omega) _).alloc (by simp; omega) _
  have HBX := Lib.hid hbx
  have HBY := Lib.hid hby
  have HB0 := Lib.hid hb0
  have HLX := Lib.hid hlX
  have HLY := Lib.hid hlY
  have HW := Lib.hid hW
  clear hX hY hv hW hbx hby hb0 hlX hlY
  go_enter Try.func26, Try.ntmps26
  go_wp2_with fail
  rw [← HW.out]
  go_loopw [7] (fun i wr => ∃ k : Nat, k ≤ 6 ∧ i = .int .i64 k ∧ Hid (lessF (X.drop k) (Y.drop k) = v) ∧ Hid (Below W0.heap.size W0 wr)) (fun i _ => 6 - (intOf i).toNat)
  case atStart => exact ⟨0, by omega, rfl, Lib.hid HV.out.symm, Lib.hid (Below.refl _ _)⟩
  case round =>
    obtain ⟨k, hk, rfl, hall, BW⟩ := hrel
    by_cases hlt : k < 6
    · have hk1 : k < X.length := by rw [HLX.out]; exact hlt
      have hk2 : k < Y.length := by rw [HLY.out]; exact hlt
      have c1 := ((HBX.out.below BW.out HBX.out.lt).cell (i := k) (by simpa using hk1))
      have c2 := ((HBY.out.below BW.out HBY.out.lt).cell (i := k) (by simpa using hk2))
      rw [List.getElem_map] at c1 c2
      have ED := Lib.hid (lessF_drop hk1 hk2)
      obtain ⟨x, hx⟩ : ∃ x, x = X[k] := ⟨_, rfl⟩
      obtain ⟨y, hy⟩ : ∃ y, y = Y[k] := ⟨_, rfl⟩
      rw [← hx, ← hy] at ED
      rw [← hx] at c1
      rw [← hy] at c2
      clear hx hy
      by_cases hxy : x = y
      · have hq : (x == y) = true := beq_iff_eq.2 hxy
        have ET : Hid (lessF (X.drop (k + 1)) (Y.drop (k + 1)) = v) := by show _ = _; rw [← hall.out, ED.out, if_pos hxy]
        clear hxy ED
        go_wp2_with fail
        go_region
        go_wp2_with fail
        go_roundw
        case rel => exact ⟨k + 1, by omega, by go_num, ET, Lib.hid BW.out.drew⟩
        case measure => simp [intOf]; omega
      · have hq : (x == y) = false := beq_eq_false_iff_ne.2 hxy
        have hv : Op.bytesLess x y = v := by rw [← hall.out, ED.out, if_neg hxy]
        clear hxy ED
        have z1 : wr.drew.cell? ⟨w.heap.size + 1 + 1, k, none⟩ = some (strV x) := c1
        have z2 : wr.drew.cell? ⟨w.heap.size + 1 + 1 + 1, k, none⟩ = some (strV y) := c2
        go_wp2_with fail
        go_region
        go_wp2_with fail
        go_region
        go_wp2_with fail
        go_ret
        exact ⟨by first | rfl | rw [hv], HB0.out.trans (BW.out.drew.drew.mono HB0.out.size)⟩
    · obtain rfl : k = 6 := by omega
      have EF : Hid (v = false) := by show _ = _; rw [← hall.out, List.drop_of_length_le (by rw [HLX.out]; omega)]; rfl
      go_wp2_with fail
      go_ret
      exact ⟨by rw [EF.out]; rfl, HB0.out.trans (BW.out.mono HB0.out.size)⟩
end Go.Proofs.Ytnbghhdbpjgcjaa
