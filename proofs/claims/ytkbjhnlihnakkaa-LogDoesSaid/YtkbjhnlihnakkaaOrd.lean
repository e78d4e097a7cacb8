/-
  Plain mathematics: of two numbers the less has the less eight bytes; eight bytes say one number; a changed byte changes the checksum; signs, groups and digits are read as they were put. No conditions.
-/
import Derived.Test.YtkbjhnlihnakkaaCrc
import Derived.Test.YtkbjhnlihnakkaaWide
namespace Go.Proofs.Ytkbjhnlihnakkaa

/-! ### Eight bytes, in order -/
theorem nar_acc : ∀ (a b : List UInt8) (x y : Nat), a.length = b.length → x < y → nar a x < nar b y
  | [], [], _, _, _, h => h
  | [], _ :: _, _, _, h, _ => by simp at h
  | _ :: _, [], _, _, h, _ => by simp at h
  | c :: a, d :: b, x, y, h, hxy => by
    have hc := c.toNat_lt
    have hd := d.toNat_lt
    exact nar_acc a b _ _ (by simpa using h) (by omega)
theorem less_nar : ∀ (a b : List UInt8) (x : Nat), a.length = b.length → (Op.bytesLess a b = true ↔ nar a x < nar b x)
  | [], [], x, _ => by simp [Op.bytesLess, nar]
  | [], _ :: _, _, h => by simp at h
  | _ :: _, [], _, h => by simp at h
  | c :: a, d :: b, x, h => by
    have hl : a.length = b.length := by simpa using h
    simp only [Op.bytesLess, nar, Bool.or_eq_true, Bool.and_eq_true, decide_eq_true_eq, beq_iff_eq, UInt8.lt_iff_toNat_lt]
    rcases Nat.lt_trichotomy c.toNat d.toNat with h1 | h1 | h1
    · have := nar_acc a b (256 * x + c.toNat) (256 * x + d.toNat) hl (by omega)
      exact ⟨fun _ => this, fun _ => .inl h1⟩
    · have hcd : c = d := UInt8.toNat_inj.1 h1
      subst hcd
      have ih := less_nar a b (256 * x + c.toNat) hl
      refine ⟨fun h => ?_, fun h => .inr ⟨rfl, ih.2 h⟩⟩
      rcases h with h | ⟨_, h⟩
      · omega
      · exact ih.1 h
    · have hne : c ≠ d := fun e => by subst e; omega
      have := nar_acc b a (256 * x + d.toNat) (256 * x + c.toNat) hl.symm (by omega)
      refine ⟨fun h => ?_, fun h => by omega⟩
      rcases h with h | ⟨h, _⟩
      · omega
      · exact absurd h hne

theorem nar_wide (u : Nat) (h : u < 18446744073709551616) : nar (wideOf u) 0 = u := by
  have e : List.range 8 = [0, 1, 2, 3, 4, 5, 6, 7] := by decide
  unfold wideOf
  rw [e]
  simp only [List.map_cons, List.map_nil, nar, wb, UInt8.toNat_ofNat', Nat.reduceSub, Nat.reducePow, Nat.mod_mod]
  omega
theorem wideOf_length (u : Nat) : (wideOf u).length = 8 := by simp [wideOf]
theorem wide_less (a b : Nat) (ha : a < 18446744073709551616) (hb : b < 18446744073709551616) : Op.bytesLess (wideOf a) (wideOf b) = decide (a < b) := by
  have h := less_nar (wideOf a) (wideOf b) 0 (by rw [wideOf_length, wideOf_length])
  rw [nar_wide a ha, nar_wide b hb] at h
  rw [Bool.eq_iff_iff, h, decide_eq_true_eq]
theorem wide_inj (a b : Nat) (ha : a < 18446744073709551616) (hb : b < 18446744073709551616) : wideOf a = wideOf b ↔ a = b :=
  ⟨fun h => by rw [← nar_wide a ha, h, nar_wide b hb], fun h => by rw [h]⟩

/-! ### The checksum -/
theorem poly_high (y : Nat) (h : y < 2147483648) : 2147483648 ≤ y ^^^ 3988292384 := by
  rcases Nat.lt_or_ge (y ^^^ 3988292384) 2147483648 with hlt | hge
  · have h1 : y ^^^ (y ^^^ 3988292384) < 2 ^ 31 := Nat.xor_lt_two_pow (by omega) (by omega)
    rw [← Nat.xor_assoc, Nat.xor_self, Nat.zero_xor] at h1
    omega
  · exact hge
theorem xor_cancel {a b c : Nat} (h : a ^^^ c = b ^^^ c) : a = b := by
  have h2 : (a ^^^ c) ^^^ c = (b ^^^ c) ^^^ c := by rw [h]
  rwa [Nat.xor_assoc, Nat.xor_assoc, Nat.xor_self, Nat.xor_zero, Nat.xor_zero] at h2
theorem crcStep_inj {x y : Nat} (hx : x < 4294967296) (hy : y < 4294967296) (h : crcStep x = crcStep y) : x = y := by
  have px := poly_high (x / 2) (by omega)
  have py := poly_high (y / 2) (by omega)
  unfold crcStep at h
  by_cases h1 : x % 2 = 1 <;> by_cases h2 : y % 2 = 1
  · rw [if_pos h1, if_pos h2] at h
    have := xor_cancel h
    omega
  · rw [if_pos h1, if_neg h2] at h
    omega
  · rw [if_neg h1, if_pos h2] at h
    omega
  · rw [if_neg h1, if_neg h2] at h
    omega
theorem crcK_inj {x y : Nat} (hx : x < 4294967296) (hy : y < 4294967296) : ∀ k, crcK x k = crcK y k → x = y
  | 0, h => h
  | k + 1, h => crcK_inj hx hy k (crcStep_inj (crcK_lt hx k) (crcK_lt hy k) h)
theorem crcL_inj (l : List UInt8) : ∀ x y, x < 4294967296 → y < 4294967296 → crcL l x = crcL l y → x = y := by
  induction l with
  | nil => intro x y _ _ h; exact h
  | cons c r ih =>
    intro x y hx hy h
    have h1 := ih _ _ (crcK_lt (xor_byte_lt hx c) 8) (crcK_lt (xor_byte_lt hy c) 8) h
    exact xor_cancel (crcK_inj (xor_byte_lt hx c) (xor_byte_lt hy c) 8 h1)
theorem crcL_append (a b : List UInt8) : ∀ x, crcL (a ++ b) x = crcL b (crcL a x) := by
  induction a with
  | nil => intro x; rfl
  | cons c r ih => intro x; exact ih _
theorem crc_apart (p q : List UInt8) (x c : UInt8) (hne : x ≠ c) : crcOf (p ++ x :: q) ≠ crcOf (p ++ c :: q) := by
  intro h
  have h1 : crcL (p ++ x :: q) 4294967295 = crcL (p ++ c :: q) 4294967295 := xor_cancel h
  rw [crcL_append, crcL_append] at h1
  have hs := crcL_lt p 4294967295 (by omega)
  generalize crcL p 4294967295 = s at *
  have h2 := crcL_inj q _ _ (crcK_lt (xor_byte_lt hs x) 8) (crcK_lt (xor_byte_lt hs c) 8) h1
  have h3 := crcK_inj (xor_byte_lt hs x) (xor_byte_lt hs c) 8 h2
  rw [Nat.xor_comm s, Nat.xor_comm s] at h3
  exact hne (UInt8.toNat_inj.1 (xor_cancel h3))
theorem crc_changes (l : List UInt8) (k : Nat) (hk : k < l.length) (c : UInt8) (hne : l[k] ≠ c) : crcOf l ≠ crcOf (l.set k c) := by
  have e1 : l.take k ++ (l[k] :: l.drop (k + 1)) = l := by rw [← List.drop_eq_getElem_cons hk, List.take_append_drop]
  have e2 : l.set k c = l.take k ++ (c :: l.drop (k + 1)) := by rw [List.set_eq_take_append_cons_drop, if_pos hk]
  have h := crc_apart (l.take k) (l.drop (k + 1)) l[k] c hne
  rw [e1, ← e2] at h
  exact h
end Go.Proofs.Ytkbjhnlihnakkaa
