/-
  General words of layers 4 and 6: a row of bytes of the call's own, its length named apart; parts of slices of bytes. No program's function is named here but slices.Clone.
-/
import Derived.Test.YtkbjhnlihnakkaaRow
import Derived.Test.YtkbjhnlihnakkaaOnly
import Derived.Test.YtkbjhnlihnakkaaText
import Derived.Test.YtkbjhnlihnakkaaFlat
import Derived.Test.YtkbjhnlihnakkaaPut
import Derived.WalkLawsBesides
namespace Go.Proofs.Ytkbjhnlihnakkaa
open Go.RowKit

theorem Seen.byte {w : World} {A : Option Addr} {l : List UInt8} (h : Seen w A l) (k : Nat) (hk : k < l.length) : ∃ b off, A = some ⟨b, off, none⟩ ∧ w.cell? ⟨b, off + k, none⟩ = some (.int .u8 (l[k].toNat : Int)) := by
  obtain ⟨b, off, h1, _, h2⟩ := h.at_ hk
  exact ⟨b, off, h1, h2⟩

/-- a row of the call's own, its length named apart -/
def MadeN (e : TypeId) (w0 : World) (l : List UInt8) (A : Option Addr) (n c : Nat) (w : World) : Prop := l.length = n ∧ Made e w0 l (.slice A n c) w
/-- what was made behind a later world was made behind an earlier one -/
theorem Made.since {e : TypeId} {w0 w w' : World} {l : List UInt8} {v : Value} (h : Made e w l v w') (hb : Below w0.heap.size w0 w) : Made e w0 l v w' := by
  refine ⟨⟨h.1.1, ?_⟩, hop hb h.2⟩
  rcases h.1.2 with hn | ⟨g, cap, cur, hv, hg, rest⟩
  · exact .inl hn
  · exact .inr ⟨g, cap, cur, hv, Nat.le_trans hb.size hg, rest⟩
/-- the same row, behind what leaves all blocks but elder ones -/
theorem Made.finish {e : TypeId} {w w2 w3 w4 : World} {l : List UInt8} {v : Value} (h : Made e w2 l v w3) (hsz : w.heap.size ≤ w2.heap.size) (hs : Spared w3 w4 (fun b => b < w2.heap.size)) (hb : Below w.heap.size w w4) : Made e w l v w4 := by
  refine ⟨⟨h.1.1, ?_⟩, hb⟩
  rcases h.1.2 with hn | ⟨g, cap, cur, hv, hB, hg, rest⟩
  · exact .inl hn
  · have hlt : g < w3.heap.size := by
      rcases Nat.lt_or_ge g w3.heap.size with hlt | hge
      · exact hlt
      · rw [Array.getElem?_eq_none hge] at hg; cases hg
    exact .inr ⟨g, cap, cur, hv, Nat.le_trans hsz hB, (hs.block g hlt (by omega)).trans hg, rest⟩
theorem MadeN.seen {e : TypeId} {w0 w : World} {l : List UInt8} {A : Option Addr} {n c : Nat} (h : MadeN e w0 l A n c w) : Seen w A l := h.2.at_len.2
theorem Made.named {e : TypeId} {w0 w : World} {l : List UInt8} {v : Value} (h : Made e w0 l v w) : ∃ A n c, v = .slice A n c ∧ MadeN e w0 l A n c w := by
  obtain ⟨A, c, rfl, _⟩ := h.form
  exact ⟨A, l.length, c, rfl, rfl, h⟩
theorem cap_of {e : TypeId} {w0 w : World} {l : List UInt8} {A : Option Addr} {n c : Nat} (h : Made e w0 l (.slice A n c) w) : l.length ≤ c := by
  obtain ⟨A', c', e, _, hc⟩ := h.form_cap
  injection e with _ _ e
  omega

/-! parts of a slice -/
theorem cut_tail (A : Option Addr) (n c m : Nat) (hm : m ≤ n) (W : World) : (Instr.slice 22 (.slice A n c) (some (.int .i64 (m : Int))) none none).run Try.prog W = .ok (.slice (if c = m then A else A.map (·.add (m * 1))) (n - m) (c - m)) W := by
  have e2 : Try.prog.elem 22 = 5 := by kernel_rfl
  obtain ⟨i, hi, hz⟩ := Option.map_eq_some_iff.1 info8p
  simp only [Prod.mk.injEq] at hz
  rw [run_slice_l W 22 A n c (by kernel_rfl) .i64 (m : Int) (by omega) (by omega), e2]
  simp [sizeOf, typeInfo, hi, hz.2.1, sliced]
theorem cut_head (A : Option Addr) (n c m : Nat) (hm : m ≤ c) (W : World) : (Instr.slice 22 (.slice A n c) none (some (.int .i64 (m : Int))) none).run Try.prog W = .ok (.slice A m c) W := by
  have e2 : Try.prog.elem 22 = 5 := by kernel_rfl
  obtain ⟨i, hi, hz⟩ := Option.map_eq_some_iff.1 info8p
  simp only [Prod.mk.injEq] at hz
  rw [run_slice_h W 22 A n c (by kernel_rfl) .i64 (m : Int) (by omega) (by omega), e2]
  simp [sizeOf, typeInfo, hi, hz.2.1, sliced]
  intro _
  cases A with
  | none => rfl
  | some a =>
    show some (a.add 0) = some a
    rw [Addr.add_zero']
theorem cut_mid (A : Option Addr) (n c a b : Nat) (ha : a ≤ b) (hn : b ≤ c) (W : World) : (Instr.slice 22 (.slice A n c) (some (.int .i64 (a : Int))) (some (.int .i64 (b : Int))) none).run Try.prog W = .ok (.slice (if c = a then A else A.map (·.add (a * 1))) (b - a) (c - a)) W := by
  have e2 : Try.prog.elem 22 = 5 := by kernel_rfl
  obtain ⟨i, hi, hz⟩ := Option.map_eq_some_iff.1 info8p
  simp only [Prod.mk.injEq] at hz
  rw [run_slice_lh W 22 A n c (by kernel_rfl) .i64 .i64 (a : Int) (b : Int) (by omega) (by omega) (by omega), e2]
  simp [sizeOf, typeInfo, hi, hz.2.1, sliced]
theorem Seen.take {w : World} {A : Option Addr} {l : List UInt8} (h : Seen w A l) (m : Nat) : Seen w A (l.take m) := by
  rcases h with rfl | ⟨b, off, e, hb, hc⟩
  · exact .inl (by simp)
  · refine .inr ⟨b, off, e, hb, fun j hj => ?_⟩
    rw [List.length_take] at hj
    rw [hc j (by omega), List.getElem_take]
theorem Away.take {w : World} {F : Nat → Prop} {A : Option Addr} {l : List UInt8} (h : Away w F A l) (m : Nat) : Away w F A (l.take m) := by
  rcases h with rfl | ⟨b, off, e, hb, hF, hc⟩
  · exact .inl (by simp)
  · refine .inr ⟨b, off, e, hb, hF, fun j hj => ?_⟩
    rw [List.length_take] at hj
    rw [hc j (by omega), List.getElem_take]
theorem Away.drop {w : World} {F : Nat → Prop} {A : Option Addr} {l : List UInt8} (h : Away w F A l) (m c : Nat) (hc : l.length ≤ c) : Away w F (if c = m then A else A.map (·.add (m * 1))) (l.drop m) := by
  by_cases hm : l.length ≤ m
  · exact .inl (List.drop_eq_nil_of_le hm)
  · rcases h with rfl | ⟨b, off, rfl, hb, hF, hc'⟩
    · simp at hm
    · rw [if_neg (by omega)]
      refine .inr ⟨b, off + m, ?_, hb, hF, fun j hj => ?_⟩
      · rw [Nat.mul_one]; show some (Addr.add _ _) = _; rw [add_plain]
      · rw [List.length_drop] at hj
        rw [Nat.add_assoc, hc' (m + j) (by omega), List.getElem_drop]

theorem Away.mono {w : World} {F G : Nat → Prop} {A : Option Addr} {l : List UInt8} (h : Away w F A l) (hG : ∀ b, G b → F b) : Away w G A l :=
  h.moved (Spared.refl w F) (fun i hi => .inl (hG i hi))

/-- a part of what is shown, its address under a name -/
theorem Seen.tail_cut {w : World} {A : Option Addr} {l : List UInt8} (h : Seen w A l) (n c m : Nat) (x : Int) (hx : (m : Int) = x) (hn : l.length = n) (hm : m ≤ n) (hc : n ≤ c) :
    ∃ A', (∀ W, (Instr.slice 22 (.slice A n c) (some (.int .i64 x)) none none).run Try.prog W = .ok (.slice A' (n - m) (c - m)) W) ∧ Seen w A' (l.drop m) := by
  subst hx
  exact ⟨_, cut_tail A n c m hm, h.drop m c (by omega)⟩
theorem tail_cut_all (A : Option Addr) (l : List UInt8) (n c m : Nat) (x : Int) (hx : (m : Int) = x) (hn : l.length = n) (hm : m ≤ n) (hc : n ≤ c) :
    ∃ A', (∀ W, (Instr.slice 22 (.slice A n c) (some (.int .i64 x)) none none).run Try.prog W = .ok (.slice A' (n - m) (c - m)) W) ∧ ∀ w, Seen w A l → Seen w A' (l.drop m) := by
  subst hx
  exact ⟨_, cut_tail A n c m hm, fun w h => h.drop m c (by omega)⟩
theorem Seen.head_cut {w : World} {A : Option Addr} {l : List UInt8} (h : Seen w A l) (n c m : Nat) (x : Int) (hx : (m : Int) = x) (hn : l.length = n) (hm : m ≤ n) (hc : n ≤ c) :
    (∀ W, (Instr.slice 22 (.slice A n c) none (some (.int .i64 x)) none).run Try.prog W = .ok (.slice A m c) W) ∧ Seen w A (l.take m) ∧ (l.take m).length = m := by
  subst hx
  exact ⟨cut_head A n c m (by omega), h.take m, by rw [List.length_take]; omega⟩
theorem Seen.mid_cut {w : World} {A : Option Addr} {l : List UInt8} (h : Seen w A l) (n c a b N : Nat) (x y : Int) (hx : (a : Int) = x) (hy : (b : Int) = y) (hN : b - a = N) (hn : l.length = n) (hab : a ≤ b) (hb : b ≤ n) (hc : n ≤ c) :
    ∃ A' c', (∀ W, (Instr.slice 22 (.slice A n c) (some (.int .i64 x)) (some (.int .i64 y)) none).run Try.prog W = .ok (.slice A' N c') W) ∧ Seen w A' ((l.drop a).take N) ∧ ((l.drop a).take N).length = N := by
  subst hx hy hN
  refine ⟨_, _, cut_mid A n c a b hab (by omega), (h.drop a c (by omega)).take _, by rw [List.length_take, List.length_drop]; omega⟩

theorem clone_made (A : Option Addr) (l : List UInt8) (n c : Nat) (w : World) (hn : l.length = n) (hl : n ≤ 140737488351232) (hs : Seen w A l) :
    Calls Try.prog 60 #[.slice A n c] w fun e w' => ∃ A' c', e = .returned (.slice A' n c') ∧ Made 5 w l (.slice A' n c') w' := by
  subst hn
  refine (clone_any A l c w hl hs).mono ?_
  rintro e w' ⟨v, rfl, hm⟩
  obtain ⟨A', c', rfl, _⟩ := hm.form
  exact ⟨A', c', rfl, hm⟩
/-- a number in groups, behind nothing -/
theorem put_made (n : Nat) (w : World) (hn : n ≤ 9223372036854775807) :
    Calls Try.prog 46 #[.slice none 0 0, .int .i64 (n : Int)] w fun e w' => ∃ A m c, e = .returned (.slice A m c) ∧ MadeN 5 w (putL n) A m c w' := by
  refine (put_any none [] 0 n w (by decide) hn (.inl rfl)).mono ?_
  rintro e w' ⟨v, rfl, hm⟩
  exact hm.named.elim fun A ⟨m, c, h1, h2⟩ => ⟨A, m, c, by rw [h1], h2⟩
end Go.Proofs.Ytkbjhnlihnakkaa
