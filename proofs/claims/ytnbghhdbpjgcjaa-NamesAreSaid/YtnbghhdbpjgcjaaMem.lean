/-
  The words by which the walks of this seat speak of bytes in memory: a slice that shows a list of bytes, and how that is kept. No conditions: no program is named here.
-/
import Derived.WalkKit
import Derived.Below
import Derived.Deep.OwnRows
import Derived.Deep.Draws
import Derived.Lib.Hide
import Derived.Laws.IdiomStrings
import Derived.Laws.BytesArg
namespace Go.Proofs.Ytnbghhdbpjgcjaa
open Go.RowKit

/-- The cell of a byte. -/
def bv (c : UInt8) : Value := .int .u8 (c.toNat : Int)

/-- A slice that begins at A shows the bytes l in world w (A may be anything where there are none). -/
def Seen (w : World) (A : Option Addr) (l : List UInt8) : Prop :=
  l = [] ∨ ∃ b off, A = some ⟨b, off, none⟩ ∧ b < w.heap.size ∧ ∀ j (h : j < l.length), w.cell? ⟨b, off + j, none⟩ = some (.int .u8 (l[j].toNat : Int))

section
variable {w w' : World} {A : Option Addr} {l : List UInt8}

theorem Seen.nil (w : World) (A : Option Addr) : Seen w A [] := .inl rfl

theorem Seen.at_ (h : Seen w A l) {k : Nat} (hk : k < l.length) :
    ∃ b off, A = some ⟨b, off, none⟩ ∧ b < w.heap.size ∧ w.cell? ⟨b, off + k, none⟩ = some (.int .u8 (l[k].toNat : Int)) := by
  rcases h with rfl | ⟨b, off, rfl, hb, hc⟩
  · simp at hk
  · exact ⟨b, off, rfl, hb, hc k hk⟩

theorem Seen.keep (h : Seen w A l) (hs : w.heap.size ≤ w'.heap.size) (hk : ∀ b o, b < w.heap.size → w'.cell? ⟨b, o, none⟩ = w.cell? ⟨b, o, none⟩) : Seen w' A l := by
  rcases h with rfl | ⟨b, off, rfl, hb, hc⟩
  · exact .inl rfl
  · exact .inr ⟨b, off, rfl, by omega, fun j hj => (hk _ _ hb).trans (hc j hj)⟩

theorem Seen.below (h : Seen w A l) (hb : Below w.heap.size w w') : Seen w' A l :=
  h.keep hb.size fun b o hlt => hb.cell (p := ⟨b, o, none⟩) hlt

theorem Seen.alloc (h : Seen w A l) (o : Obj) : Seen (w.alloc o) A l :=
  h.below ((Below.refl _ _).alloc (Nat.le_refl _) o)

theorem add_plain (g o j : Nat) : (⟨g, o, none⟩ : Addr).add j = ⟨g, o + j, none⟩ := by
  unfold Addr.add; split <;> simp_all

theorem Seen.of_own {base n c : Nat} {e : TypeId} (h : w.ownsRow base e 1 (.slice A n c) n (l.map bv)) : Seen w A l ∧ n = l.length := by
  have hl : n = l.length := by have := h.1; simp at this; omega
  refine ⟨?_, hl⟩
  rcases Nat.eq_zero_or_pos n with h0 | h0
  · left; exact List.eq_nil_of_length_eq_zero (by omega)
  · rcases h.2 with ⟨_, hn⟩ | ⟨g, cap, cur, hv, hb, hg, _⟩
    · omega
    · injection hv with hA
      subst hA
      have hlt : g < w.heap.size := by
        rcases Nat.lt_or_ge g w.heap.size with hlt | hge
        · exact hlt
        · rw [Array.getElem?_eq_none hge] at hg; cases hg
      refine .inr ⟨g, 0, rfl, hlt, fun j hj => ?_⟩
      have := h.cells (g := g) rfl j (bv l[j]) (by simp [hj])
      rw [add_plain] at this
      exact this

theorem Seen.of_row {b n : Nat} {t : TypeId} {f : Nat → Value} (h : w.rowIs b t n f) (hn : l.length ≤ n) (hf : ∀ i (hi : i < l.length), f i = .int .u8 (l[i].toNat : Int)) : Seen w (some ⟨b, 0, none⟩) l :=
  .inr ⟨b, 0, rfl, h.lt, fun j hj => by rw [Nat.zero_add, h.cell (by omega), hf j hj]⟩

/-- 'string(x)' of a slice that shows l. -/
theorem Seen.text {P : Program} (h : Seen w A l) (src dst e : TypeId) (hs : P.underlying src = some (.slice e)) (he : P.underlying e = some (.int .u8)) (hd : P.underlying dst = some .string) (c : Nat) :
    (convert src dst (.slice A l.length c)).run P w = .ok (.string ⟨l.toArray⟩) w := by
  rcases h with rfl | ⟨b, off, rfl, _, hc⟩
  · rcases A with _ | a
    · rw [run_convert_bytes_nil w src e hs he _ _ dst hd]; rfl
    · exact run_convert_bytes_back w src dst e a c [] hs he hd (fun j hj => by simp at hj)
  · exact run_convert_bytes_back w src dst e _ c l hs he hd (fun j hj => by rw [add_plain]; exact hc j hj)
end

/-- Behind a call that leaves what was there: old cells and old marks. -/
theorem old_cells {W w1 : World} (hb : Below W.heap.size W w1) :
    (∀ b o, b < W.heap.size → w1.cell? ⟨b, o, none⟩ = W.cell? ⟨b, o, none⟩) ∧ (∀ b o, b < W.heap.size → w1.frozen? ⟨b, o, none⟩ = W.frozen? ⟨b, o, none⟩) :=
  ⟨fun b o h => hb.cell (p := ⟨b, o, none⟩) h, fun b o h => hb.frozen (p := ⟨b, o, none⟩) h⟩

theorem hop {a b c : World} (h : Below a.heap.size a b) (k : Below b.heap.size b c) : Below a.heap.size a c :=
  h.trans (k.mono h.size)

theorem below_drewN {B : Nat} {a w : World} (h : Below B a w) (n : Nat) : Below B a (w.drewN n) := ⟨h.os, h.tape, h.output, h.size, h.block⟩

theorem undrew {a w : World} (h : Below a.drew.heap.size a.drew w) : Below a.heap.size a w := ⟨h.os, h.tape, h.output, h.size, h.block⟩

theorem ret_int {k : IntKind} {a b : Int} (h : a = b) : Ending.returned (.int k a) = .returned (.int k b) := by rw [h]
end Go.Proofs.Ytnbghhdbpjgcjaa
