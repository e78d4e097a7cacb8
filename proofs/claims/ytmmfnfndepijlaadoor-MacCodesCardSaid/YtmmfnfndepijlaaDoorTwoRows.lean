/-
  Two rows of the call's own that grow side by side. No program is named here.
-/
import Derived.Test.YtmmfnfndepijlaaDoorStep
namespace Go.Proofs.YtmmfnfndepijlaaDoor
open Go.RowKit

/-- va shows a, vb shows b, each in a row of its own, made behind w0 -/
def Rows2 (e : TypeId) (w0 : World) (a b : List UInt8) (va vb : Value) (w : World) : Prop :=
  w.ownsRow w0.heap.size e 1 va a.length (a.map bv) ∧ w.ownsRow w0.heap.size e 1 vb b.length (b.map bv) ∧ (∀ g, va.ownBlock = some g → vb.ownBlock ≠ some g) ∧ Below w0.heap.size w0 w

section
variable {e : TypeId} {w0 w w' : World} {a b : List UInt8} {va vb : Value}
theorem Rows2.symm (h : Rows2 e w0 a b va vb w) : Rows2 e w0 b a vb va w := ⟨h.2.1, h.1, fun g h1 h2 => h.2.2.1 g h2 h1, h.2.2.2⟩
theorem Rows2.nil (e : TypeId) (w : World) : Rows2 e w [] [] (.slice none 0 0) (.slice none 0 0) w :=
  ⟨World.ownsRow_nil _ _ _ _, World.ownsRow_nil _ _ _ _, fun g h => by simp [Value.ownBlock] at h, Below.refl _ _⟩
theorem Rows2.made (h : Rows2 e w0 a b va vb w) : Made e w0 a va w := ⟨h.1, h.2.2.2⟩
theorem Rows2.size (h : Rows2 e w0 a b va vb w) : w0.heap.size ≤ w.heap.size := h.2.2.2.size
theorem Rows2.drew (h : Rows2 e w0 a b va vb w) : Rows2 e w0 a b va vb w.drew := ⟨h.1.drew, h.2.1.drew, h.2.2.1, h.2.2.2.drew⟩
/-- the first has grown, in its row or in a new one -/
theorem Rows2.grow {a' : List UInt8} {va' : Value} (h : Rows2 e w0 a b va vb w) (hown : w'.ownsRow w0.heap.size e 1 va' a'.length (a'.map bv)) (hg : w.grownBy w' va.ownBlock) (hat : va'.ownBlock = va.ownBlock ∨ ∃ g, va'.ownBlock = some g ∧ w.heap.size ≤ g) :
    Rows2 e w0 a' b va' vb w' := by
  have hvb : ∀ g, vb.ownBlock = some g → g < w.heap.size := fun g hg => (h.2.1.lt g hg).2
  refine ⟨hown, h.2.1.kept hg ?_, fun g h1 h2 => ?_, below_grown h.2.2.2 h.size h.1 hg⟩
  · rcases hv : vb.ownBlock with _ | g
    · exact .inl rfl
    · exact .inr fun e => h.2.2.1 g e.symm hv
  · rcases hat with hat | ⟨g', hat, hge⟩
    · exact h.2.2.1 g (hat ▸ h1) h2
    · rw [hat] at h1
      injection h1 with h1
      have := hvb g h2
      omega
theorem Made.below {l : List UInt8} {v : Value} (h : Made e w0 l v w) (hb : Below w.heap.size w w') : Made e w0 l v w' :=
  ⟨h.1.kept (only_of_below hb none) (by cases v.ownBlock <;> simp), hop h.2 hb⟩
end

/-- 'append(x, y)', one byte: the byte has been laid into a new block -/
theorem wpList_append_row1 {P : Program} (w : World) {ops : Array Oper} {rest : List Oper} {o : Oper} {ac : Act} {Q : Exit → Act → World → Prop} (hgd : o.guard = none) (s x : Operand) (t : TypeId)
    (ho : o.op = .call { callee := .builtin .append, args := #[s, x], argTypes := #[t, t] })
    (e : TypeId) (i : TypeInfo) (z : Value) (ht : P.underlying t = some (.slice e)) (hi : P.info? e = some i) (hz : i.zero = some z)
    (hsize : i.size = 1) (hby : i.bytes = 1) (hzs : z.cells.size = 1)
    (w0 : World) (a b : List UInt8) (va vb : Value) (y : Int) (c : UInt8) (hs : ac.eval s = va) (hx : ac.eval x = .slice (some ⟨w.heap.size, 0, none⟩) 1 1)
    (H : Rows2 e w0 a b va vb w) (hy : y = (c.toNat : Int)) (hb : a.length + 1 ≤ 140737488355328)
    (h : ∀ v' w', Rows2 e w0 (a ++ [c]) b v' vb w' → wpList P ops Q rest (ac.put o.dst v') w') :
    wpList P ops Q (o :: rest) ac (w.alloc (.cells #[.int .u8 y] e)) := by
  subst hy
  have hB := H.size
  refine wpList_append_own_at (w.alloc (.cells #[.int .u8 (c.toNat : Int)] e)) hgd s x t ho w0.heap.size e i z 1 1 ht hi hz hsize hby hzs (by decide) va a.length (a.map bv) hs (H.1.alloc _) ⟨w.heap.size, 0, none⟩ 1 1 [.int .u8 (c.toNat : Int)] hx rfl (cell_one_new _ _ _) (by
    intro u hu
    simp at hu
    subst hu
    rfl) (by unfold maxLen; omega) (by omega) (by simp; omega) ?_
  intro v' w' hown hg _ hat
  refine h v' w' (H.grow ?_ ((World.grownBy_alloc w _ _).trans hg) ?_)
  · rw [List.length_append, List.map_append]; exact hown
  · rcases hat with hat | hat
    · exact .inl hat
    · exact .inr ⟨_, hat, by simp⟩
/-- 'append(x, l...)' -/
theorem wpList_append_rowN {P : Program} (w : World) {ops : Array Oper} {rest : List Oper} {o : Oper} {ac : Act} {Q : Exit → Act → World → Prop} (hgd : o.guard = none) (s x : Operand) (t : TypeId)
    (ho : o.op = .call { callee := .builtin .append, args := #[s, x], argTypes := #[t, t] })
    (e : TypeId) (i : TypeInfo) (z : Value) (ht : P.underlying t = some (.slice e)) (hi : P.info? e = some i) (hz : i.zero = some z)
    (hsize : i.size = 1) (hby : i.bytes = 1) (hzs : z.cells.size = 1)
    (w0 : World) (a b : List UInt8) (va vb : Value) (A : Option Addr) (l : List UInt8) (c : Nat) (hs : ac.eval s = va) (hx : ac.eval x = .slice A l.length c)
    (H : Rows2 e w0 a b va vb w) (hr : Seen w A l) (hb : a.length + l.length ≤ 140737488355328)
    (h : ∀ v' w', Rows2 e w0 (a ++ l) b v' vb w' → Below w0.heap.size w w' → wpList P ops Q rest (ac.put o.dst v') w') :
    wpList P ops Q (o :: rest) ac w := by
  refine wpList_append_seen w hgd s x t ho w0.heap.size e i z ht hi hz hsize hby hzs va a.length (a.map bv) hs H.1 A l c hx hr hb H.size ?_
  intro v' w' hown hg hat
  refine h v' w' (H.grow ?_ hg ?_) (below_grown (Below.refl _ _) H.size H.1 hg)
  · rw [List.length_append, List.map_append]; exact hown
  · rcases hat with hat | hat
    · exact .inl hat
    · exact .inr ⟨_, hat, Nat.le_refl _⟩
end Go.Proofs.YtmmfnfndepijlaaDoor
