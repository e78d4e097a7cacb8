/-
  A row of k cells an element that is sorted by a 'less' which may lay blocks: the state of the memory while it is sorted, and what is asked of 'less' and 'swap'. No program is named.
-/
import Derived.Shelf.SlSortFuncK.PdqK
import Derived.Test.YtehabjiacgibpaaGreatCFlat
namespace Go.Proofs.YtehabjiacgibpaaGreat
open Go.Shelf Go.RowKit Go.Lib
section
variable {P : Program} {α : Type} [Inhabited α] {enc : α → List Value} {k : Nat} {w0 W w' : World} {blk off : Nat} {d dk : Array α}
structure SoAt (enc : α → List Value) (k : Nat) (w0 : World) (blk off : Nat) (d : Array α) (W : World) : Prop where
  grown : w0.grownBy W (some blk)
  holds : Sort.HoldsK enc k W blk off d
  lt : blk < w0.heap.size
theorem SoAt.start (h : Sort.HoldsK enc k w0 blk off d) (hb : blk < w0.heap.size) : SoAt enc k w0 blk off d w0 := ⟨World.grownBy.refl w0 _, h, hb⟩
theorem SoAt.there (h : SoAt enc k w0 blk off d W) : blk < W.heap.size := Nat.lt_of_lt_of_le h.lt h.grown.size
theorem holds_below (h : Sort.HoldsK enc k W blk off d) (hl : blk < W.heap.size) (hb : Below W.heap.size W w') : Sort.HoldsK enc k w' blk off d := fun j hj =>
  ⟨by rw [hb.cell (p := ⟨blk, off + j, none⟩) hl]; exact (h j hj).1, by rw [hb.frozen (p := ⟨blk, off + j, none⟩) hl]; exact (h j hj).2⟩
theorem SoAt.below (h : SoAt enc k w0 blk off d W) (hb : Below W.heap.size W w') : SoAt enc k w0 blk off d w' :=
  ⟨only_below h.grown hb, holds_below h.holds h.there hb, h.lt⟩
theorem holds_swap (hk : ∀ x, (enc x).length = k) (h : Sort.HoldsK enc k W blk off dk) {i j : Nat} (hi : i < dk.size) (hj : j < dk.size) :
    Sort.HoldsK enc k ((W.setCells blk (off + i * k) (enc dk[j]!)).setCells blk (off + j * k) (enc dk[i]!)) blk off (Sort.swp dk i j) := by
  have e := Sort.putRowK_swp enc k hk W blk off dk i j hi hj
  rw [Sort.putRowK_self enc k W blk off dk h] at e
  rw [e]
  exact Sort.holdsK_putRowK enc k W blk off dk _ h (Sort.size_swp _ _ _)
theorem SoAt.swap (hk : ∀ x, (enc x).length = k) (h : SoAt enc k w0 blk off dk W) {i j : Nat} (hi : i < dk.size) (hj : j < dk.size) :
    SoAt enc k w0 blk off (Sort.swp dk i j) ((W.setCells blk (off + i * k) (enc dk[j]!)).setCells blk (off + j * k) (enc dk[i]!)) :=
  ⟨only_setCells _ _ _ (only_setCells _ _ _ h.grown), holds_swap hk h.holds hi hj, h.lt⟩
theorem SoAt.setCell (h : SoAt enc k w0 blk off d W) {b : Nat} (hb : w0.heap.size ≤ b) (o : Nat) (v : Value) : SoAt enc k w0 blk off d (W.setCell ⟨b, o, none⟩ v) := by
  have hne : b ≠ blk := by have := h.lt; omega
  refine ⟨⟨h.grown.os, h.grown.tape, h.grown.output, by simpa [World.setCell] using h.grown.size, fun i hi hne2 => ?_⟩, fun j hj => ?_, h.lt⟩
  · rw [Below.heap_setCell _ _ _ _ (show i ≠ b by omega)]
    exact h.grown.block i hi hne2
  have e : (W.setCell ⟨b, o, none⟩ v).heap[blk]? = W.heap[blk]? := Below.heap_setCell _ _ _ _ (fun e => hne e.symm)
  have e1 := World.cell?_of_block (w := W) (w' := W.setCell ⟨b, o, none⟩ v) (a := ⟨blk, off + j, none⟩) e
  have e2 := World.frozen?_of_block (w := W) (w' := W.setCell ⟨b, o, none⟩ v) (a := ⟨blk, off + j, none⟩) e
  rw [e1, e2]
  exact h.holds j hj
def LessAt (P : Program) (g : Nat) (lb : Array Value) (enc : α → List Value) (k : Nat) (lt : α → α → Bool) (blk off size : Nat) (w0 : World) : Prop :=
  ∀ (W : World) (dk : Array α), SoAt enc k w0 blk off dk W → dk.size = size → ∀ i j : Nat, i < size → j < size →
    Calls P g (#[.int .i64 i, .int .i64 j] ++ lb) W fun e w' => e = .returned (.bool (lt dk[i]! dk[j]!)) ∧ Below W.heap.size W w'
structure SoHyp (P : Program) (enc : α → List Value) (k : Nat) (lt : α → α → Bool) (g : Nat) (lb : Array Value) (sf : Nat) (sb : Array Value) (blk off size : Nat) (w0 : World) : Prop where
  hk : ∀ x, (enc x).length = k
  eg : ∀ args w, (callFunc g args).run P w = .ok (.enter g args) w
  less : LessAt P g lb enc k lt blk off size w0
  swap : SwapSwapsK P sf sb enc k blk off size
  sz : size < 4611686018427387904
structure So (enc : α → List Value) (k g : Nat) (lb : Array Value) (sf : Nat) (sb : Array Value) (blk off size : Nat) (w0 W : World) (dk : Array α) (wr : World) : Prop where
  at_ : SoAt enc k w0 blk off dk wr
  len : dk.size = size
  own : W.grownBy wr (some blk)
  old : blk < W.heap.size
  c0 : wr.cell? ⟨W.heap.size, 0, none⟩ = some (.func (.func g) #[] lb)
  c1 : wr.cell? ⟨W.heap.size, 1, none⟩ = some (.func (.func sf) #[] sb)
  room : W.heap.size < wr.heap.size
variable {lt : α → α → Bool} {g : Nat} {lb : Array Value} {sf : Nat} {sb : Array Value} {size : Nat} {wr : World}
theorem So.start (h : SoAt enc k w0 blk off d W) (hs : d.size = size) (t : TypeId) : So enc k g lb sf sb blk off size w0 W d (W.alloc (.cells #[.func (.func g) #[] lb, .func (.func sf) #[] sb] t)) := by
  have hb := (Below.refl W.heap.size W).alloc (Nat.le_refl _) (.cells #[.func (.func g) #[] lb, .func (.func sf) #[] sb] t)
  exact ⟨h.below hb, hs, only_of_below hb _, h.there, by simp, by simp, by simp⟩
theorem So.below (h : So enc k g lb sf sb blk off size w0 W dk wr) (hb : Below wr.heap.size wr w') : So enc k g lb sf sb blk off size w0 W dk w' :=
  ⟨h.at_.below hb, h.len, only_below h.own hb, h.old, (hb.cell (p := ⟨W.heap.size, 0, none⟩) h.room).trans h.c0, (hb.cell (p := ⟨W.heap.size, 1, none⟩) h.room).trans h.c1, Nat.lt_of_lt_of_le h.room hb.size⟩
theorem So.moved (h : So enc k g lb sf sb blk off size w0 W dk wr) {d' : Array α} (hg : wr.grownBy w' (some blk)) (ha : SoAt enc k w0 blk off d' w') (hs : d'.size = dk.size) : So enc k g lb sf sb blk off size w0 W d' w' := by
  have hne : ∀ o, (some (⟨W.heap.size, o, none⟩ : Addr).block) ≠ some blk := fun o e => by
    injection e with e
    have := h.old
    change W.heap.size = blk at e
    omega
  exact ⟨ha, hs.trans h.len, only_trans h.own hg, h.old, hg.cell h.c0 (hne 0), hg.cell h.c1 (hne 1), Nat.lt_of_lt_of_le h.room hg.size⟩
theorem So.swap (H : SoHyp P enc k lt g lb sf sb blk off size w0) (h : So enc k g lb sf sb blk off size w0 W dk wr) {i j : Nat} (hi : i < size) (hj : j < size) :
    So enc k g lb sf sb blk off size w0 W (Sort.swp dk i j) ((wr.setCells blk (off + i * k) (enc dk[j]!)).setCells blk (off + j * k) (enc dk[i]!)) :=
  h.moved (only_setCells _ _ _ (only_setCells _ _ _ (World.grownBy.refl wr _))) (h.at_.swap H.hk (by rw [h.len]; exact hi) (by rw [h.len]; exact hj)) (Sort.size_swp _ _ _)
theorem So.swaps (H : SoHyp P enc k lt g lb sf sb blk off size w0) (h : So enc k g lb sf sb blk off size w0 W dk wr) {i j : Nat} (hi : i < size) (hj : j < size) :
    ∃ w2, (callFunc sf (#[.int .i64 i, .int .i64 j] ++ sb)).run P wr = .ok (.value (.tuple #[])) w2 ∧ So enc k g lb sf sb blk off size w0 W (Sort.swp dk i j) w2 :=
  ⟨_, H.swap wr dk h.at_.holds h.len i j hi hj, h.swap H hi hj⟩
theorem So.lessB (H : SoHyp P enc k lt g lb sf sb blk off size w0) (h : So enc k g lb sf sb blk off size w0 W dk wr) {i j : Nat} (hi : i < size) (hj : j < size) {v : Bool} (hv : lt dk[i]! dk[j]! = v) :
    Calls P g (#[.int .i64 i, .int .i64 j] ++ lb) wr fun e w' => e = .returned (.bool v) ∧ So enc k g lb sf sb blk off size w0 W dk w' :=
  (H.less wr dk h.at_ h.len i j hi hj).mono fun e w2 ⟨he, hb⟩ => ⟨by rw [he, hv], h.below hb⟩
theorem So.swapsI (H : SoHyp P enc k lt g lb sf sb blk off size w0) (h : So enc k g lb sf sb blk off size w0 W dk wr) {x y : Int} (i j : Nat) (ex : (i : Int) = x) (ey : (j : Int) = y) (hi : i < size) (hj : j < size) :
    ∃ w2, (callFunc sf (#[.int .i64 x, .int .i64 y] ++ sb)).run P wr = .ok (.value (.tuple #[])) w2 ∧ So enc k g lb sf sb blk off size w0 W (Sort.swp dk i j) w2 := by
  subst ex ey
  exact h.swaps H hi hj
theorem So.lessI (H : SoHyp P enc k lt g lb sf sb blk off size w0) (h : So enc k g lb sf sb blk off size w0 W dk wr) {x y : Int} (i j : Nat) (ex : (i : Int) = x) (ey : (j : Int) = y) (hi : i < size) (hj : j < size) {v : Bool} (hv : lt dk[i]! dk[j]! = v) :
    Calls P g (#[.int .i64 x, .int .i64 y] ++ lb) wr fun e w' => e = .returned (.bool v) ∧ So enc k g lb sf sb blk off size w0 W dk w' := by
  subst ex ey
  exact h.lessB H hi hj hv
end
end Go.Proofs.YtehabjiacgibpaaGreat
