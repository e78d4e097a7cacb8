/-
  A list of lists of bytes that the call gathers in a row of its own, beside the bytes of the one that is under way. No program is named here.
-/
import Derived.Test.YtaeocbgmoijedaaSeenAll
namespace Go.Proofs.Ytaeocbgmoijedaa
open Go.RowKit

/-- the slice of a piece -/
def pv (q : Piece) : Value := .slice q.1 q.2.1.length q.2.2
/-- the piece lies in another block than x and y -/
def Free (w : World) (x y : Option Nat) (q : Piece) : Prop :=
  (q.2.1 = [] ∨ ∃ b off, q.1 = some ⟨b, off, none⟩ ∧ b < w.heap.size ∧ some b ≠ x ∧ some b ≠ y ∧ ∀ j (h : j < q.2.1.length), w.cell? ⟨b, off + j, none⟩ = some (.int .u8 (q.2.1[j].toNat : Int))) ∧
  q.2.1.length ≤ q.2.2 ∧ q.2.1.length ≤ 9223372036854775807

/-- vs holds the pieces, vp shows the bytes p; each in a row of its own, made behind w0 -/
structure DecAt (e f : TypeId) (w0 : World) (ps : List Piece) (p : List UInt8) (vs vp : Value) (w : World) : Prop where
  list : w.ownsRow w0.heap.size f 1 vs ps.length (ps.map pv)
  part : w.ownsRow w0.heap.size e 1 vp p.length (p.map bv)
  apart : ∀ g, vs.ownBlock = some g → vp.ownBlock ≠ some g
  each : ∀ q ∈ ps, Free w vs.ownBlock vp.ownBlock q
  below : Below w0.heap.size w0 w

theorem own_len {w : World} {base : Nat} {e : TypeId} {A : Option Addr} {n c m : Nat} {xs : List Value} (h : w.ownsRow base e 1 (.slice A n c) m xs) : m = n ∧ n ≤ c := by
  rcases h.2 with ⟨hv, h0⟩ | ⟨g, cap, cur, hv, _, _, hnc, _⟩
  · injection hv with _ hn hc; omega
  · injection hv with _ hn hc; omega
/-- the bytes of a row of the call's own -/
theorem own_bytes {w : World} {base g n c : Nat} {e : TypeId} {l : List UInt8} (h : w.ownsRow base e 1 (.slice (some ⟨g, 0, none⟩) n c) l.length (l.map bv)) (j : Nat) (hj : j < l.length) : w.cell? ⟨g, 0 + j, none⟩ = some (.int .u8 (l[j].toNat : Int)) := by
  have := h.cells (g := g) rfl j (bv l[j]) (by rw [List.getElem?_map, List.getElem?_eq_getElem hj]; rfl)
  rw [add_plain] at this
  exact this

section
variable {e f : TypeId} {w0 w w' : World} {ps : List Piece} {p p' : List UInt8} {vs vs' vp vp' : Value} {q : Piece} {x y x' y' row : Option Nat}
theorem DecAt.start (e f : TypeId) (w : World) : DecAt e f w [] [] (.slice none 0 0) (.slice none 0 0) w :=
  ⟨World.ownsRow_nil _ _ _ _, World.ownsRow_nil _ _ _ _, fun g h => by simp [Value.ownBlock] at h, fun q hq => by simp at hq, Below.refl _ _⟩
/-- other rows, behind what leaves the piece -/
theorem Free.turn (h : Free w x y q) (hg : w.grownBy w' row) (hrow : row = none ∨ row = x ∨ row = y) (hx : x' = x ∨ x' = none ∨ ∃ g, x' = some g ∧ w.heap.size ≤ g) (hy : y' = y ∨ y' = none ∨ ∃ g, y' = some g ∧ w.heap.size ≤ g) : Free w' x' y' q := by
  refine ⟨?_, h.2⟩
  rcases h.1 with h0 | ⟨b, off, hA, hb, h1, h2, hc⟩
  · exact .inl h0
  · refine .inr ⟨b, off, hA, by have := hg.size; omega, ?_, ?_, fun j hj => ?_⟩
    · rcases hx with rfl | rfl | ⟨g, rfl, hge⟩
      · exact h1
      · exact fun e => by cases e
      · intro e; injection e with e; omega
    · rcases hy with rfl | rfl | ⟨g, rfl, hge⟩
      · exact h2
      · exact fun e => by cases e
      · intro e; injection e with e; omega
    · refine (World.cell?_of_block (hg.block b hb ?_)).trans (hc j hj)
      rcases hrow with rfl | rfl | rfl
      · exact fun e => by cases e
      · exact h1
      · exact h2
theorem DecAt.size (h : DecAt e f w0 ps p vs vp w) : w0.heap.size ≤ w.heap.size := h.below.size
theorem DecAt.lower (h : DecAt e f w0 ps p vs vp w) (hb : Below w.heap.size w w') : DecAt e f w0 ps p vs vp w' where
  list := own_below h.list hb
  part := own_below h.part hb
  apart := h.apart
  each q hq := (h.each q hq).turn (only_of_below hb none) (.inl rfl) (.inl rfl) (.inl rfl)
  below := hop h.below hb
/-- the bytes under way have grown -/
theorem DecAt.grow (h : DecAt e f w0 ps p vs vp w) (hown : w'.ownsRow w0.heap.size e 1 vp' p'.length (p'.map bv)) (hg : w.grownBy w' vp.ownBlock) (hat : vp'.ownBlock = vp.ownBlock ∨ ∃ g, vp'.ownBlock = some g ∧ w.heap.size ≤ g) : DecAt e f w0 ps p' vs vp' w' where
  list := h.list.kept hg (by
    rcases hv : vs.ownBlock with _ | g
    · exact .inl rfl
    · exact .inr (fun e => h.apart g hv e.symm))
  part := hown
  apart g hs := by
    have hlt := (h.list.lt g hs).2
    rcases hat with hat | ⟨g', hat, hge⟩
    · rw [hat]; exact h.apart g hs
    · rw [hat]; intro e; injection e with e; omega
  each q hq := (h.each q hq).turn hg (.inr (.inr rfl)) (.inl rfl) (by
    rcases hat with hat | hat
    · exact .inl hat
    · exact .inr (.inr hat))
  below := below_grown h.below h.size h.part hg
/-- a piece more -/
theorem DecAt.more (h : DecAt e f w0 ps p vs vp w) (hq : Free w vs.ownBlock vp.ownBlock q) (hown : w'.ownsRow w0.heap.size f 1 vs' (ps.length + 1) (ps.map pv ++ [pv q])) (hg : w.grownBy w' vs.ownBlock) (hat : vs'.ownBlock = vs.ownBlock ∨ ∃ g, vs'.ownBlock = some g ∧ w.heap.size ≤ g) : DecAt e f w0 (ps ++ [q]) p vs' vp w' where
  list := by simpa using hown
  part := h.part.kept hg (by
    rcases hv : vp.ownBlock with _ | g
    · exact .inl rfl
    · exact .inr (fun e => h.apart g e.symm hv))
  apart g hs := by
    rcases hat with hat | ⟨g', hat, hge⟩
    · exact h.apart g (hat ▸ hs)
    · rw [hat] at hs
      injection hs with hs
      intro hv
      have := (h.part.lt g hv).2
      omega
  each r hr := by
    have ht : ∀ r, Free w vs.ownBlock vp.ownBlock r → Free w' vs'.ownBlock vp.ownBlock r := fun r h' => h'.turn hg (.inr (.inl rfl)) (by
      rcases hat with hat | hat
      · exact .inl hat
      · exact .inr (.inr hat)) (.inl rfl)
    rcases List.mem_append.1 hr with hr | hr
    · exact ht r (h.each r hr)
    · simp at hr; subst hr; exact ht r hq
  below := below_grown h.below h.size h.list hg
/-- the bytes under way are let go: they may be a piece then -/
theorem DecAt.drop (h : DecAt e f w0 ps p vs vp w) : DecAt e f w0 ps [] vs (.slice none 0 0) w where
  list := h.list
  part := World.ownsRow_nil _ _ _ _
  apart g _ := by simp [Value.ownBlock]
  each q hq := (h.each q hq).turn (World.grownBy.refl w none) (.inl rfl) (.inl rfl) (.inr (.inl rfl))
  below := h.below
theorem DecAt.piece {A : Option Addr} {n c : Nat} (h : DecAt e f w0 ps p vs (.slice A n c) w) (hn : p.length ≤ 9223372036854775807) : Free w vs.ownBlock none (A, p, c) := by
  have hl := own_len h.part
  refine ⟨?_, by show p.length ≤ c; omega, hn⟩
  rcases h.part.2 with ⟨hv, h0⟩ | ⟨g, cap, cur, hv, hb, hg, hnc, _⟩
  · exact .inl (List.eq_nil_of_length_eq_zero h0)
  · injection hv with hA _ hc
    subst hA
    refine .inr ⟨g, 0, rfl, (h.part.lt g rfl).2, fun e => h.apart g e.symm rfl, (fun e => by simp at e), own_bytes h.part⟩
/-- none of the bytes under way is left: the row stays -/
theorem DecAt.none_of {A : Option Addr} {n c : Nat} (h : DecAt e f w0 ps p vs (.slice A n c) w) : DecAt e f w0 ps [] vs (.slice A 0 c) w where
  list := h.list
  part := by
    refine ⟨by simp, ?_⟩
    rcases h.part.2 with ⟨hv, h0⟩ | ⟨g, cap, cur, hv, hb, hg, hnc, h1, h2, h3⟩
    · injection hv with hA hn hc
      subst hA hc
      exact .inl ⟨rfl, rfl⟩
    · injection hv with hA _ hc
      subst hA hc
      exact .inr ⟨g, _, cur, rfl, hb, hg, Nat.zero_le _, h1, h2, by simp⟩
  apart g hs hp := h.apart g hs (by
    rcases A with _ | a
    · cases hp
    · exact hp)
  each := by
    rcases A with _ | a
    · exact h.each
    · exact h.each
  below := h.below
/-- a slice that was made elsewhere since is a piece -/
theorem Made.piece {A : Option Addr} {n c : Nat} {l : List UInt8} (hm : Made e w l (.slice A n c) w') (h : DecAt e f w0 ps p vs vp w) (hn : l.length ≤ 9223372036854775807) : Free w' vs.ownBlock vp.ownBlock (A, l, c) := by
  have hl := own_len hm.1
  refine ⟨?_, by show l.length ≤ c; omega, hn⟩
  rcases hm.1.2 with ⟨hv, h0⟩ | ⟨g, cap, cur, hv, hb, hg, hnc, _⟩
  · exact .inl (List.eq_nil_of_length_eq_zero h0)
  · injection hv with hA _ hc
    subst hA
    refine .inr ⟨g, 0, rfl, (hm.1.lt g rfl).2, ?_, ?_, own_bytes hm.1⟩
    · intro e; have := (h.list.lt g e.symm).2; omega
    · intro e; have := (h.part.lt g e.symm).2; omega
theorem DecAt.seen {A : Option Addr} {n c : Nat} (h : DecAt e f w0 ps p vs (.slice A n c) w) : Seen w A p := by
  have hl := own_len h.part
  have hp := h.part
  obtain ⟨rfl, _⟩ := hl
  exact (Seen.of_own hp).1
/-- what is shown at the end -/
theorem DecAt.shown {A : Option Addr} {n c : Nat} (h : DecAt e f w0 ps p (.slice A n c) vp w) : SeenAll w A ps := by
  rcases h.list.2 with ⟨hv, h0⟩ | ⟨g, cap, cur, hv, hb, hg, hnc, _⟩
  · exact .inl (List.eq_nil_of_length_eq_zero h0)
  · injection hv with hA _ hc
    subst hA
    refine .inr ⟨g, 0, rfl, (h.list.lt g rfl).2, fun j hj => ?_⟩
    obtain ⟨h1, h2, h3⟩ := h.each ps[j] (List.getElem_mem hj)
    have hcell := h.list.cells (g := g) rfl j (pv ps[j]) (by rw [List.getElem?_map, List.getElem?_eq_getElem hj]; rfl)
    rw [add_plain] at hcell
    refine ⟨hcell, ?_, h2, h3⟩
    rcases h1 with h1 | ⟨b, off, hA, hb', _, _, hc⟩
    · exact .inl h1
    · exact .inr ⟨b, off, hA, hb', hc⟩
end

/-- 'append(part, y)', one byte: the byte has been laid into a new block -/
theorem wpList_append_part {P : Program} (w : World) {ops : Array Oper} {rest : List Oper} {o : Oper} {ac : Act} {Q : Exit → Act → World → Prop} (hgd : o.guard = none) (s x : Operand) (t : TypeId)
    (ho : o.op = .call { callee := .builtin .append, args := #[s, x], argTypes := #[t, t] })
    (e : TypeId) (i : TypeInfo) (z : Value) (ht : P.underlying t = some (.slice e)) (hi : P.info? e = some i) (hz : i.zero = some z)
    (hsize : i.size = 1) (hby : i.bytes = 1) (hzs : z.cells.size = 1)
    (f : TypeId) (w0 : World) (ps : List Piece) (p : List UInt8) (vs : Value) (B : Option Addr) (m d : Nat) (y : Int) (b8 : UInt8) (hs : ac.eval s = .slice B m d) (hx : ac.eval x = .slice (some ⟨w.heap.size, 0, none⟩) 1 1)
    (H : DecAt e f w0 ps p vs (.slice B m d) w) (hm : p.length = m) (hy : (b8.toNat : Int) = y) (hb : m + 1 ≤ 140737488355328)
    (h : ∀ B' d' w', DecAt e f w0 ps (p ++ [b8]) vs (.slice B' (m + 1) d') w' → wpList P ops Q rest (ac.put o.dst (.slice B' (m + 1) d')) w') :
    wpList P ops Q (o :: rest) ac (w.alloc (.cells #[.int .u8 y] e)) := by
  subst hy
  have hB := H.size
  have H' := H.lower ((Below.refl _ _).alloc (Nat.le_refl _) (.cells #[.int .u8 (b8.toNat : Int)] e))
  have hpart := H'.part
  rw [hm] at hpart
  refine wpList_append_own_at (w.alloc (.cells #[.int .u8 (b8.toNat : Int)] e)) hgd s x t ho w0.heap.size e i z 1 1 ht hi hz hsize hby hzs (by decide) _ m (p.map bv) hs hpart ⟨w.heap.size, 0, none⟩ 1 1 [.int .u8 (b8.toNat : Int)] hx rfl (cell_one_new _ _ _) (by
    intro u hu
    simp at hu
    subst hu
    rfl) (by unfold maxLen; omega) (by omega) (by simp; omega) ?_
  intro v' w' hown hg _ hat
  obtain ⟨B', d', rfl⟩ := own_form hown
  refine h B' d' w' (H'.grow ?_ hg ?_)
  · rw [List.length_append, List.map_append, hm]; exact hown
  · rcases hat with hat | hat
    · exact .inl hat
    · exact .inr ⟨_, hat, Nat.le_refl _⟩
/-- 'append(parts, q)', one piece: its slice has been laid into a new block -/
theorem wpList_append_piece {P : Program} (w : World) {ops : Array Oper} {rest : List Oper} {o : Oper} {ac : Act} {Q : Exit → Act → World → Prop} (hgd : o.guard = none) (s x : Operand) (t : TypeId)
    (ho : o.op = .call { callee := .builtin .append, args := #[s, x], argTypes := #[t, t] })
    (f : TypeId) (i : TypeInfo) (z : Value) (ht : P.underlying t = some (.slice f)) (hi : P.info? f = some i) (hz : i.zero = some z)
    (hsize : i.size = 1) (hby : i.bytes = 24) (hzs : z.cells.size = 1)
    (e : TypeId) (w0 : World) (ps : List Piece) (p : List UInt8) (vp : Value) (A : Option Addr) (n c : Nat) (q : Piece) (Aq : Option Addr) (nq cq : Nat) (hs : ac.eval s = .slice A n c) (hx : ac.eval x = .slice (some ⟨w.heap.size, 0, none⟩) 1 1)
    (H : DecAt e f w0 ps p (.slice A n c) vp w) (hn : ps.length = n) (hq : pv q = .slice Aq nq cq) (hfree : Free w (Value.ownBlock (.slice A n c)) vp.ownBlock q) (hb : n + 1 ≤ 5864062014805)
    (h : ∀ A' c' w', DecAt e f w0 (ps ++ [q]) p (.slice A' (n + 1) c') vp w' → wpList P ops Q rest (ac.put o.dst (.slice A' (n + 1) c')) w') :
    wpList P ops Q (o :: rest) ac (w.alloc (.cells #[.slice Aq nq cq] f)) := by
  rw [← hq]
  have hB := H.size
  have H' := H.lower ((Below.refl _ _).alloc (Nat.le_refl _) (.cells #[pv q] f))
  have hfree' : Free (w.alloc (.cells #[pv q] f)) (Value.ownBlock (.slice A n c)) vp.ownBlock q := hfree.turn (only_of_below ((Below.refl _ _).alloc (Nat.le_refl _) _) none) (.inl rfl) (.inl rfl) (.inl rfl)
  have hlist := H'.list
  rw [hn] at hlist
  refine wpList_append_own_at (w.alloc (.cells #[pv q] f)) hgd s x t ho w0.heap.size f i z 1 24 ht hi hz hsize hby hzs (by decide) _ n (ps.map pv) hs hlist ⟨w.heap.size, 0, none⟩ 1 1 [pv q] hx rfl (cell_one_new _ _ _) (by
    intro u hu
    simp at hu
    subst hu
    rfl) (by unfold maxLen; omega) (by omega) (by simp; omega) ?_
  intro v' w' hown hg _ hat
  obtain ⟨A', c', rfl⟩ := own_form hown
  refine h A' c' w' (H'.more hfree' (by rw [hn]; exact hown) hg ?_)
  rcases hat with hat | hat
  · exact .inl hat
  · exact .inr ⟨_, hat, Nat.le_refl _⟩
end Go.Proofs.Ytaeocbgmoijedaa
