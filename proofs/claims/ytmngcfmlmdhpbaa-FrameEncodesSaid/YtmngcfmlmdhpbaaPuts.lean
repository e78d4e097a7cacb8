/-
  A list of puts, as it lies in memory; one that a call gathers in a row of its own. No program's function is named here.
-/
import Derived.Test.YtmngcfmlmdhpbaaMadeN
import Derived.Test.YtmngcfmlmdhpbaaGather
import Derived.Test.YtmngcfmlmdhpbaaBaL
namespace Go.Proofs.Ytmngcfmlmdhpbaa
open Go.RowKit

/-- a put, as it lies: its key, its value, whether it is gone -/
abbrev PPut := Piece × Piece × Bool
def pcells (q : PPut) : List Value := [pv q.1, pv q.2.1, .bool q.2.2]
def valOf (q : PPut) : PutV := (q.1.2.1, q.2.1.2.1, q.2.2)
def valsOf (l : List PPut) : List PutV := l.map valOf
theorem valsOf_length (l : List PPut) : (valsOf l).length = l.length := by simp [valsOf]
theorem pcells_flat (l : List PPut) : ((l.map pcells).flatten).length = l.length * 3 := by
  rw [flat_length (m := 3)]
  · simp
  · intro r hr
    obtain ⟨q, _, rfl⟩ := List.mem_map.1 hr
    rfl
/-- what is known of a put -/
def PutOk (w : World) (q : PPut) : Prop := (Seen w q.1.1 q.1.2.1 ∧ q.1.2.1.length ≤ 9223372036854775807) ∧ (Seen w q.2.1.1 q.2.1.2.1 ∧ q.2.1.2.1.length ≤ 9223372036854775807)
/-- A slice that begins at A shows the puts. -/
def PutsSeen (w : World) (A : Option Addr) (l : List PPut) : Prop :=
  l = [] ∨ ∃ b off, A = some ⟨b, off, none⟩ ∧ b < w.heap.size ∧ ∀ j (h : j < l.length), w.cell? ⟨b, off + j * 3, none⟩ = some (pv l[j].1) ∧ w.cell? ⟨b, off + j * 3 + 1, none⟩ = some (pv l[j].2.1) ∧
    w.cell? ⟨b, off + j * 3 + 2, none⟩ = some (.bool l[j].2.2) ∧ PutOk w l[j]
theorem PutOk.below {w w' : World} {q : PPut} (h : PutOk w q) (hb : Below w.heap.size w w') : PutOk w' q := ⟨⟨h.1.1.below hb, h.1.2⟩, ⟨h.2.1.below hb, h.2.2⟩⟩
theorem PutsSeen.below {w w' : World} {A : Option Addr} {l : List PPut} (h : PutsSeen w A l) (hb : Below w.heap.size w w') : PutsSeen w' A l := by
  rcases h with rfl | ⟨b, off, rfl, hlt, hc⟩
  · exact .inl rfl
  · refine .inr ⟨b, off, rfl, Nat.lt_of_lt_of_le hlt hb.size, fun j hj => ?_⟩
    obtain ⟨h1, h2, h3, h4⟩ := hc j hj
    have e : ∀ o, w'.cell? ⟨b, o, none⟩ = w.cell? ⟨b, o, none⟩ := fun o => hb.cell (p := ⟨b, o, none⟩) hlt
    exact ⟨(e _).trans h1, (e _).trans h2, (e _).trans h3, h4.below hb⟩
theorem PutsSeen.at_ {w : World} {A : Option Addr} {l : List PPut} (h : PutsSeen w A l) (k : Nat) (hk : k < l.length) : ∃ b off, A = some ⟨b, off, none⟩ ∧ PutOk w l[k] ∧ ∀ w', Below w.heap.size w w' → w'.cell? ⟨b, off + k * 3, none⟩ = some (pv l[k].1) ∧ w'.cell? ⟨b, off + k * 3 + 1, none⟩ = some (pv l[k].2.1) ∧
    w'.cell? ⟨b, off + k * 3 + 2, none⟩ = some (.bool l[k].2.2) := by
  rcases h with rfl | ⟨b, off, rfl, hb, hc⟩
  · simp at hk
  · obtain ⟨h1, h2, h3, h4⟩ := hc k hk
    refine ⟨b, off, rfl, h4, fun w' hbl => ?_⟩
    have e : ∀ o, w'.cell? ⟨b, o, none⟩ = w.cell? ⟨b, o, none⟩ := fun o => hbl.cell (p := ⟨b, o, none⟩) hb
    exact ⟨(e _).trans h1, (e _).trans h2, (e _).trans h3⟩

/-- a put whose bytes lie in blocks that are none of F -/
def PutOff (w : World) (F : Nat → Prop) (q : PPut) : Prop := (Away w F q.1.1 q.1.2.1 ∧ q.1.2.1.length ≤ 9223372036854775807) ∧ (Away w F q.2.1.1 q.2.1.2.1 ∧ q.2.1.2.1.length ≤ 9223372036854775807)
theorem PutOff.moved {w w' : World} {F G : Nat → Prop} {q : PPut} (h : PutOff w F q) (hs : Spared w w' F) (hG : ∀ i, G i → F i ∨ w.heap.size ≤ i) : PutOff w' G q :=
  ⟨⟨h.1.1.moved hs hG, h.1.2⟩, ⟨h.2.1.moved hs hG, h.2.2⟩⟩
/-- the call's own list of puts -/
def ListAt (e : TypeId) (w0 : World) (ps : List PPut) (v : Value) (w : World) : Prop :=
  w.ownsRow w0.heap.size e 3 v ps.length (ps.map pcells).flatten ∧ w0.heap.size ≤ w.heap.size ∧ ∀ q ∈ ps, PutOff w (fun b => b < w0.heap.size ∨ some b = v.ownBlock) q
theorem ListAt.start (e : TypeId) (w : World) : ListAt e w [] (.slice none 0 0) w :=
  ⟨World.ownsRow_nil _ _ _ _, Nat.le_refl _, fun q hq => by simp at hq⟩
section
variable {e : TypeId} {w0 w w' : World} {ps : List PPut} {v : Value}
/-- behind what leaves all blocks but an elder one -/
theorem ListAt.through {p : Nat} (h : ListAt e w0 ps v w) (hg : w.grownBy w' (some p)) (hp : p < w0.heap.size) : ListAt e w0 ps v w' := by
  refine ⟨h.1.kept hg ?_, Nat.le_trans h.2.1 hg.size, fun q hq => (h.2.2 q hq).moved (Spared.of_grown hg (fun k e _ => by injection e with e; exact .inl (by omega))) (fun i hi => .inl hi)⟩
  rcases hv : v.ownBlock with _ | g
  · exact .inl rfl
  · right
    intro e
    injection e with e
    have := (h.1.lt g hv).1
    omega
theorem ListAt.below (h : ListAt e w0 ps v w) (hb : Below w.heap.size w w') : ListAt e w0 ps v w' :=
  ⟨h.1.kept (only_of_below hb none) (by cases v.ownBlock <;> simp), Nat.le_trans h.2.1 hb.size, fun q hq => (h.2.2 q hq).moved (Spared.of_below hb _) (fun i hi => .inl hi)⟩
/-- one more, that lies past what there was in w1 -/
theorem ListAt.more {w1 : World} {v' : Value} {q : PPut} (h1 : ListAt e w0 ps v w1) (h : ListAt e w0 ps v w) (hq : PutOff w (fun b => b < w1.heap.size) q) (hown : w'.ownsRow w0.heap.size e 3 v' (ps.length + 1) ((ps.map pcells).flatten ++ pcells q)) (hg : w.grownBy w' v.ownBlock) (hat : v'.ownBlock = v.ownBlock ∨ ∃ g, v'.ownBlock = some g ∧ w.heap.size ≤ g) : ListAt e w0 (ps ++ [q]) v' w' := by
  have hlt : ∀ b, some b = v.ownBlock → b < w1.heap.size := fun b hb => (h1.1.lt b hb.symm).2
  have hsp : Spared w w' (fun b => b < w0.heap.size ∨ some b = v.ownBlock) := Spared.of_grown hg (fun k e _ => .inr e.symm)
  have hG : ∀ i, (i < w0.heap.size ∨ some i = v'.ownBlock) → (i < w0.heap.size ∨ some i = v.ownBlock) ∨ w.heap.size ≤ i := by
    rintro i (hi | hi)
    · exact .inl (.inl hi)
    · rcases hat with h | ⟨g, h, hge⟩
      · rw [h] at hi; exact .inl (.inr hi)
      · rw [h] at hi; injection hi with hi; exact .inr (by omega)
  refine ⟨?_, Nat.le_trans h.2.1 hg.size, fun x hx => ?_⟩
  · rw [List.length_append, List.map_append, List.flatten_append]
    simpa using hown
  · rcases List.mem_append.1 hx with hx | hx
    · exact (h.2.2 x hx).moved hsp hG
    · rw [List.mem_singleton.1 hx]
      have h0 := h1.2.1
      exact hq.moved (Spared.of_grown hg (fun k e _ => hlt k e.symm)) (fun i hi => by
        rcases hG i hi with (hi | hi) | hi
        · exact .inl (by omega)
        · exact .inl (hlt i hi)
        · exact .inr hi)
theorem ListAt.seen {A : Option Addr} {n c : Nat} (h : ListAt e w0 ps (.slice A n c) w) : PutsSeen w A ps := by
  rcases h.1.2 with ⟨_, h0⟩ | ⟨g, cap, cur, hv, hB, hg, _⟩
  · exact .inl (List.eq_nil_of_length_eq_zero h0)
  · injection hv with hA _ _
    subst hA
    have hlt : g < w.heap.size := by
      rcases Nat.lt_or_ge g w.heap.size with hlt | hge
      · exact hlt
      · rw [Array.getElem?_eq_none hge] at hg; cases hg
    refine .inr ⟨g, 0, rfl, hlt, fun j hj => ?_⟩
    have hc : ∀ i, i < 3 → w.cell? ⟨g, 0 + j * 3 + i, none⟩ = (pcells ps[j])[i]? := fun i hi => by
      have hf := flat_at (ps.map pcells) j i (by simpa using hj) (m := 3) (fun r hr => by obtain ⟨q, _, rfl⟩ := List.mem_map.1 hr; rfl) (by simpa [pcells] using hi)
      have := h.1.cells (g := g) rfl (j * 3 + i) _ hf
      rw [add_plain] at this
      rw [Nat.add_assoc, this, List.getElem?_eq_getElem (by simpa [pcells] using hi)]
      simp
    have hq := h.2.2 ps[j] (List.getElem_mem hj)
    exact ⟨hc 0 (by decide), hc 1 (by decide), hc 2 (by decide), ⟨hq.1.1.seen, hq.1.2⟩, ⟨hq.2.1.seen, hq.2.2⟩⟩
end

theorem cells_three_new (w : World) (a b c : Value) (t : TypeId) : ∀ j u, [a, b, c][j]? = some u → (w.alloc (.cells #[a, b, c] t)).cell? ((⟨w.heap.size, 0, none⟩ : Addr).add j) = some u := by
  intro j u hj
  rw [add_plain, World.cell?_alloc_at _ _ _ _ rfl]
  simpa using hj

/-- 'append(l, x)' of one put, onto the call's own list: the put has been laid into a new block -/
theorem wpList_append_put {P : Program} (w : World) {ops : Array Oper} {rest : List Oper} {o : Oper} {ac : Act} {Q : Exit → Act → World → Prop} (hgd : o.guard = none) (s x : Operand) (t : TypeId)
    (ho : o.op = .call { callee := .builtin .append, args := #[s, x], argTypes := #[t, t] })
    (e : TypeId) (i : TypeInfo) (z : Value) (ht : P.underlying t = some (.slice e)) (hi : P.info? e = some i) (hz : i.zero = some z)
    (hsize : i.size = 3) (hby : i.bytes = 56) (hzs : z.cells.size = 3)
    (w0 w1 : World) (ps : List PPut) (A : Option Addr) (n c : Nat) (q : PPut) (c0 c1 c2 : Value) (hs : ac.eval s = .slice A n c) (hx : ac.eval x = .slice (some ⟨w.heap.size, 0, none⟩) 1 1)
    (h1 : ListAt e w0 ps (.slice A n c) w1) (h : ListAt e w0 ps (.slice A n c) w) (hn : ps.length = n) (hq : PutOff w (fun b => b < w1.heap.size) q) (hcells : pcells q = [c0, c1, c2]) (hb : n + 1 ≤ 2199023255552)
    (K : ∀ A' c' w', ListAt e w0 (ps ++ [q]) (.slice A' (n + 1) c') w' → Spared w w' (fun b => w0.heap.size ≤ b) → wpList P ops Q rest (ac.put o.dst (.slice A' (n + 1) c')) w') :
    wpList P ops Q (o :: rest) ac (w.alloc (.cells #[c0, c1, c2] e)) := by
  have hal : Below w.heap.size w (w.alloc (.cells #[c0, c1, c2] e)) := (Below.refl _ _).alloc (Nat.le_refl _) _
  have h' := h.below hal
  have hlist := h'.1
  have hB := h'.2.1
  rw [hn] at hlist
  refine wpList_append_own_at (w.alloc (.cells #[c0, c1, c2] e)) hgd s x t ho w0.heap.size e i z 3 56 ht hi hz hsize hby hzs (by decide) _ n _ hs hlist ⟨w.heap.size, 0, none⟩ 1 1 [c0, c1, c2] hx rfl (cells_three_new _ _ _ _ _) (by
    intro u hu
    rw [← hcells] at hu
    simp [pcells] at hu
    rcases hu with rfl | rfl | rfl <;> rfl) (by unfold maxLen; omega) (by omega) hB ?_
  intro v' w' hown hg _ hat
  obtain ⟨A', c', rfl⟩ : ∃ A' c', v' = .slice A' (n + 1) c' := by
    rcases hown.2 with ⟨rfl, h0⟩ | ⟨_, _, _, rfl, _⟩
    · exact absurd h0 (by omega)
    · exact ⟨_, _, rfl⟩
  refine K A' c' w' (h1.more h' (hq.moved (Spared.of_below hal _) (fun i hi => .inl hi)) (by rw [hn, hcells]; exact hown) hg ?_) ?_
  · rcases hat with hat | hat
    · exact .inl hat
    · exact .inr ⟨_, hat, Nat.le_refl _⟩
  · refine (Spared.of_below hal _).trans (Spared.of_grown hg (F := fun b => w0.heap.size ≤ b) (fun k e _ => (hlist.lt k e).1)) (fun i hi => .inl hi)
theorem only_spared {w w' w'' : World} {row : Option Nat} (h : w.grownBy w' row) (hs : Spared w' w'' (fun b => w.heap.size ≤ b)) : w.grownBy w'' row :=
  ⟨hs.os.trans h.os, hs.tape.trans h.tape, hs.output.trans h.output, Nat.le_trans h.size hs.size, fun k hk hne => (hs.block k (Nat.lt_of_lt_of_le hk h.size) (by omega)).trans (h.block k hk hne)⟩
end Go.Proofs.Ytmngcfmlmdhpbaa
