/-
  A list of puts, as it lies in memory; one that a call gathers in a row of its own. No program's function is named here.
  append of cells that are there, as a step of a statement whose order is drawn. No conditions.
  The document's map: Copy; puts done to a copy (Do); an empty one. Conditions: at most 99,999 pairs and puts together, of at most 1,000,000,000 bytes together.
  Plain mathematics of layer 9: how many puts, and how many bytes of them, records of so many bytes come to; the document's log Open, under names. Conditions: none, and as Open says.
  The program's store (package kv) as it lies; half, Up, Len, Turn, Get, Scan. Conditions: a store that is there; as TreeAt says.
-/
import Derived.Test.YtdaahapbpnjkfaaGreatCLgPut
import Derived.Test.YtdaahapbpnjkfaaGreatCGather
import Derived.Test.YtdaahapbpnjkfaaGreatCLgWrite
import Derived.Test.YtdaahapbpnjkfaaGreatCSearch
import Derived.Deep.AppendLies
import Derived.Test.YtdaahapbpnjkfaaGreatCTrRfPut
import Derived.Test.YtdaahapbpnjkfaaGreatCRefF
import Derived.Deep.RegionHeldLaw
import Derived.Test.YtdaahapbpnjkfaaGreatCTrRf
import Derived.Test.YtdaahapbpnjkfaaGreatCTrScan
import Derived.Test.YtdaahapbpnjkfaaGreatCDkImage
namespace Go.Proofs.YtdaahapbpnjkfaaGreat
open Go.RowKit
abbrev PPut := Piece × Piece × Bool
def pcells (q : PPut) : List Value := [pv q.1, pv q.2.1, .bool q.2.2]
def valOf (q : PPut) : PutV := (q.1.2.1, q.2.1.2.1, q.2.2)
def valsOf (l : List PPut) : List PutV := l.map valOf
theorem valsOf_length (l : List PPut) : (valsOf l).length = l.length := by simp [valsOf]
theorem pcells_flat (l : List PPut) : ((l.map pcells).flatten).length = l.length * 3 := by
  rw [flat_length (m := 3)]
  · simp
  · intro r hr
    obtain ⟨q, _, rfl⟩ := List.mem_map.1 hr
    rfl
def PutOk (w : World) (q : PPut) : Prop := (Seen w q.1.1 q.1.2.1 ∧ q.1.2.1.length ≤ 9223372036854775807) ∧ (Seen w q.2.1.1 q.2.1.2.1 ∧ q.2.1.2.1.length ≤ 9223372036854775807)
def PutsSeen (w : World) (A : Option Addr) (l : List PPut) : Prop :=
  l = [] ∨ ∃ b off, A = some ⟨b, off, none⟩ ∧ b < w.heap.size ∧ ∀ j (h : j < l.length), w.cell? ⟨b, off + j * 3, none⟩ = some (pv l[j].1) ∧ w.cell? ⟨b, off + j * 3 + 1, none⟩ = some (pv l[j].2.1) ∧
    w.cell? ⟨b, off + j * 3 + 2, none⟩ = some (.bool l[j].2.2) ∧ PutOk w l[j]
theorem PutOk.below {w w' : World} {q : PPut} (h : PutOk w q) (hb : Below w.heap.size w w') : PutOk w' q := ⟨⟨h.1.1.below hb, h.1.2⟩, ⟨h.2.1.below hb, h.2.2⟩⟩
theorem PutsSeen.below {w w' : World} {A : Option Addr} {l : List PPut} (h : PutsSeen w A l) (hb : Below w.heap.size w w') : PutsSeen w' A l := by
  rcases h with rfl | ⟨b, off, rfl, hlt, hc⟩
  · exact .inl rfl
  · refine .inr ⟨b, off, rfl, Nat.lt_of_lt_of_le hlt hb.size, fun j hj => ?_⟩
    obtain ⟨h1, h2, h3, h4⟩ := hc j hj
    have e : ∀ o, w'.cell? ⟨b, o, none⟩ = w.cell? ⟨b, o, none⟩ := fun o => hb.cell (p := ⟨b, o, none⟩) hlt
    exact ⟨(e _).trans h1, (e _).trans h2, (e _).trans h3, h4.below hb⟩
theorem PutsSeen.at_ {w : World} {A : Option Addr} {l : List PPut} (h : PutsSeen w A l) (k : Nat) (hk : k < l.length) : ∃ b off, A = some ⟨b, off, none⟩ ∧ PutOk w l[k] ∧ ∀ w', Below w.heap.size w w' → w'.cell? ⟨b, off + k * 3, none⟩ = some (pv l[k].1) ∧ w'.cell? ⟨b, off + k * 3 + 1, none⟩ = some (pv l[k].2.1) ∧
    w'.cell? ⟨b, off + k * 3 + 2, none⟩ = some (.bool l[k].2.2) := by
  rcases h with rfl | ⟨b, off, rfl, hb, hc⟩
  · simp at hk
  · obtain ⟨h1, h2, h3, h4⟩ := hc k hk
    refine ⟨b, off, rfl, h4, fun w' hbl => ?_⟩
    have e : ∀ o, w'.cell? ⟨b, o, none⟩ = w.cell? ⟨b, o, none⟩ := fun o => hbl.cell (p := ⟨b, o, none⟩) hb
    exact ⟨(e _).trans h1, (e _).trans h2, (e _).trans h3⟩
def PutOff (w : World) (F : Nat → Prop) (q : PPut) : Prop := (Away w F q.1.1 q.1.2.1 ∧ q.1.2.1.length ≤ 9223372036854775807) ∧ (Away w F q.2.1.1 q.2.1.2.1 ∧ q.2.1.2.1.length ≤ 9223372036854775807)
theorem PutOff.moved {w w' : World} {F G : Nat → Prop} {q : PPut} (h : PutOff w F q) (hs : Spared w w' F) (hG : ∀ i, G i → F i ∨ w.heap.size ≤ i) : PutOff w' G q :=
  ⟨⟨h.1.1.moved hs hG, h.1.2⟩, ⟨h.2.1.moved hs hG, h.2.2⟩⟩
def ListAt (e : TypeId) (w0 : World) (ps : List PPut) (v : Value) (w : World) : Prop :=
  w.ownsRow w0.heap.size e 3 v ps.length (ps.map pcells).flatten ∧ w0.heap.size ≤ w.heap.size ∧ ∀ q ∈ ps, PutOff w (fun b => b < w0.heap.size ∨ some b = v.ownBlock) q
theorem ListAt.start (e : TypeId) (w : World) : ListAt e w [] (.slice none 0 0) w :=
  ⟨World.ownsRow_nil _ _ _ _, Nat.le_refl _, fun q hq => by simp at hq⟩
section
variable {e : TypeId} {w0 w w' : World} {ps : List PPut} {v : Value}
theorem ListAt.through {p : Nat} (h : ListAt e w0 ps v w) (hg : w.grownBy w' (some p)) (hp : p < w0.heap.size) : ListAt e w0 ps v w' := by
  refine ⟨h.1.kept hg ?_, Nat.le_trans h.2.1 hg.size, fun q hq => (h.2.2 q hq).moved (Spared.of_grown hg (fun k e _ => by injection e with e; exact .inl (by omega))) (fun i hi => .inl hi)⟩
  rcases hv : v.ownBlock with _ | g
  · exact .inl rfl
  · right
    intro e
    injection e with e
    have := (h.1.lt g hv).1
    omega
theorem ListAt.below (h : ListAt e w0 ps v w) (hb : Below w.heap.size w w') : ListAt e w0 ps v w' :=
  ⟨h.1.kept (only_of_below hb none) (by cases v.ownBlock <;> simp), Nat.le_trans h.2.1 hb.size, fun q hq => (h.2.2 q hq).moved (Spared.of_below hb _) (fun i hi => .inl hi)⟩
theorem ListAt.more {w1 : World} {v' : Value} {q : PPut} (h1 : ListAt e w0 ps v w1) (h : ListAt e w0 ps v w) (hq : PutOff w (fun b => b < w1.heap.size) q) (hown : w'.ownsRow w0.heap.size e 3 v' (ps.length + 1) ((ps.map pcells).flatten ++ pcells q)) (hg : w.grownBy w' v.ownBlock) (hat : v'.ownBlock = v.ownBlock ∨ ∃ g, v'.ownBlock = some g ∧ w.heap.size ≤ g) : ListAt e w0 (ps ++ [q]) v' w' := by
  have hlt : ∀ b, some b = v.ownBlock → b < w1.heap.size := fun b hb => (h1.1.lt b hb.symm).2
  have hsp : Spared w w' (fun b => b < w0.heap.size ∨ some b = v.ownBlock) := Spared.of_grown hg (fun k e _ => .inr e.symm)
  have hG : ∀ i, (i < w0.heap.size ∨ some i = v'.ownBlock) → (i < w0.heap.size ∨ some i = v.ownBlock) ∨ w.heap.size ≤ i := by
    rintro i (hi | hi)
    · exact .inl (.inl hi)
    · rcases hat with h | ⟨g, h, hge⟩
      · rw [h] at hi; exact .inl (.inr hi)
      · rw [h] at hi; injection hi with hi; exact .inr (by omega)
  refine ⟨?_, Nat.le_trans h.2.1 hg.size, fun x hx => ?_⟩
  · rw [List.length_append, List.map_append, List.flatten_append]
    simpa using hown
  · rcases List.mem_append.1 hx with hx | hx
    · exact (h.2.2 x hx).moved hsp hG
    · rw [List.mem_singleton.1 hx]
      have h0 := h1.2.1
      exact hq.moved (Spared.of_grown hg (fun k e _ => hlt k e.symm)) (fun i hi => by
        rcases hG i hi with (hi | hi) | hi
        · exact .inl (by omega)
        · exact .inl (hlt i hi)
        · exact .inr hi)
theorem ListAt.seen {A : Option Addr} {n c : Nat} (h : ListAt e w0 ps (.slice A n c) w) : PutsSeen w A ps := by
  rcases h.1.2 with ⟨_, h0⟩ | ⟨g, cap, cur, hv, hB, hg, _⟩
  · exact .inl (List.eq_nil_of_length_eq_zero h0)
  · injection hv with hA _ _
    subst hA
    have hlt : g < w.heap.size := by
      rcases Nat.lt_or_ge g w.heap.size with hlt | hge
      · exact hlt
      · rw [Array.getElem?_eq_none hge] at hg; cases hg
    refine .inr ⟨g, 0, rfl, hlt, fun j hj => ?_⟩
    have hc : ∀ i, i < 3 → w.cell? ⟨g, 0 + j * 3 + i, none⟩ = (pcells ps[j])[i]? := fun i hi => by
      have hf := flat_at (ps.map pcells) j i (by simpa using hj) (m := 3) (fun r hr => by obtain ⟨q, _, rfl⟩ := List.mem_map.1 hr; rfl) (by simpa [pcells] using hi)
      have := h.1.cells (g := g) rfl (j * 3 + i) _ hf
      rw [add_plain] at this
      rw [Nat.add_assoc, this, List.getElem?_eq_getElem (by simpa [pcells] using hi)]
      simp
    have hq := h.2.2 ps[j] (List.getElem_mem hj)
    exact ⟨hc 0 (by decide), hc 1 (by decide), hc 2 (by decide), ⟨hq.1.1.seen, hq.1.2⟩, ⟨hq.2.1.seen, hq.2.2⟩⟩
end
theorem cells_three_new (w : World) (a b c : Value) (t : TypeId) : ∀ j u, [a, b, c][j]? = some u → (w.alloc (.cells #[a, b, c] t)).cell? ((⟨w.heap.size, 0, none⟩ : Addr).add j) = some u := by
  intro j u hj
  rw [add_plain, World.cell?_alloc_at _ _ _ _ rfl]
  simpa using hj
theorem wpList_append_put {P : Program} (w : World) {ops : Array Oper} {rest : List Oper} {o : Oper} {ac : Act} {Q : Exit → Act → World → Prop} (hgd : o.guard = none) (s x : Operand) (t : TypeId)
    (ho : o.op = .call { callee := .builtin .append, args := #[s, x], argTypes := #[t, t] })
    (e : TypeId) (i : TypeInfo) (z : Value) (ht : P.underlying t = some (.slice e)) (hi : P.info? e = some i) (hz : i.zero = some z)
    (hsize : i.size = 3) (hby : i.bytes = 56) (hzs : z.cells.size = 3)
    (w0 w1 : World) (ps : List PPut) (A : Option Addr) (n c : Nat) (q : PPut) (c0 c1 c2 : Value) (hs : ac.eval s = .slice A n c) (hx : ac.eval x = .slice (some ⟨w.heap.size, 0, none⟩) 1 1)
    (h1 : ListAt e w0 ps (.slice A n c) w1) (h : ListAt e w0 ps (.slice A n c) w) (hn : ps.length = n) (hq : PutOff w (fun b => b < w1.heap.size) q) (hcells : pcells q = [c0, c1, c2]) (hb : n + 1 ≤ 2199023255552)
    (K : ∀ A' c' w', ListAt e w0 (ps ++ [q]) (.slice A' (n + 1) c') w' → Spared w w' (fun b => w0.heap.size ≤ b) → wpList P ops Q rest (ac.put o.dst (.slice A' (n + 1) c')) w') :
    wpList P ops Q (o :: rest) ac (w.alloc (.cells #[c0, c1, c2] e)) := by
  have hal : Below w.heap.size w (w.alloc (.cells #[c0, c1, c2] e)) := (Below.refl _ _).alloc (Nat.le_refl _) _
  have h' := h.below hal
  have hlist := h'.1
  have hB := h'.2.1
  rw [hn] at hlist
  refine wpList_append_own_at (w.alloc (.cells #[c0, c1, c2] e)) hgd s x t ho w0.heap.size e i z 3 56 ht hi hz hsize hby hzs (by decide) _ n _ hs hlist ⟨w.heap.size, 0, none⟩ 1 1 [c0, c1, c2] hx rfl (cells_three_new _ _ _ _ _) (by
    intro u hu
    rw [← hcells] at hu
    simp [pcells] at hu
    rcases hu with rfl | rfl | rfl <;> rfl) (by unfold maxLen; omega) (by omega) hB ?_
  intro v' w' hown hg _ hat
  obtain ⟨A', c', rfl⟩ : ∃ A' c', v' = .slice A' (n + 1) c' := by
    rcases hown.2 with ⟨rfl, h0⟩ | ⟨_, _, _, rfl, _⟩
    · exact absurd h0 (by omega)
    · exact ⟨_, _, rfl⟩
  refine K A' c' w' (h1.more h' (hq.moved (Spared.of_below hal _) (fun i hi => .inl hi)) (by rw [hn, hcells]; exact hown) hg ?_) ?_
  · rcases hat with hat | hat
    · exact .inl hat
    · exact .inr ⟨_, hat, Nat.le_refl _⟩
  · refine (Spared.of_below hal _).trans (Spared.of_grown hg (F := fun b => w0.heap.size ≤ b) (fun k e _ => (hlist.lt k e).1)) (fun i hi => .inl hi)
theorem only_spared {w w' w'' : World} {row : Option Nat} (h : w.grownBy w' row) (hs : Spared w' w'' (fun b => w.heap.size ≤ b)) : w.grownBy w'' row :=
  ⟨hs.os.trans h.os, hs.tape.trans h.tape, hs.output.trans h.output, Nat.le_trans h.size hs.size, fun k hk hne => (hs.block k (Nat.lt_of_lt_of_le hk h.size) (by omega)).trans (h.block k hk hne)⟩
end Go.Proofs.YtdaahapbpnjkfaaGreat
namespace Go.Proofs.YtdaahapbpnjkfaaGreat
open Go.RowKit
theorem step_append_cells {P : Program} {t e : TypeId} {s b : Nat} {i : TypeInfo} {z : Value} (R : RowTy P t e s b i z) {w : World} {ops : Array Oper} {o : Oper} {a : Act} {K : Act → World → Prop} {Q : Exit → Act → World → Prop} {E : Prop} (hgd : o.guard = none) (sx x : Operand)
    (ho : o.op = .call { callee := .builtin .append, args := #[sx, x], argTypes := #[t, t] }) (F : Nat → Prop) (base : Nat) (v : Value) (n : Nat) (xs : List Value) (hs : a.eval sx = v) (hown : w.ownsRow base e s v n xs)
    (A : Option Addr) (C : List Value) (m c : Nat) (hx : a.eval x = .slice A m c) (hC : C.length = m * s) (hr : Cells w F A C) (h1 : ∀ u ∈ C, u.oneCell' = true) (hb : (n + m) * b ≤ 140737488355328) (hm : n + m ≤ 1000000) (hbase : base ≤ w.heap.size)
    (h : ∀ v' w', w'.ownsRow base e s v' (n + m) (xs ++ C) → w.grownBy w' v.ownBlock → K (a.put o.dst v') w') :
    if Region.wanted o (yielded ops a.tmps) = true then Oper.wp P o a w K Q else E := by
  have hw : Region.wanted o (yielded ops a.tmps) = true := by simp [Region.wanted, hgd]
  rw [if_pos hw]
  obtain ⟨v', w', hrun, h2, h3⟩ := run_append_cells R o.type w F base v n xs hown A C m c hC hr h1 hb hm hbase
  unfold Oper.wp execOp
  simp only [ho, resolve, invoke, builtin, Sem.run_bind, Sem.run_pure, Result.andThen_ok, List.map_toArray, List.map_cons, List.map_nil, hs, hx, hrun]
  exact h v' w' h2 h3
end Go.Proofs.YtdaahapbpnjkfaaGreat
namespace Go.Proofs.YtdaahapbpnjkfaaGreat
open Go.RowKit
def RCopyOut (w : World) (F : Nat → Prop) (room : Int) (L : List Kv) (e : Ending) (w' : World) : Prop :=
  Below w.heap.size w w' ∧ ∃ gc, e = .returned (.pointer (some ⟨gc, 0, none⟩)) ∧ w.heap.size ≤ gc ∧ gc < w'.heap.size ∧ MapAt w' (fun b => F b ∨ b = gc) gc room L
set_option maxRecDepth 100000 in
set_option maxHeartbeats 2000000 in
theorem rcopy_any (w : World) (F : Nat → Prop) (hF : ∀ b, F b → b < w.heap.size) (gm : Nat) (room : Int) (L : List Kv) (t : MapAt w F gm room L) :
    Calls Tryz.prog 64 #[.pointer (some ⟨gm, 0, none⟩)] w (RCopyOut w F room L) := by
  have hsrt : Srt L := t.2.1
  obtain ⟨A, c, els, he, hel, hb, hcl, hlc, hao, hn9⟩ := map_els t
  obtain ⟨i0, z0, R⟩ := rowP
  have HR := Lib.hid R
  have HSRT := Lib.hid hsrt
  have HE := Lib.hid he
  have HB := Lib.hid hb
  have HCL := Lib.hid hcl
  have HAO := Lib.hid hao
  have HF := Lib.hid hF
  obtain ⟨n, hn⟩ : ∃ n, n = L.length := ⟨_, rfl⟩
  have HN := Lib.hid hn
  rw [← hn] at hel HB hlc hn9
  have HEL := Lib.hid hel
  have x0 := HB.out.cell (i := 0) (by simp)
  have x1 := HB.out.cell (i := 1) (by simp)
  simp only [List.getElem_cons_zero, List.getElem_cons_succ] at x0 x1
  clear t hsrt he hb hcl hao hF hn hel R
  go_enter Tryz.func64, Tryz.ntmps64
  have bd : Below w.heap.size w w.drew := (Below.refl _ _).drew
  have HC : Hid (∀ W, Below w.heap.size w W → W.cell? ⟨gm, 0, none⟩ = some (.int .i64 room) ∧ W.cell? ⟨gm, 1, none⟩ = some (.slice A n c)) := fun W hW => by
    have := HB.out.below hW HB.out.lt
    exact ⟨this.cell (i := 0) (by simp), this.cell (i := 1) (by simp)⟩
  clear x0 x1
  go_wp2_with fail
  go_region_held_law (fun W => W.cell? ⟨gm, 0, none⟩ = some (.int .i64 room) ∧ W.cell? ⟨gm, 1, none⟩ = some (.slice A n c))
    (first | exact HC.out _ bd | exact HC.out _ B6 | exact HC.out _ (B6.alloc B6.size _))
    (first
      | (refine step_append_cells HR.out rfl (.const (.slice none 0 0)) (.tmp 10) rfl F w.heap.size (.slice none 0 0) 0 [] (by simp [Act.eval]) (World.ownsRow_nil _ _ _ _) A (rowCells 0 els) n c (by simp [Act.eval]) (by rw [rowCells_length, HEL.out]; rfl) (HCL.out.below bd) (rowCells_one 0 els) (by omega) (by omega) bd.size ?_
         intro v6 w6 ho6 hg6
         rw [Nat.zero_add, List.nil_append] at ho6
         obtain ⟨A6, c6, rfl⟩ := own_shape ho6
         have O6 := Lib.hid ho6
         have B6 : Below w.heap.size w w6 := below_grown bd (Nat.le_refl _) (World.ownsRow_nil w.drew w.heap.size 123 2) hg6
         clear ho6 hg6))
  all_goals
    go_wp2_with fail
    go_ret
    have B7 := B6.alloc B6.size (.cells #[.int .i64 room, .slice A6 n c6] 119)
    have hoc := own_cells O6.out
    have hG : ∀ j, (F j ∨ j = w6.heap.size) → j < w.heap.size ∨ w6.heap.size ≤ j := fun j hj => hj.imp (HF.out j) (fun h => by omega)
    refine ⟨B7, w6.heap.size, rfl, B6.size, by simp, .inr rfl, HSRT.out, by rw [← HN.out]; exact hn9, A6, c6, els, HE.out, ?_, ?_, by rw [← HN.out]; exact hoc.2, fun x hx => ?_⟩
    · rw [← HN.out]; exact Blk.new w6 [.int .i64 room, .slice A6 n c6] _
    · exact hoc.1.moved (.of_below ((Below.refl _ _).alloc (Nat.le_refl _) _) _) hG
    · exact EOk.moved (.of_below B7 F) (fun j hj => hj.imp id (fun h => by have := B6.size; omega)) 0 x (HAO.out x hx)
def sizeP (l : List PutV) : Nat := (l.map fun p => p.1.length + p.2.1.length).sum
theorem sizeP_cons (p : PutV) (l : List PutV) : sizeP (p :: l) = p.1.length + p.2.1.length + sizeP l := by simp [sizeP]
theorem sizeP_append (a b : List PutV) : sizeP (a ++ b) = sizeP a + sizeP b := by simp [sizeP]
theorem size_doV {L : List Kv} (hs : Srt L) (p : PutV) : sizeT (doV L p) ≤ sizeT L + (p.1.length + p.2.1.length) := by
  have hd : sizeT (delL p.1 L) ≤ sizeT L := by
    cases hh : hasL p.1 L
    · rw [delL_not hs hh]; exact Nat.le_refl _
    · have := (sizeL_has hs hh).1; omega
  unfold doV
  split
  · omega
  · have := (sizeL_put p.1 p.2.1 L).1; omega
theorem size_doAll {l : List PutV} : ∀ {L : List Kv}, Srt L → sizeT (doAll l L) ≤ sizeT L + sizeP l := by
  induction l with
  | nil => intro L _; exact Nat.le_add_right _ _
  | cons p l ih =>
    intro L hs
    have h1 := ih (hs.doV p)
    have h2 := size_doV hs p
    rw [sizeP_cons]
    show sizeT (doAll l (doV L p)) ≤ _
    omega
theorem vals_take {ps : List PPut} {i : Nat} (h : i < ps.length) : doAll ((valsOf ps).take (i + 1)) = fun L => doV (doAll ((valsOf ps).take i) L) (valOf ps[i]) := by
  funext L
  have e : (valsOf ps).take (i + 1) = (valsOf ps).take i ++ [valOf ps[i]] := by
    rw [List.take_succ_eq_append_getElem (by rw [valsOf_length]; exact h)]
    simp [valsOf]
  rw [e, doAll_append]
  rfl
theorem sizeP_take {ps : List PPut} {i : Nat} (h : i < ps.length) : sizeP ((valsOf ps).take i) + (ps[i].1.2.1.length + ps[i].2.1.2.1.length) ≤ sizeP (valsOf ps) := by
  have e : valsOf ps = (valsOf ps).take i ++ (valOf ps[i] :: (valsOf ps).drop (i + 1)) := by
    conv => lhs; rw [← List.take_append_drop i (valsOf ps)]
    rw [List.drop_eq_getElem_cons (by rw [valsOf_length]; exact h)]
    simp [valsOf]
  conv => rhs; rw [e]
  rw [sizeP_append, sizeP_cons]
  show _ + (_ + _) ≤ _ + (ps[i].1.2.1.length + ps[i].2.1.2.1.length + _)
  omega
def RDoOut (w : World) (F : Nat → Prop) (room : Int) (L : List Kv) (e : Ending) (w' : World) : Prop :=
  Below w.heap.size w w' ∧ ∃ gc, e = .returned (.pointer (some ⟨gc, 0, none⟩)) ∧ w.heap.size ≤ gc ∧ gc < w'.heap.size ∧ MapAt w' (fun b => F b ∨ b = gc) gc room L
set_option maxRecDepth 100000 in
set_option maxHeartbeats 2000000 in
theorem rdo_any (w : World) (F : Nat → Prop) (hF : ∀ b, F b → b < w.heap.size) (gm : Nat) (room : Int) (L : List Kv) (t : MapAt w F gm room L) (A : Option Addr) (ps : List PPut) (n c : Nat) (hs : PutsSeen w A ps) (hn : ps.length = n) (hl : L.length + n ≤ 99999) (hb : sizeT L + sizeP (valsOf ps) ≤ 1000000000) (hr : ((sizeT L + sizeP (valsOf ps) : Nat) : Int) ≤ room) :
    Calls Tryz.prog 28 #[.pointer (some ⟨gm, 0, none⟩), .slice A n c] w (RDoOut w F room (doAll (valsOf ps) L)) := by
  have HCO := Lib.hid (rcopy_any w F hF gm room L t)
  have HSRT : Hid (Srt L) := t.2.1
  have HF := Lib.hid hF
  have HS := Lib.hid hs
  have HN := Lib.hid hn
  have HL := Lib.hid hl
  have HB := Lib.hid hb
  have HRM := Lib.hid hr
  clear t hF hs hn hl hb hr
  go_enter Tryz.func28, Tryz.ntmps28
  go_wp2_with fail
  with_reducible refine HCO.out.mono ?_
  rintro e w1 ⟨hb1, gc, rfl, hg1, hg2, ht1⟩
  have B1 := Lib.hid hb1
  have HG : Hid (w.heap.size ≤ gc) := hg1
  have T1 := Lib.hid ht1
  clear hb1 hg1 hg2 ht1 HCO
  go_wp2_with fail
  go_loopg [6] n (fun kx s wr => ∃ i : Nat, i + kx = n ∧ s = .int .i64 (i : Int) ∧ Below w.heap.size w wr ∧ MapAt wr (fun b => F b ∨ b = gc) gc room (doAll ((valsOf ps).take i) L))
  case atStart => exact ⟨0, by omega, rfl, B1.out, T1.out⟩
  case round =>
    obtain ⟨i, hi, rfl, hbr, htr⟩ := hrel
    have HI := Lib.hid hi
    have BR := Lib.hid hbr
    have TR := Lib.hid htr
    clear hi hbr htr T1 B1
    by_cases hlt : i < n
    · have hkl : (i : Int) < (n : Int) := by omega
      have hin : i < ps.length := by have := HN.out; omega
      obtain ⟨b, off, rfl, hok, hc⟩ := HS.out.at_ i hin
      obtain ⟨⟨⟨KA, y, kc⟩, ⟨VA, x, vc⟩, gone⟩, hq⟩ : ∃ q, q = ps[i] := ⟨_, rfl⟩
      have htake := congrFun (vals_take hin) L
      have hsz := sizeP_take hin
      rw [← hq] at hok hc htake hsz
      have hsrt : Srt (doAll ((valsOf ps).take i) L) := HSRT.out.doAll _
      have hlen : (doAll ((valsOf ps).take i) L).length ≤ 99998 := by
        have h5 := doAll_length (l := (valsOf ps).take i) HSRT.out
        rw [List.length_take] at h5
        have := HL.out
        omega
      have hsum : sizeT (doAll ((valsOf ps).take i) L) + (y.length + x.length) ≤ 1000000000 ∧ ((sizeT (doAll ((valsOf ps).take i) L) + (y.length + x.length) : Nat) : Int) ≤ room := by
        have h5 := size_doAll (l := (valsOf ps).take i) HSRT.out
        have h6 : sizeP ((valsOf ps).take i) + (y.length + x.length) ≤ sizeP (valsOf ps) := hsz
        have := HB.out
        have := HRM.out
        omega
      have sy : Seen w KA y := hok.1.1
      have sx : Seen w VA x := hok.2.1
      obtain ⟨m, hm⟩ : ∃ m, m = y.length := ⟨_, rfl⟩
      obtain ⟨z, hz⟩ : ∃ z, z = x.length := ⟨_, rfl⟩
      have HCL : Hid (∀ w', Below w.heap.size w w' → w'.cell? ⟨b, off + i * 3, none⟩ = some (.slice KA m kc) ∧ w'.cell? ⟨b, off + i * 3 + 1, none⟩ = some (.slice VA z vc) ∧ w'.cell? ⟨b, off + i * 3 + 2, none⟩ = some (.bool gone)) := fun w' hw' => by
        rw [hm, hz]; exact hc w' hw'
      have HLT : Hid (∀ j, F j ∨ j = gc → j < wr.heap.size) := fun j hj => by
        rcases hj with hj | rfl
        · exact Nat.lt_of_lt_of_le (HF.out j hj) BR.out.size
        · exact TR.out.lt
      obtain ⟨Z, hZ⟩ : ∃ Z, Z = doAll ((valsOf ps).take i) L := ⟨_, rfl⟩
      rw [← hZ] at TR hsrt hlen hsum htake
      rw [← hm, ← hz] at hsum
      obtain ⟨o0, o1, o2⟩ := HCL.out wr BR.out
      have hwi : IntKind.i64.wrap ((i : Int) + 1) = ((i + 1 : Nat) : Int) := by have := HL.out; rw [IntKind.wrap_i64]; omega
      have HTAKE := Lib.hid htake
      have HSY := Lib.hid sy
      have HSX := Lib.hid sx
      have HM := Lib.hid hm
      have HZL := Lib.hid hz
      have HSZ := Lib.hid hsum
      have HLEN := Lib.hid hlen
      have HSRZ := Lib.hid hsrt
      clear hok hc hq hsz hin sy sx hm hz hZ hsum hlen hsrt htake
      cases gone
      · have HPUT : Hid (∀ W, Below wr.heap.size wr W → Calls Tryz.prog 66 #[.pointer (some ⟨gc, 0, none⟩), .slice KA m kc, .slice VA z vc] W (RPutOut W (fun b => F b ∨ b = gc) gc room Z y x)) := fun W hW =>
          rput_any W _ (fun j hj => Nat.lt_of_lt_of_le (HLT.out j hj) hW.size) gc room Z KA VA y x m kc z vc (TR.out.below hW) (Nat.le_succ_of_le HLEN.out) (HSY.out.below (hop BR.out hW)) HM.out.symm (HSX.out.below (hop BR.out hW)) HZL.out.symm (by have := HSZ.out.1; omega) (by have := HSZ.out.1; omega)
        have bd : Below wr.heap.size wr wr.drew := (Below.refl _ _).drew
        have HC : Hid (∀ W, Below w.heap.size w W → W.cell? ⟨b, off + i * 3, none⟩ = some (.slice KA m kc) ∧ W.cell? ⟨b, off + i * 3 + 1, none⟩ = some (.slice VA z vc)) := fun W hW => ⟨(HCL.out W hW).1, (HCL.out W hW).2.1⟩
        have BRD : Below w.heap.size w wr.drew := BR.out.drew
        clear o0 o1
        go_wp2_with fail
        go_region_held_law (fun W => W.cell? ⟨b, off + i * 3, none⟩ = some (.slice KA m kc) ∧ W.cell? ⟨b, off + i * 3 + 1, none⟩ = some (.slice VA z vc))
          (first | exact HC.out _ BRD | exact HC.out _ B7)
          (first
            | (go_at_call 66; (with_reducible refine (HPUT.out _ bd).mono ?_); rintro e w7 ⟨r7, L7, rfl, ht7, hs7, hr7⟩; have T7 := Lib.hid ht7; have B7 : Below w.heap.size w w7 := hs7.below BRD (fun j hj => by have := HG.out; omega); have HR7 := Lib.hid hr7; clear ht7 hs7 hr7))
        all_goals
          have HE7 : Hid (L7 = putT y x Z) := by
            show _ = _
            rcases HR7.out with ⟨h1, _, _⟩ | ⟨_, _, h1⟩
            · have h2 := size_doV HSRZ.out (y, x, false)
              have h3 : sizeT (putT y x Z) ≤ sizeT Z + (y.length + x.length) := h2
              rw [← HM.out, ← HZL.out] at h3
              have := HSZ.out.2
              omega
            · exact h1
          go_wp2_with fail
          go_roundg (n - (i + 1))
          case measure => have := HI.out; omega
          case rel => exact ⟨i + 1, by have := HI.out; omega, rfl, B7, by have h8 := T7.out; rw [HE7.out] at h8; rw [HTAKE.out]; exact h8⟩
      · have HDE := Lib.hid (rdel_any wr _ HLT.out gc room Z KA y m kc TR.out (HSY.out.below BR.out) HM.out.symm)
        go_wp2_with fail
        with_reducible refine HDE.out.mono ?_
        rintro e w7 ⟨rfl, ht7, hs7⟩
        have T7 := Lib.hid ht7
        have B7 : Below w.heap.size w w7 := hs7.below BR.out (fun j hj => by have := HG.out; omega)
        clear ht7 hs7
        go_wp2_with fail
        go_roundg (n - (i + 1))
        case measure => have := HI.out; omega
        case rel => exact ⟨i + 1, by have := HI.out; omega, rfl, B7, by have h8 := T7.out; rw [HTAKE.out]; exact h8⟩
    · obtain rfl : i = n := by have := HI.out; omega
      have hkl : ¬ (i : Int) < (i : Int) := by omega
      have HE : Hid ((valsOf ps).take i = valsOf ps) := List.take_of_length_le (by rw [valsOf_length, HN.out]; exact Nat.le_refl _)
      go_wp2_with fail
      go_ret
      exact ⟨BR.out, gc, rfl, HG.out, TR.out.lt, by have := TR.out; rw [HE.out] at this; exact this⟩
end Go.Proofs.YtdaahapbpnjkfaaGreat
namespace Go.Proofs.YtdaahapbpnjkfaaGreat
open Go.RowKit
theorem oneL_size {r u : List UInt8} {p : PutV} (h : oneL r = some (p, u)) : p.1.length + p.2.1.length + u.length < r.length := by
  cases r with
  | nil => cases h
  | cons c r =>
    rw [oneL] at h
    rw [List.length_cons]
    split at h
    · split at h
      · cases h
      · rename_i t u' ht
        injection h with h; injection h with h1 h2; subst h1 h2
        have := textL_less ht
        simp only [List.length_nil]; omega
    · split at h
      · split at h
        · cases h
        · rename_i t u' ht
          split at h
          · cases h
          · rename_i v x hv
            injection h with h; injection h with h1 h2; subst h1 h2
            have := textL_less ht; have := textL_less hv
            simp only; omega
      · cases h
theorem readN_size : ∀ (n : Nat) (r : List UInt8) (acc l : List PutV), readN n r acc = some l → l.length ≤ acc.length + r.length ∧ sizeP l ≤ sizeP acc + r.length
  | 0, r, acc, l, h => by
    rw [readN] at h
    split at h
    · injection h with h; subst h; omega
    · cases h
  | n + 1, r, acc, l, h => by
    rw [readN] at h
    split at h
    · cases h
    · rename_i p u hp
      have h1 := readN_size n u (acc ++ [p]) l h
      have h2 := oneL_size hp
      have h3 : sizeP [p] = p.1.length + p.2.1.length := by rw [sizeP_cons]; rfl
      rw [List.length_append, List.length_singleton, sizeP_append, h3] at h1
      omega
theorem putsL_size {d : List UInt8} {l : List PutV} (h : putsL d = some l) : l.length ≤ d.length ∧ sizeP l ≤ d.length := by
  unfold putsL at h
  split at h
  · cases h
  · have h1 := readN_size _ _ _ _ h
    rw [List.length_drop] at h1
    have h2 : sizeP ([] : List PutV) = 0 := rfl
    rw [List.length_nil, h2] at h1
    omega
def sizeD (ds : List (List UInt8)) : Nat := (ds.map List.length).sum
theorem sizeD_cons (d : List UInt8) (ds : List (List UInt8)) : sizeD (d :: ds) = d.length + sizeD ds := by simp [sizeD]
theorem recsL_size : ∀ {ds : List (List UInt8)} {L M : List Kv}, Srt L → recsL ds L = some M → M.length ≤ L.length + sizeD ds ∧ sizeT M ≤ sizeT L + sizeD ds := by
  intro ds
  induction ds with
  | nil => intro L M _ h; injection h with h; subst h; exact ⟨Nat.le_add_right _ _, Nat.le_add_right _ _⟩
  | cons d ds ih =>
    intro L M hs h
    rw [recsL] at h
    cases hp : putsL d with
    | none => rw [hp] at h; cases h
    | some l =>
      rw [hp] at h
      have h1 := ih (hs.doAll l) h
      have h2 := putsL_size hp
      have h3 := doAll_length (l := l) hs
      have h4 := size_doAll (l := l) hs
      rw [sizeD_cons]
      omega
theorem framesL_size (g : Int) : ∀ (ds : List (List UInt8)) (s : Nat), sizeD ds ≤ (framesL g s ds).length
  | [], _ => Nat.zero_le _
  | d :: ds, s => by
    have h1 := framesL_size g ds (s + 1)
    have h2 : d.length ≤ (frameL g (s : Int) d).length := by
      unfold frameL headL
      simp only [List.length_append, List.length_cons]
      omega
    rw [framesL, List.length_append, sizeD_cons]
    omega
theorem open_size {b : List UInt8} {g : Int} {ds : List (List UInt8)} (h : openL b = some (g, ds)) : sizeD ds ≤ b.length := by
  obtain ⟨_, _, h3, _⟩ := open_some h
  have h4 := scan_fits g b.length b 0 (Nat.le_refl _)
  rw [← h3] at h4
  exact Nat.le_trans (framesL_size g ds 0) h4
theorem KvOn.small {s : Dsk} {h a : Nat} {g : Int} {ds : List (List UInt8)} {L : List Kv} (k : KvOn s h a g ds L) : L.length ≤ h * 64 ∧ sizeT L ≤ h * 64 := by
  have h1 := recsL_size Srt.nil k.recs
  have h2 := open_size k.mine
  rw [bytes_area k.has.calm, k.has.bytes] at h2
  have h3 : sizeT ([] : List Kv) = 0 := rfl
  rw [List.length_nil, h3] at h1
  omega
end Go.Proofs.YtdaahapbpnjkfaaGreat
namespace Go.Proofs.YtdaahapbpnjkfaaGreat
open Go.RowKit
def psCells (g b gt f : Nat) (down : Bool) : List Value := [.pointer (some ⟨g, 0, none⟩), .int .i64 (f : Int), .pointer (some ⟨b, 0, none⟩), .pointer (some ⟨gt, 0, none⟩), .bool (!down)]
abbrev anyRoom : Int := 9223372036854775807
structure PSt (w : World) (T : Nat → Prop) (q g b gt : Nat) (F : Nat → Prop) (h : Nat) (s : Dsk) (k : KvS) : Prop where
  disk : DiskAt w g F s
  log : Blk w b (lgCells g k.lg) 145
  box : Blk w q (psCells g b gt (k.a * h) k.down) 94
  tree : TreeAt w T gt anyRoom k.L
  ins : ∀ x, (F x ∨ x = b ∨ x = q ∨ x = gt) → T x
  tlt : ∀ x, T x → x < w.heap.size
  nb : ¬ F b
  nq : ¬ F q
  nt : ¬ F gt
  bq : b ≠ q
  bt : b ≠ gt
  qt : q ≠ gt
  fits : k.Fits h s
  half : h = s.K.length / 2
def PTo (w : World) (T : Nat → Prop) (q g b gt : Nat) (F : Nat → Prop) (h : Nat) (s' : Dsk) (k' : KvS) (w' : World) : Prop :=
  ∃ (T' : Nat → Prop) (b' gt' : Nat) (F' : Nat → Prop), PSt w' T' q g b' gt' F' h s' k' ∧ Spared w w' (fun x => F x ∨ x = b ∨ x = q ∨ x = gt) ∧ (∀ x, T x → T' x) ∧ (∀ x, T' x → T x ∨ w.heap.size ≤ x) ∧ ∀ x, (F' x ∨ x = b' ∨ x = gt') → (F x ∨ x = b ∨ x = gt) ∨ w.heap.size ≤ x
section
variable {w w' : World} {T : Nat → Prop} {q g b gt : Nat} {F : Nat → Prop} {h : Nat} {s : Dsk} {k : KvS}
theorem PSt.below (p : PSt w T q g b gt F h s k) (hb : Below w.heap.size w w') : PSt w' T q g b gt F h s k :=
  ⟨p.disk.still hb, p.log.below hb p.log.lt, p.box.below hb p.box.lt, p.tree.below hb, p.ins, fun x hx => Nat.lt_of_lt_of_le (p.tlt x hx) hb.size, p.nb, p.nq, p.nt, p.bq, p.bt, p.qt, p.fits, p.half⟩
theorem PTo.still (p : PSt w T q g b gt F h s k) (hb : Below w.heap.size w w') : PTo w T q g b gt F h s k w' :=
  ⟨T, b, gt, F, p.below hb, .of_below hb _, fun _ h => h, fun _ h => .inl h, fun _ h => .inl h⟩
theorem PSt.cells (p : PSt w T q g b gt F h s k) : ∀ W, Below w.heap.size w W → W.cell? ⟨q, 0, none⟩ = some (.pointer (some ⟨g, 0, none⟩)) ∧ W.cell? ⟨q, 1, none⟩ = some (.int .i64 ((k.a * h : Nat) : Int)) ∧ W.cell? ⟨q, 2, none⟩ = some (.pointer (some ⟨b, 0, none⟩)) ∧ W.cell? ⟨q, 3, none⟩ = some (.pointer (some ⟨gt, 0, none⟩)) ∧ W.cell? ⟨q, 4, none⟩ = some (.bool (!k.down)) := fun W hW => by
  have h1 := p.box.below hW p.box.lt
  exact ⟨h1.cell (i := 0) (by simp [psCells]), h1.cell (i := 1) (by simp [psCells]), h1.cell (i := 2) (by simp [psCells]), h1.cell (i := 3) (by simp [psCells]), h1.cell (i := 4) (by simp [psCells])⟩
theorem half_any (hd : DiskAt w g F s) (hh : h = s.K.length / 2) : Calls Tryz.prog 40 #[.pointer (some ⟨g, 0, none⟩)] w fun e w' => e = .returned (.int .i64 (h : Int)) ∧ w' = w := by
  have HB := Lib.hid (blocks_any hd)
  have hK := hd.ok.hi
  generalize s.K.length = N at *
  have hw : IntKind.i64.wrap ((N : Int) / 2) = (h : Int) := by rw [IntKind.wrap_i64]; omega
  clear hd hh hK
  go_enter Tryz.func40, Tryz.ntmps40
  go_wp2_with fail
  with_reducible refine HB.out.mono ?_
  rintro e w1 ⟨rfl, rfl⟩
  go_wp2_with fail
  go_ret
  exact ⟨rfl, rfl⟩
theorem up_any (p : PSt w T q g b gt F h s k) : Calls Tryz.prog 34 #[.pointer (some ⟨q, 0, none⟩)] w fun e w' => e = .returned (.bool (!k.down)) ∧ w' = w := by
  have x4 := (p.cells w (Below.refl _ _)).2.2.2.2
  generalize (!k.down) = d at *
  clear p
  go_enter Tryz.func34, Tryz.ntmps34
  go_wp2
  go_ret
  exact ⟨rfl, rfl⟩
theorem turn_any (p : PSt w T q g b gt F h s k) : Calls Tryz.prog 31 #[.pointer (some ⟨q, 0, none⟩)] w fun e w' => e = .returned (.int .i64 k.lg.gen) ∧ w' = w := by
  have x2 := (p.cells w (Below.refl _ _)).2.2.1
  have HG := Lib.hid (gen_any p.log)
  generalize k.lg.gen = n at *
  clear p
  go_enter Tryz.func31, Tryz.ntmps31
  go_wp2_with fail
  with_reducible refine HG.out.mono ?_
  rintro e w1 ⟨rfl, rfl⟩
  go_wp2_with fail
  go_ret
  exact ⟨rfl, rfl⟩
theorem klen_any (p : PSt w T q g b gt F h s k) : Calls Tryz.prog 38 #[.pointer (some ⟨q, 0, none⟩)] w fun e w' => e = .returned (.int .i64 (k.L.length : Int)) ∧ w' = w := by
  have x3 := (p.cells w (Below.refl _ _)).2.2.2.1
  have HG := Lib.hid (len_any w T gt anyRoom k.L p.tree)
  generalize (k.L.length : Int) = n at *
  clear p
  go_enter Tryz.func38, Tryz.ntmps38
  go_wp2_with fail
  with_reducible refine HG.out.mono ?_
  rintro e w1 ⟨rfl, rfl⟩
  go_wp2_with fail
  go_ret
  exact ⟨rfl, rfl⟩
def KGet (w : World) (y : Key) (L : List Kv) (e : Ending) (w' : World) : Prop := Below w.heap.size w w' ∧ ∃ (X : Option Addr) (n c : Nat), e = .returned (.tuple #[.slice X n c, .bool (hasL y L)]) ∧ AwayW w' (fun b => b < w.heap.size) X (gv y L) ∧ (gv y L).length = n
theorem kget_any (p : PSt w T q g b gt F h s k) {B : Option Addr} {y : Key} {m d : Nat} (hk : Seen w B y) (hm : y.length = m) : Calls Tryz.prog 37 #[.pointer (some ⟨q, 0, none⟩), .slice B m d] w (KGet w y k.L) := by
  have x3 := (p.cells w (Below.refl _ _)).2.2.2.1
  have HG := Lib.hid (get_named w T gt anyRoom k.L B y m d p.tree hk hm)
  generalize k.L = L at *
  clear p hk hm
  go_enter Tryz.func37, Tryz.ntmps37
  go_wp2_with fail
  with_reducible refine HG.out.mono ?_
  rintro e w1 ⟨hb, X, n, c, rfl, hx⟩
  have HX : Hid (Below w.heap.size w w1 ∧ AwayW w1 (fun b => b < w.heap.size) X (gv y L) ∧ (gv y L).length = n) := ⟨hb, hx⟩
  clear hb hx HG
  go_wp2_with fail
  go_ret2
  exact ⟨HX.out.1, X, n, c, rfl, HX.out.2⟩
def KScan (w : World) (l : List Kv) (e : Ending) (w' : World) : Prop := Below w.heap.size w w' ∧ ∃ (X : Option Addr) (n c : Nat), e = .returned (.slice X n c) ∧ KvSeen w' X l ∧ l.length = n
def KScanN (w : World) (l : List Kv) (e : Ending) (w' : World) : Prop := Below w.heap.size w w' ∧ ∃ (X : Option Addr) (n c : Nat), e = .returned (.slice X n c) ∧ (∀ W, Spared w' W (fun x => x < w.heap.size) → KvSeen W X l) ∧ l.length = n
theorem kscan_new (p : PSt w T q g b gt F h s k) {R E : Option Addr} {fr tt : Key} {r rc m d : Nat} {mo : Int} (hr : Seen w R fr) (hrl : fr.length = r) (ht : Seen w E tt) (htl : tt.length = m) (hmm : m ≤ 9223372036854775807) :
    Calls Tryz.prog 32 #[.pointer (some ⟨q, 0, none⟩), .slice R r rc, .slice E m d, .int .i64 mo] w (KScanN w (scanT fr tt mo k.L)) := by
  have x3 := (p.cells w (Below.refl _ _)).2.2.2.1
  have HG := Lib.hid (scan_any w T gt anyRoom k.L R E fr tt r rc m d mo p.tree hr hrl ht htl hmm)
  generalize scanT fr tt mo k.L = l at *
  clear p hr hrl ht htl
  go_enter Tryz.func32, Tryz.ntmps32
  go_wp2_with fail
  with_reducible refine HG.out.mono ?_
  rintro e w1 ⟨hb, B0, acc, v, rfl, hB0, hf, hl⟩
  obtain ⟨X, n, c, rfl, hn⟩ : ∃ X n c, v = .slice X n c ∧ l.length = n := by
    obtain ⟨A, c, hv⟩ := hf.form
    exact ⟨A, _, c, hv, by rw [← hl, List.length_map]⟩
  have HX : Hid (Below w.heap.size w w1 ∧ (∀ W, Spared w1 W (fun x => x < w.heap.size) → KvSeen W X l) ∧ l.length = n) := ⟨hb, fun W hW => (hf.moved (hW.mono (fun x (hx : x < w.heap.size) => by show x < B0; omega))).kv hl, hn⟩
  clear hb hf hl hn HG hB0
  go_wp2_with fail
  go_ret
  exact ⟨HX.out.1, X, n, c, rfl, HX.out.2⟩
theorem kscan_any (p : PSt w T q g b gt F h s k) {R E : Option Addr} {fr tt : Key} {r rc m d : Nat} {mo : Int} (hr : Seen w R fr) (hrl : fr.length = r) (ht : Seen w E tt) (htl : tt.length = m) (hmm : m ≤ 9223372036854775807) :
    Calls Tryz.prog 32 #[.pointer (some ⟨q, 0, none⟩), .slice R r rc, .slice E m d, .int .i64 mo] w (KScan w (scanT fr tt mo k.L)) := by
  refine (kscan_new p hr hrl ht htl hmm).mono ?_
  rintro e w' ⟨h1, X, n, c, h2, h3, h4⟩
  exact ⟨h1, X, n, c, h2, h3 w' (.refl _ _), h4⟩
end
end Go.Proofs.YtdaahapbpnjkfaaGreat
