/-
  The document's disk: how it lies in memory. No program is run here.
-/
import Derived.Test.YtkbjhnlihnakkaaDkAll
import Derived.Test.YtkbjhnlihnakkaaGather
namespace Go.Proofs.Ytkbjhnlihnakkaa
open Go.RowKit

def rfCells (vK vM : Value) (off armed : Bool) (left : Int) (calls : Nat) : List Value := [vK, vM, .bool off, .bool armed, .int .i64 left, .int .i64 (calls : Int)]
def mcell (q : Nat × Piece) : List Value := [.int .i64 (q.1 : Int), pv q.2]
theorem mcells_len (PM : List (Nat × Piece)) : ∀ r ∈ PM.map mcell, r.length = 2 := fun r hr => by obtain ⟨q, _, rfl⟩ := List.mem_map.1 hr; rfl
/-- a block of bytes that the document's disk refers to, and never writes -/
def Hold (w : World) (r : Nat) (vK vM : Value) (G : Nat → Prop) (q : Piece) : Prop :=
  q.2.1.length = 64 ∧ ∃ b off, q.1 = some ⟨b, off, none⟩ ∧ b < w.heap.size ∧ G b ∧ b ≠ r ∧ vK.ownBlock ≠ some b ∧ vM.ownBlock ≠ some b ∧ ∀ j (h : j < q.2.1.length), w.cell? ⟨b, off + j, none⟩ = some (.int .u8 (q.2.1[j].toNat : Int))
structure RefIn (w : World) (r : Nat) (vK vM : Value) (PK : List Piece) (PM : List (Nat × Piece)) (armed : Bool) (left : Int) (G : Nat → Prop) (s : Dsk) : Prop where
  blk : Blk w r (rfCells vK vM s.off armed left s.calls) 54
  rowK : w.ownsRow 0 22 1 vK PK.length (PK.map pv)
  rowM : w.ownsRow 0 90 2 vM PM.length (PM.map mcell).flatten
  eqK : PK.map (fun q => q.2.1) = s.K
  eqM : PM.map (fun q => (q.1, q.2.2.1)) = s.M
  gr : G r
  gK : ∀ k, vK.ownBlock = some k → G k ∧ k ≠ r
  gM : ∀ k, vM.ownBlock = some k → G k ∧ k ≠ r
  far : ∀ k, vK.ownBlock = some k → vM.ownBlock ≠ some k
  pK : ∀ q ∈ PK, Hold w r vK vM G q
  pM : ∀ q ∈ PM, Hold w r vK vM G q.2
  lt : ∀ k, G k → k < w.heap.size
  num : ∀ p ∈ s.M, p.1 < s.K.length
  hi : s.K.length ≤ 4096
  arm : s.off = false → armed = decide (0 < s.left) ∧ (0 < s.left → left = (s.left : Int))
def RefAt (w : World) (r : Nat) (G : Nat → Prop) (s : Dsk) : Prop := ∃ vK vM PK PM armed left, RefIn w r vK vM PK PM armed left G s
/-- what a call leaves of it -/
def RMoved (w : World) (r : Nat) (G : Nat → Prop) (s : Dsk) (w' : World) : Prop :=
  ∃ G', RefAt w' r G' s ∧ Spared w w' G ∧ ∀ k, G' k → G k ∨ w.heap.size ≤ k

section
variable {w w' : World} {r : Nat} {vK vM vK' vM' : Value} {PK : List Piece} {PM : List (Nat × Piece)} {armed : Bool} {left : Int} {G G' : Nat → Prop} {s : Dsk} {q : Piece}
theorem Hold.seen (h : Hold w r vK vM G q) : Seen w q.1 q.2.1 := by
  obtain ⟨_, b, off, e, hb, _, _, _, _, hc⟩ := h
  exact .inr ⟨b, off, e, hb, hc⟩
theorem Hold.to (h : Hold w r vK vM G q) (hs : w.heap.size ≤ w'.heap.size) (hk : ∀ b, b < w.heap.size → G b → b ≠ r → vK.ownBlock ≠ some b → vM.ownBlock ≠ some b → w'.heap[b]? = w.heap[b]?) (hG : ∀ b, G b → G' b)
    (hK : ∀ b, b < w.heap.size → vK.ownBlock ≠ some b → vK'.ownBlock ≠ some b) (hM : ∀ b, b < w.heap.size → vM.ownBlock ≠ some b → vM'.ownBlock ≠ some b) : Hold w' r vK' vM' G' q := by
  obtain ⟨h1, b, off, e, hb, h2, h3, h4, h5, hc⟩ := h
  exact ⟨h1, b, off, e, Nat.lt_of_lt_of_le hb hs, hG b h2, h3, hK b hb h4, hM b hb h5, fun j hj => (World.cell?_of_block (a := ⟨b, off + j, none⟩) (hk b hb h2 h3 h4 h5)).trans (hc j hj)⟩
theorem RefIn.len (h : RefIn w r vK vM PK PM armed left G s) : (∀ x ∈ s.K, x.length = 64) ∧ (∀ p ∈ s.M, p.2.length = 64) ∧ PK.length = s.K.length ∧ PM.length = s.M.length := by
  refine ⟨fun x hx => ?_, fun p hp => ?_, ?_, ?_⟩
  · rw [← h.eqK] at hx
    obtain ⟨q, hq, rfl⟩ := List.mem_map.1 hx
    exact (h.pK q hq).1
  · rw [← h.eqM] at hp
    obtain ⟨q, hq, rfl⟩ := List.mem_map.1 hp
    exact (h.pM q hq).1
  · rw [← h.eqK, List.length_map]
  · rw [← h.eqM, List.length_map]
theorem RefIn.ok (h : RefIn w r vK vM PK PM armed left G s) : s.Ok := ⟨h.len.1, h.num, h.len.2.1, h.hi⟩
/-- none of its blocks was written -/
theorem RefIn.keep (h : RefIn w r vK vM PK PM armed left G s) (hs : w.heap.size ≤ w'.heap.size) (hk : ∀ b, b < w.heap.size → G b → w'.heap[b]? = w.heap[b]?) : RefIn w' r vK vM PK PM armed left G s :=
  { h with
    blk := (hk r h.blk.lt h.gr).trans h.blk
    rowK := own_kept h.rowK (fun k e hlt => hk k hlt (h.gK k e).1)
    rowM := own_kept h.rowM (fun k e hlt => hk k hlt (h.gM k e).1)
    pK := fun q hq => (h.pK q hq).to hs (fun b hb hg _ _ _ => hk b hb hg) (fun _ h => h) (fun _ _ h => h) (fun _ _ h => h)
    pM := fun q hq => (h.pM q hq).to hs (fun b hb hg _ _ _ => hk b hb hg) (fun _ h => h) (fun _ _ h => h) (fun _ _ h => h)
    lt := fun k hg => Nat.lt_of_lt_of_le (h.lt k hg) hs }
theorem RefIn.still (h : RefIn w r vK vM PK PM armed left G s) (hb : Below w.heap.size w w') : RefIn w' r vK vM PK PM armed left G s := h.keep hb.size fun b hlt _ => hb.block b hlt
theorem RefAt.still (h : RefAt w r G s) (hb : Below w.heap.size w w') : RefAt w' r G s := by
  obtain ⟨vK, vM, PK, PM, ar, le, h⟩ := h
  exact ⟨vK, vM, PK, PM, ar, le, h.still hb⟩
theorem RefAt.apart {F : Nat → Prop} (h : RefAt w r G s) (hs : Spared w w' F) (hF : ∀ k, G k → ¬ F k) : RefAt w' r G s := by
  obtain ⟨vK, vM, PK, PM, ar, le, h⟩ := h
  exact ⟨vK, vM, PK, PM, ar, le, h.keep hs.size fun b hlt hg => hs.block b hlt (hF b hg)⟩
theorem RefAt.ok (h : RefAt w r G s) : s.Ok := by obtain ⟨_, _, _, _, _, _, h⟩ := h; exact h.ok
theorem RefAt.lt (h : RefAt w r G s) : ∀ k, G k → k < w.heap.size := by obtain ⟨_, _, _, _, _, _, h⟩ := h; exact h.lt
theorem RMoved.still (h : RefAt w r G s) (hb : Below w.heap.size w w') : RMoved w r G s w' := ⟨G, h.still hb, .of_below hb G, fun _ h => .inl h⟩
/-- the cells of the struct -/
theorem RefIn.cells (h : RefIn w r vK vM PK PM armed left G s) : w.cell? ⟨r, 0, none⟩ = some vK ∧ w.cell? ⟨r, 1, none⟩ = some vM ∧ w.cell? ⟨r, 2, none⟩ = some (.bool s.off) ∧ w.cell? ⟨r, 3, none⟩ = some (.bool armed) ∧ w.cell? ⟨r, 4, none⟩ = some (.int .i64 left) ∧ w.cell? ⟨r, 5, none⟩ = some (.int .i64 (s.calls : Int)) :=
  ⟨h.blk.cell (i := 0) (by simp [rfCells]), h.blk.cell (i := 1) (by simp [rfCells]), h.blk.cell (i := 2) (by simp [rfCells]), h.blk.cell (i := 3) (by simp [rfCells]), h.blk.cell (i := 4) (by simp [rfCells]), h.blk.cell (i := 5) (by simp [rfCells])⟩
/-- plain cells of the struct were written -/
theorem RefIn.recell (h : RefIn w r vK vM PK PM armed left G s) {s' : Dsk} {armed' : Bool} {left' : Int} {vM' : Value} {PM' : List (Nat × Piece)} (hc : Blk w' r (rfCells vK vM' s'.off armed' left' s'.calls) 54) (hs : Spared w w' (· = r)) (hK : s'.K = s.K)
    (hM : vM' = vM ∧ PM' = PM ∧ s'.M = s.M ∨ vM' = .slice none 0 0 ∧ PM' = [] ∧ s'.M = []) (ha : s'.off = false → armed' = decide (0 < s'.left) ∧ (0 < s'.left → left' = (s'.left : Int))) : RefIn w' r vK vM' PK PM' armed' left' G s' := by
  have hsz := hs.size
  have hk : ∀ b, b < w.heap.size → b ≠ r → w'.heap[b]? = w.heap[b]? := fun b hlt hb => hs.block b hlt hb
  have hM' : ∀ b, b < w.heap.size → vM.ownBlock ≠ some b → vM'.ownBlock ≠ some b := by
    rcases hM with ⟨rfl, _⟩ | ⟨rfl, _⟩
    · exact fun _ _ h => h
    · exact fun _ _ _ e => by cases e
  refine ⟨?_, ?_, ?_, ?_, ?_, h.gr, h.gK, ?_, ?_, ?_, ?_, ?_, ?_, ?_, ha⟩
  · exact hc
  · exact own_kept h.rowK (fun k e hlt => hk k hlt (h.gK k e).2)
  · rcases hM with ⟨rfl, rfl, _⟩ | ⟨rfl, rfl, _⟩
    · exact own_kept h.rowM (fun k e hlt => hk k hlt (h.gM k e).2)
    · exact World.ownsRow_nil _ _ _ _
  · rw [hK]; exact h.eqK
  · rcases hM with ⟨_, rfl, e⟩ | ⟨_, rfl, e⟩ <;> rw [e]
    · exact h.eqM
    · rfl
  · rcases hM with ⟨rfl, _⟩ | ⟨rfl, _⟩
    · exact h.gM
    · intro k e; cases e
  · intro k e
    rcases hM with ⟨rfl, _⟩ | ⟨rfl, _⟩
    · exact h.far k e
    · exact fun e => by cases e
  · exact fun q hq => (h.pK q hq).to hsz (fun b hlt _ hb _ _ => hk b hlt hb) (fun _ h => h) (fun _ _ h => h) hM'
  · rcases hM with ⟨_, rfl, _⟩ | ⟨_, rfl, _⟩
    · exact fun q hq => (h.pM q hq).to hsz (fun b hlt _ hb _ _ => hk b hlt hb) (fun _ h => h) (fun _ _ h => h) hM'
    · intro q hq; simp at hq
  · exact fun k hg => Nat.lt_of_lt_of_le (h.lt k hg) hsz
  · rcases hM with ⟨_, _, e⟩ | ⟨_, _, e⟩ <;> rw [e]
    · rw [hK]; exact h.num
    · intro p hp; simp at hp
  · rw [hK]; exact h.hi
/-- a cell of the list of blocks -/
theorem RefIn.kcell (h : RefIn w r vK vM PK PM armed left G s) (i : Nat) (hi : i < PK.length) : ∃ kb c, vK = .slice (some ⟨kb, 0, none⟩) PK.length c ∧ w.cell? ⟨kb, i, none⟩ = some (pv PK[i]) ∧ w.frozen? ⟨kb, i, none⟩ = false := by
  rcases h.rowK.2 with ⟨_, h0⟩ | ⟨g, cap, cur, hv, _, hg, _⟩
  · omega
  · refine ⟨g, cap, hv, ?_, ?_⟩
    · have := h.rowK.cells (g := g) (by rw [hv]; rfl) i (pv PK[i]) (by rw [List.getElem?_map, List.getElem?_eq_getElem hi]; rfl)
      rwa [add_plain, Nat.zero_add] at this
    · exact frozen_of_row w g i cur _ hg
/-- the cells of the memory -/
theorem RefIn.mcell (h : RefIn w r vK vM PK PM armed left G s) (k : Nat) (hk : k < PM.length) : ∃ mb c, vM = .slice (some ⟨mb, 0, none⟩) PM.length c ∧ w.cell? ⟨mb, k * 2, none⟩ = some (.int .i64 (PM[k].1 : Int)) ∧ w.cell? ⟨mb, k * 2 + 1, none⟩ = some (pv PM[k].2) := by
  rcases h.rowM.2 with ⟨_, h0⟩ | ⟨g, cap, cur, hv, _, hg, _⟩
  · omega
  · refine ⟨g, cap, hv, ?_, ?_⟩
    · have e := flat_at (PM.map Go.Proofs.Ytkbjhnlihnakkaa.mcell) k 0 (by simpa using hk) (mcells_len PM) (by simp [Go.Proofs.Ytkbjhnlihnakkaa.mcell])
      have := h.rowM.cells (g := g) (by rw [hv]; rfl) _ _ e
      rw [add_plain, Nat.zero_add] at this
      simpa [Go.Proofs.Ytkbjhnlihnakkaa.mcell] using this
    · have e := flat_at (PM.map Go.Proofs.Ytkbjhnlihnakkaa.mcell) k 1 (by simpa using hk) (mcells_len PM) (by simp [Go.Proofs.Ytkbjhnlihnakkaa.mcell])
      have := h.rowM.cells (g := g) (by rw [hv]; rfl) _ _ e
      rw [add_plain, Nat.zero_add] at this
      simpa [Go.Proofs.Ytkbjhnlihnakkaa.mcell] using this
theorem RefIn.forms (h : RefIn w r vK vM PK PM armed left G s) : (∃ A c, vK = .slice A s.K.length c ∧ c ≤ maxLen) ∧ (∃ A c, vM = .slice A s.M.length c ∧ s.M.length ≤ maxLen) := by
  obtain ⟨A, c, e, h1, h2, _⟩ := own_form65 h.rowK
  obtain ⟨A', c', e', h1', h2', _⟩ := own_form65 h.rowM
  rw [h.len.2.2.1] at e
  rw [h.len.2.2.2] at e' h1'
  exact ⟨⟨A, c, e, h2⟩, ⟨A', c', e', Nat.le_trans h1' h2'⟩⟩
/-- a cell of the list of blocks was written: a block of the memory -/
theorem RefIn.swap (h : RefIn w r vK vM PK PM armed left G s) (i : Nat) (_ : i < PK.length) (q : Piece) (hq : Hold w r vK vM G q) (kb c : Nat) (hv : vK = .slice (some ⟨kb, 0, none⟩) PK.length c) :
    RefIn (w.setCell ⟨kb, i, none⟩ (pv q)) r vK vM (PK.set i q) PM armed left G { s with K := s.K.set i q.2.1 } ∧ G kb := by
  have hkb : vK.ownBlock = some kb := by rw [hv]; rfl
  have hsz : w.heap.size ≤ (w.setCell ⟨kb, i, none⟩ (pv q)).heap.size := by simp [World.setCell]
  have hk : ∀ b, b ≠ kb → (w.setCell ⟨kb, i, none⟩ (pv q)).heap[b]? = w.heap[b]? := fun b hb => heap_setCell_other w ⟨kb, i, none⟩ b (pv q) (fun e => hb e)
  have hto : ∀ x, Hold w r vK vM G x → Hold (w.setCell ⟨kb, i, none⟩ (pv q)) r vK vM G x := fun x hx => hx.to hsz (fun b _ _ _ h1 _ => hk b (fun e => h1 (by rw [hkb, e]))) (fun _ h => h) (fun _ _ h => h) (fun _ _ h => h)
  refine ⟨⟨?_, ?_, ?_, ?_, h.eqM, h.gr, h.gK, h.gM, h.far, ?_, fun x hx => hto x.2 (h.pM x hx), fun k hg => Nat.lt_of_lt_of_le (h.lt k hg) hsz, ?_, ?_, h.arm⟩, (h.gK kb hkb).1⟩
  · exact (hk r (fun e => (h.gK kb hkb).2 e.symm)).trans h.blk
  · rw [List.length_set, List.map_set]
    have h1 := h.rowK
    rw [hv] at h1 ⊢
    exact (h1.stored i (pv q)).1
  · exact own_kept h.rowM (fun k e _ => hk k (fun e' => h.far kb hkb (by rw [e, e'])))
  · rw [List.map_set, h.eqK]
  · intro x hx
    rcases List.mem_or_eq_of_mem_set hx with h1 | rfl
    · exact hto x (h.pK x h1)
    · exact hto x hq
  · intro p hp; show p.1 < (s.K.set i q.2.1).length; rw [List.length_set]; exact h.num p hp
  · show (s.K.set i q.2.1).length ≤ _; rw [List.length_set]; exact h.hi
/-- one more block in the memory -/
theorem ref_appended {w1 w5 : World} {gm cap' : Nat} (h : RefIn w r vK vM PK PM armed left G s) (hb : Below w.heap.size w w1) (hgr : w1.grownBy w5 vM.ownBlock) (i : Nat) (q : Piece) (hi : i < s.K.length) (hl : q.2.1.length = 64)
    (hq : ∃ b, q.1 = some ⟨b, 0, none⟩ ∧ w.heap.size ≤ b ∧ b < w1.heap.size ∧ ∀ j (h : j < q.2.1.length), w1.cell? ⟨b, 0 + j, none⟩ = some (.int .u8 (q.2.1[j].toNat : Int)))
    (hown : w5.ownsRow 0 90 2 (.slice (some ⟨gm, 0, none⟩) (PM.length + 1) cap') (PM.length + 1) ((PM.map Go.Proofs.Ytkbjhnlihnakkaa.mcell).flatten ++ Go.Proofs.Ytkbjhnlihnakkaa.mcell (i, q))) (hat : vM.ownBlock = some gm ∨ gm = w1.heap.size) (hlt : gm < w5.heap.size) :
    RefIn (w5.setCell ⟨r, 1, none⟩ (.slice (some ⟨gm, 0, none⟩) (PM.length + 1) cap')) r vK (.slice (some ⟨gm, 0, none⟩) (PM.length + 1) cap') PK (PM ++ [(i, q)]) armed left (fun k => G k ∨ (w.heap.size ≤ k ∧ k < w5.heap.size)) { s with M := s.M ++ [(i, q.2.1)] } ∧
    Spared w (w5.setCell ⟨r, 1, none⟩ (.slice (some ⟨gm, 0, none⟩) (PM.length + 1) cap')) G ∧ w5.cell? ⟨r, 1, none⟩ = some vM ∧ w5.frozen? ⟨r, 1, none⟩ = false := by
  have hr1 : Blk w1 r _ _ := h.blk.below hb h.blk.lt
  have hrM : vM.ownBlock ≠ some r := fun e => (h.gM r e).2 rfl
  have hr5 : Blk w5 r (rfCells vK vM s.off armed left s.calls) 54 := (hgr.block r hr1.lt (fun e => hrM e.symm)).trans hr1
  have hmr : gm ≠ r := by
    rcases hat with e | e
    · exact (h.gM gm e).2
    · have := hr1.lt; omega
  have hmK : ∀ k, vK.ownBlock = some k → gm ≠ k := fun k e e' => by
    rcases hat with e2 | e2
    · exact h.far k e (by rw [e2, e'])
    · have := h.lt k (h.gK k e).1; have := hb.size; omega
  have hsz : w.heap.size ≤ w5.heap.size := Nat.le_trans hb.size hgr.size
  have hsz' : w5.heap.size = (w5.setCell ⟨r, 1, none⟩ (.slice (some ⟨gm, 0, none⟩) (PM.length + 1) cap')).heap.size := by simp [World.setCell]
  have hk : ∀ b, b < w.heap.size → b ≠ r → vM.ownBlock ≠ some b → (w5.setCell ⟨r, 1, none⟩ (.slice (some ⟨gm, 0, none⟩) (PM.length + 1) cap')).heap[b]? = w.heap[b]? := fun b hlt hbr hbM =>
    (heap_setCell_other w5 ⟨r, 1, none⟩ b _ (fun e => hbr e)).trans ((hgr.block b (Nat.lt_of_lt_of_le hlt hb.size) (fun e => hbM e.symm)).trans (hb.block b hlt))
  have hgmb : ∀ b, b < w.heap.size → vM.ownBlock ≠ some b → gm ≠ b := fun b hlt hbM e => by
    rcases hat with e2 | e2
    · exact hbM (by rw [e2, e])
    · have := hb.size; omega
  have hold : ∀ x, Hold w r vK vM G x → Hold (w5.setCell ⟨r, 1, none⟩ (.slice (some ⟨gm, 0, none⟩) (PM.length + 1) cap')) r vK (.slice (some ⟨gm, 0, none⟩) (PM.length + 1) cap') (fun k => G k ∨ (w.heap.size ≤ k ∧ k < w5.heap.size)) x := fun x hx =>
    hx.to (Nat.le_trans hsz (Nat.le_of_eq hsz')) (fun b hlt _ hbr _ hbM => hk b hlt hbr hbM) (fun _ h => .inl h) (fun _ _ h => h) (fun b hlt hbM e => hgmb b hlt hbM (by injection e))
  have hs1 : Spared w w5 G := (Spared.of_below hb G).trans (.of_grown hgr (F := G) (fun k e _ => (h.gM k e).1)) (fun _ h => .inl h)
  have hnew : Hold (w5.setCell ⟨r, 1, none⟩ (.slice (some ⟨gm, 0, none⟩) (PM.length + 1) cap')) r vK (.slice (some ⟨gm, 0, none⟩) (PM.length + 1) cap') (fun k => G k ∨ (w.heap.size ≤ k ∧ k < w5.heap.size)) q := by
    obtain ⟨b, e, hle, hlt1, hc⟩ := hq
    have hbr : b ≠ r := by have := h.blk.lt; omega
    have hbM : vM.ownBlock ≠ some b := fun e => by have := h.lt b (h.gM b e).1; omega
    refine ⟨hl, b, 0, e, ?_, .inr ⟨hle, Nat.lt_of_lt_of_le hlt1 hgr.size⟩, hbr, fun e => by have := h.lt b (h.gK b e).1; omega, fun e => ?_, fun j hj => ?_⟩
    · rw [← hsz']; exact Nat.lt_of_lt_of_le hlt1 hgr.size
    · injection e with e
      rcases hat with e2 | e2
      · exact hbM (by rw [e2]; exact congrArg some e)
      · have e' : gm = b := e; omega
    · exact (World.cell?_of_block (a := ⟨b, 0 + j, none⟩) ((heap_setCell_other w5 ⟨r, 1, none⟩ b _ (fun e => hbr e)).trans (hgr.block b hlt1 (fun e => hbM e.symm)))).trans (hc j hj)
  refine ⟨⟨hr5.set 1 _, ?_, ?_, h.eqK, ?_, .inl h.gr, fun k e => ⟨.inl (h.gK k e).1, (h.gK k e).2⟩, ?_, ?_, fun x hx => hold x (h.pK x hx), ?_, ?_, ?_, h.hi, h.arm⟩, hs1.setCell h.gr _ _, hr5.cell (i := 1) (by simp [rfCells]), hr5.free 1⟩
  · exact own_kept h.rowK (fun k e hlt => hk k hlt (h.gK k e).2 (h.far k e))
  · have e : (PM ++ [(i, q)]).length = PM.length + 1 := by simp
    rw [e, List.map_append, List.flatten_append]
    simp only [List.map_cons, List.map_nil, List.flatten_cons, List.flatten_nil, List.append_nil]
    exact own_kept hown (fun k e _ => heap_setCell_other w5 ⟨r, 1, none⟩ k _ (fun e' => by injection e with e; exact hmr (e.trans e')))
  · rw [List.map_append, h.eqM]; rfl
  · intro k e
    injection e with e
    subst e
    refine ⟨?_, hmr⟩
    rcases hat with e2 | e2
    · exact .inl (h.gM _ e2).1
    · exact .inr ⟨by show w.heap.size ≤ gm; rw [e2]; exact hb.size, hlt⟩
  · intro k e e'
    injection e' with e'
    exact hmK k e e'
  · intro x hx
    rcases List.mem_append.1 hx with h1 | h1
    · exact hold x.2 (h.pM x h1)
    · rw [List.mem_singleton.1 h1]; exact hnew
  · intro k hg
    rw [← hsz']
    rcases hg with hg | hg
    · exact Nat.lt_of_lt_of_le (h.lt k hg) hsz
    · exact hg.2
  · intro p hp
    rcases List.mem_append.1 hp with h1 | h1
    · exact h.num p h1
    · rw [List.mem_singleton.1 h1]; exact hi
end
end Go.Proofs.Ytkbjhnlihnakkaa
