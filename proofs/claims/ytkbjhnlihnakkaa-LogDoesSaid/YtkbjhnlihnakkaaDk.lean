/-
  A disk: what it is as lists, what its calls make of it, and how it lies in memory. No program is run here.
-/
import Derived.Test.YtkbjhnlihnakkaaChecked
import Derived.Test.YtkbjhnlihnakkaaFlat
namespace Go.Proofs.Ytkbjhnlihnakkaa
open Go.RowKit

/-- a disk: the blocks that are durable; the cache; the power -/
structure Dsk where
  K : List (List UInt8)
  M : List (Nat × List UInt8)
  off : Bool
  left : Nat
  calls : Nat

namespace Dsk
structure Ok (s : Dsk) : Prop where
  len : ∀ r ∈ s.K, r.length = 64
  num : ∀ p ∈ s.M, p.1 < s.K.length
  mem : ∀ p ∈ s.M, p.2.length = 64
  hi : s.K.length ≤ 4096
/-- a Write or Sync was performed -/
def did (s : Dsk) : Dsk := { s with calls := s.calls + 1, left := s.left - 1, off := if 0 < s.left then decide (s.left = 1) else s.off }
def arm (s : Dsk) (n : Int) : Dsk := if s.off then s else { s with left := n.toNat, off := decide (n < 1) }
end Dsk

/-- the blocks, behind the first n of the cache, where pick says which of these are kept -/
def kept (pick : Nat → Bool) (M : List (Nat × List UInt8)) (K : List (List UInt8)) : Nat → List (List UInt8)
  | 0 => K
  | k + 1 => match M[k]? with
    | some p => if pick k then (kept pick M K k).set p.1 p.2 else kept pick M K k
    | none => kept pick M K k
theorem kept_step {pick : Nat → Bool} {M : List (Nat × List UInt8)} {K : List (List UInt8)} {k : Nat} (h : k < M.length) :
    kept pick M K (k + 1) = if pick k then (kept pick M K k).set M[k].1 M[k].2 else kept pick M K k := by
  simp only [kept]; rw [List.getElem?_eq_getElem h]
theorem kept_length (pick : Nat → Bool) (M : List (Nat × List UInt8)) (K : List (List UInt8)) : ∀ n, (kept pick M K n).length = K.length
  | 0 => rfl
  | n + 1 => by
    have ih := kept_length pick M K n
    simp only [kept]
    split
    · split
      · rw [List.length_set]; exact ih
      · exact ih
    · exact ih
theorem kept_len {pick : Nat → Bool} {M : List (Nat × List UInt8)} {K : List (List UInt8)} (hM : ∀ p ∈ M, p.2.length = 64) (hK : ∀ r ∈ K, r.length = 64) : ∀ n, ∀ r ∈ kept pick M K n, r.length = 64
  | 0 => hK
  | n + 1 => by
    have ih := kept_len (pick := pick) hM hK n
    intro r hr
    simp only [kept] at hr
    split at hr
    · rename_i p hp
      split at hr
      · rcases List.mem_or_eq_of_mem_set hr with h | rfl
        · exact ih r h
        · exact hM p (List.mem_of_getElem? hp)
      · exact ih r hr
    · exact ih r hr
/-- what picks say of the k-th of the cache -/
def pickOf (picks : List Int) (k : Nat) : Bool := decide (0 < picks.length) && decide ((picks.getD (k % picks.length) 0).tmod 2 ≠ 0)

namespace Dsk
def sync (s : Dsk) : Dsk := did { s with K := kept (fun _ => true) s.M s.K s.M.length, M := [] }
def crash (s : Dsk) (pick : Nat → Bool) : Dsk := { s with K := kept pick s.M s.K s.M.length, M := [], off := false, left := 0 }
def write (s : Dsk) (i : Nat) (b : List UInt8) : Dsk := did { s with M := s.M ++ [(i, b)] }
/-- x is the block i, as it was written last -/
def Last (s : Dsk) (i : Nat) (x : List UInt8) : Prop :=
  (∃ k, ∃ h : k < s.M.length, s.M[k].1 = i ∧ s.M[k].2 = x ∧ ∀ j (hj : j < s.M.length), k < j → s.M[j].1 ≠ i) ∨ ((∀ j (hj : j < s.M.length), s.M[j].1 ≠ i) ∧ s.K[i]? = some x)
theorem Last.one {s : Dsk} {i : Nat} {x y : List UInt8} (h : s.Last i x) (h' : s.Last i y) : x = y := by
  rcases h with ⟨k, hk, h1, h2, h3⟩ | ⟨h1, h2⟩ <;> rcases h' with ⟨k', hk', h1', h2', h3'⟩ | ⟨h1', h2'⟩
  · rcases Nat.lt_trichotomy k k' with h | h | h
    · exact absurd h1' (h3 k' hk' h)
    · subst h; rw [← h2, ← h2']
    · exact absurd h1 (h3' k hk h)
  · exact absurd h1 (h1' k hk)
  · exact absurd h1' (h1 k' hk')
  · rw [h2] at h2'; injection h2'
theorem Last.length {s : Dsk} (ok : s.Ok) {i : Nat} {x : List UInt8} (h : s.Last i x) : x.length = 64 := by
  rcases h with ⟨k, hk, _, rfl, _⟩ | ⟨_, h⟩
  · exact ok.mem _ (List.getElem_mem hk)
  · exact ok.len _ (List.mem_of_getElem? h)
theorem Ok.did {s : Dsk} (h : s.Ok) : s.did.Ok := ⟨h.len, h.num, h.mem, h.hi⟩
theorem Ok.arm {s : Dsk} (h : s.Ok) (n : Int) : (s.arm n).Ok := by
  unfold Dsk.arm
  split
  · exact h
  · exact ⟨h.len, h.num, h.mem, h.hi⟩
theorem Ok.write {s : Dsk} (h : s.Ok) {i : Nat} {b : List UInt8} (hi : i < s.K.length) (hb : b.length = 64) : (s.write i b).Ok :=
  ⟨h.len, fun p hp => by
      rcases List.mem_append.1 hp with h1 | h1
      · exact h.num p h1
      · rw [List.mem_singleton.1 h1]; exact hi, fun p hp => by
      rcases List.mem_append.1 hp with h1 | h1
      · exact h.mem p h1
      · rw [List.mem_singleton.1 h1]; exact hb, h.hi⟩
theorem Ok.sync {s : Dsk} (h : s.Ok) : s.sync.Ok :=
  ⟨kept_len h.mem h.len _, fun p hp => by simp [Dsk.sync, Dsk.did] at hp, fun p hp => by simp [Dsk.sync, Dsk.did] at hp, by show (kept _ _ _ _).length ≤ _; rw [kept_length]; exact h.hi⟩
theorem Ok.crash {s : Dsk} (h : s.Ok) (pick : Nat → Bool) : (s.crash pick).Ok :=
  ⟨kept_len h.mem h.len _, fun p hp => by simp [Dsk.crash] at hp, fun p hp => by simp [Dsk.crash] at hp, by show (kept _ _ _ _).length ≤ _; rw [kept_length]; exact h.hi⟩
end Dsk

def dkCells (gd n : Nat) (v : Value) (off : Bool) (left calls : Nat) : List Value := [.slice (some ⟨gd, 0, none⟩) n n, v, .bool off, .int .i64 (left : Int), .int .i64 (calls : Int)]
def dcell (p : Nat × List UInt8) : List Value := .int .i64 (p.1 : Int) :: p.2.map bv
def krows (K : List (List UInt8)) : List (List Value) := K.map (·.map bv)
theorem krows_len {K : List (List UInt8)} (h : ∀ r ∈ K, r.length = 64) : ∀ r ∈ krows K, r.length = 64 := fun r hr => by
  obtain ⟨x, hx, rfl⟩ := List.mem_map.1 hr
  rw [List.length_map]; exact h x hx
theorem wrows_len {M : List (Nat × List UInt8)} (h : ∀ p ∈ M, p.2.length = 64) : ∀ r ∈ M.map dcell, r.length = 65 := fun r hr => by
  obtain ⟨x, hx, rfl⟩ := List.mem_map.1 hr
  simp [dcell, h x hx]

/-- how a disk lies: its own block g, that of its durable blocks, that of its cache -/
def DiskIn (w : World) (g gd : Nat) (v : Value) (F : Nat → Prop) (s : Dsk) : Prop :=
  Blk w g (dkCells gd s.K.length v s.off s.left s.calls) 68 ∧ Blk w gd (krows s.K).flatten 70 ∧ w.ownsRow 0 88 65 v s.M.length (s.M.map dcell).flatten ∧
  F g ∧ F gd ∧ (∀ k, v.ownBlock = some k → F k ∧ k ≠ g ∧ k ≠ gd) ∧ g ≠ gd ∧ (∀ k, F k → k < w.heap.size) ∧ s.Ok
def DiskAt (w : World) (g : Nat) (F : Nat → Prop) (s : Dsk) : Prop := ∃ gd v, DiskIn w g gd v F s
/-- what a call leaves of a disk -/
def Moved (w : World) (g : Nat) (F : Nat → Prop) (s : Dsk) (w' : World) : Prop :=
  ∃ F', DiskAt w' g F' s ∧ Spared w w' F ∧ ∀ k, F' k → F k ∨ w.heap.size ≤ k

section
variable {w w' : World} {g gd : Nat} {v : Value} {F : Nat → Prop} {s : Dsk}
theorem DiskIn.at_ (h : DiskIn w g gd v F s) : DiskAt w g F s := ⟨gd, v, h⟩
theorem own_kept {base size n : Nat} {e : TypeId} {xs : List Value} (h : w.ownsRow base e size v n xs) (hk : ∀ k, v.ownBlock = some k → k < w.heap.size → w'.heap[k]? = w.heap[k]?) : w'.ownsRow base e size v n xs := by
  refine ⟨h.1, ?_⟩
  rcases h.2 with h0 | ⟨g, cap, cur, rfl, hb, hg, rest⟩
  · exact .inl h0
  · refine .inr ⟨g, cap, cur, rfl, hb, ?_, rest⟩
    rw [hk g rfl (h.lt g rfl).2, hg]
/-- nothing of the disk was written -/
theorem DiskIn.still (h : DiskIn w g gd v F s) (hb : Below w.heap.size w w') : DiskIn w' g gd v F s := by
  obtain ⟨h1, h2, h3, h4, h5, h6, h7, h8, h9⟩ := h
  exact ⟨h1.below hb h1.lt, h2.below hb h2.lt, own_kept h3 (fun k _ hk => hb.block k hk), h4, h5, h6, h7, fun k hk => Nat.lt_of_lt_of_le (h8 k hk) hb.size, h9⟩
theorem DiskAt.still (h : DiskAt w g F s) (hb : Below w.heap.size w w') : DiskAt w' g F s := by
  obtain ⟨gd, v, h⟩ := h
  exact ⟨gd, v, h.still hb⟩
theorem DiskAt.apart {G : Nat → Prop} (h : DiskAt w g F s) (hs : Spared w w' G) (hG : ∀ k, F k → ¬ G k) : DiskAt w' g F s := by
  obtain ⟨gd, v, h1, h2, h3, h4, h5, h6, h7, h8, h9⟩ := h
  exact ⟨gd, v, hs.blk h1 (hG g h4), hs.blk h2 (hG gd h5), own_kept h3 (fun k hv hk => hs.block k hk (hG k (h6 k hv).1)), h4, h5, h6, h7, fun k hk => Nat.lt_of_lt_of_le (h8 k hk) hs.size, h9⟩
theorem DiskAt.ok (h : DiskAt w g F s) : s.Ok := by obtain ⟨_, _, h⟩ := h; exact h.2.2.2.2.2.2.2.2
theorem DiskAt.lt (h : DiskAt w g F s) : ∀ k, F k → k < w.heap.size := by obtain ⟨_, _, h⟩ := h; exact h.2.2.2.2.2.2.2.1
theorem Moved.still (h : DiskAt w g F s) (hb : Below w.heap.size w w') : Moved w g F s w' := ⟨F, h.still hb, .of_below hb F, fun _ h => .inl h⟩
theorem Moved.trans {w'' : World} {s' : Dsk} {F' : Nat → Prop} (hs : Spared w w' F) (hF : ∀ k, F' k → F k ∨ w.heap.size ≤ k) (h : Moved w' g F' s' w'') : Moved w g F s' w'' := by
  obtain ⟨F2, h1, h2, h3⟩ := h
  refine ⟨F2, h1, hs.trans h2 hF, fun k hk => ?_⟩
  rcases h3 k hk with h | h
  · exact hF k h
  · exact .inr (Nat.le_trans hs.size h)
theorem own_form65 {base size n : Nat} {e : TypeId} {xs : List Value} (h : w.ownsRow base e size v n xs) : ∃ A c, v = .slice A n c ∧ n ≤ c ∧ c ≤ maxLen ∧ (0 < n → ∃ gc, A = some ⟨gc, 0, none⟩) := by
  rcases h.2 with ⟨rfl, h0⟩ | ⟨g, cap, cur, rfl, _, _, h1, h2, _⟩
  · exact ⟨none, 0, by rw [h0], by omega, by simp, fun h => by omega⟩
  · exact ⟨_, _, rfl, h1, h2, fun _ => ⟨g, rfl⟩⟩
/-- the cells of the struct -/
theorem DiskIn.cells (h : DiskIn w g gd v F s) : w.cell? ⟨g, 0, none⟩ = some (.slice (some ⟨gd, 0, none⟩) s.K.length s.K.length) ∧ w.cell? ⟨g, 1, none⟩ = some v ∧ w.cell? ⟨g, 2, none⟩ = some (.bool s.off) ∧ w.cell? ⟨g, 3, none⟩ = some (.int .i64 (s.left : Int)) ∧ w.cell? ⟨g, 4, none⟩ = some (.int .i64 (s.calls : Int)) := by
  obtain ⟨h1, _⟩ := h
  exact ⟨h1.cell (i := 0) (by simp [dkCells]), h1.cell (i := 1) (by simp [dkCells]), h1.cell (i := 2) (by simp [dkCells]), h1.cell (i := 3) (by simp [dkCells]), h1.cell (i := 4) (by simp [dkCells])⟩
theorem DiskIn.free (h : DiskIn w g gd v F s) (i : Nat) : w.frozen? ⟨g, i, none⟩ = false := h.1.free i
/-- a cell of the struct was written -/
theorem DiskIn.put (h : DiskIn w g gd v F s) (i : Nat) (u : Value) {s' : Dsk} {v' : Value} (hc : (dkCells gd s.K.length v s.off s.left s.calls).set i u = dkCells gd s'.K.length v' s'.off s'.left s'.calls) (hK : s'.K = s.K) (hM : v' = v ∧ s'.M = s.M ∨ v' = .slice none 0 0 ∧ s'.M = []) : DiskIn (w.setCell ⟨g, i, none⟩ u) g gd v' F s' := by
  obtain ⟨h1, h2, h3, h4, h5, h6, h7, h8, h9⟩ := h
  refine ⟨?_, ?_, ?_, h4, h5, ?_, h7, fun k hk => by simpa [World.setCell] using h8 k hk, ?_⟩
  · rw [← hc]; exact h1.set i u
  · rw [hK]; exact h2.other _ _ (fun e => h7 e.symm)
  · rcases hM with ⟨rfl, hM⟩ | ⟨rfl, hM⟩
    · rw [hM]
      exact own_kept h3 (fun k hv _ => heap_setCell_other w ⟨g, i, none⟩ k u (fun e => (h6 k hv).2.1 e))
    · rw [hM]; exact World.ownsRow_nil _ _ _ _
  · rcases hM with ⟨rfl, _⟩ | ⟨rfl, _⟩
    · exact h6
    · intro k hk; cases hk
  · refine ⟨by rw [hK]; exact h9.len, ?_, ?_, by rw [hK]; exact h9.hi⟩
    · rcases hM with ⟨_, hM⟩ | ⟨_, hM⟩ <;> rw [hM]
      · rw [hK]; exact h9.num
      · intro p hp; simp at hp
    · rcases hM with ⟨_, hM⟩ | ⟨_, hM⟩ <;> rw [hM]
      · exact h9.mem
      · intro p hp; simp at hp
/-- a durable block was written -/
theorem DiskIn.store (h : DiskIn w g gd v F s) (i : Nat) (hi : i < s.K.length) (x : List UInt8) (hx : x.length = 64) : DiskIn (w.setCells gd (i * 64) (x.map bv)) g gd v F { s with K := s.K.set i x } := by
  obtain ⟨h1, h2, h3, h4, h5, h6, h7, h8, h9⟩ := h
  have hs : Spared w (w.setCells gd (i * 64) (x.map bv)) (· = gd) := Spared.setCells (F := (· = gd)) rfl _ _ _ (.refl w _)
  refine ⟨?_, ?_, ?_, h4, h5, h6, h7, fun k hk => Nat.lt_of_lt_of_le (h8 k hk) hs.size, ?_⟩
  · show Blk _ _ (dkCells gd (s.K.set i x).length _ _ _ _) _
    rw [List.length_set]; exact blk_away _ _ _ h1 h7
  · have := flat_store h2 (krows_len h9.len) i (by simpa [krows] using hi) (x.map bv) (by simpa using hx)
    show Blk _ _ (krows (s.K.set i x)).flatten _
    unfold krows at this ⊢
    rwa [List.map_set]
  · exact own_kept h3 (fun k hv hk => hs.block k hk (h6 k hv).2.2)
  · refine ⟨fun r hr => ?_, ?_, h9.mem, ?_⟩
    · rcases List.mem_or_eq_of_mem_set hr with h | rfl
      · exact h9.len r h
      · exact hx
    · intro p hp; show p.1 < (s.K.set i x).length; rw [List.length_set]; exact h9.num p hp
    · show (s.K.set i x).length ≤ _; rw [List.length_set]; exact h9.hi
/-- the same, by a copy -/
theorem DiskIn.laid (h : DiskIn w g gd v F s) (i : Nat) (hi : i < s.K.length) (x : List UInt8) (hx : x.length = 64) (hb : Blk w' gd (splice (krows s.K).flatten (i * 64) (x.map bv)) 70) (hg : w.grownBy w' (some gd)) : DiskIn w' g gd v F { s with K := s.K.set i x } := by
  obtain ⟨h1, h2, h3, h4, h5, h6, h7, h8, h9⟩ := h
  have hs : Spared w w' (· = gd) := .of_grown hg (fun k e _ => by injection e with e; exact e.symm)
  refine ⟨?_, ?_, ?_, h4, h5, h6, h7, fun k hk => Nat.lt_of_lt_of_le (h8 k hk) hs.size, ?_⟩
  · show Blk _ _ (dkCells gd (s.K.set i x).length _ _ _ _) _
    rw [List.length_set]; exact hs.blk h1 h7
  · rw [flat_set _ _ _ (by simpa [krows] using hi) (krows_len h9.len) (by simpa using hx)] at hb
    show Blk _ _ (krows (s.K.set i x)).flatten _
    unfold krows at hb ⊢
    rwa [List.map_set]
  · exact own_kept h3 (fun k hv hk => hs.block k hk (h6 k hv).2.2)
  · refine ⟨fun r hr => ?_, ?_, h9.mem, ?_⟩
    · rcases List.mem_or_eq_of_mem_set hr with h | rfl
      · exact h9.len r h
      · exact hx
    · intro p hp; show p.1 < (s.K.set i x).length; rw [List.length_set]; exact h9.num p hp
    · show (s.K.set i x).length ≤ _; rw [List.length_set]; exact h9.hi
/-- the cells of the cache -/
theorem DiskIn.cache {gc c n : Nat} (h : DiskIn w g gd (.slice (some ⟨gc, 0, none⟩) n c) F s) (k : Nat) (hk : k < s.M.length) :
    w.rangeAt gc (k * 65) (dcell s.M[k]) ∧ w.cell? ⟨gc, k * 65, none⟩ = some (.int .i64 (s.M[k].1 : Int)) ∧ w.rangeAt gc (k * 65 + 1) (s.M[k].2.map bv) := by
  obtain ⟨_, _, h3, _, _, _, _, _, ok⟩ := h
  have hr : w.rangeAt gc (k * 65) (dcell s.M[k]) := fun j v hv => by
    obtain ⟨hj, hju⟩ := List.getElem?_eq_some_iff.1 hv
    have hk' : k < (s.M.map dcell).length := by simpa using hk
    have e := flat_at (s.M.map dcell) k j hk' (wrows_len ok.mem) (by simpa using hj)
    have hc := h3.cells (g := gc) rfl (k * 65 + j) _ e
    rw [add_plain, Nat.zero_add] at hc
    rw [hc, ← hju]
    simp
  refine ⟨hr, ?_, fun j v hv => ?_⟩
  · have := hr 0 (.int .i64 (s.M[k].1 : Int)) rfl
    simpa using this
  · have := hr (j + 1) v (by simpa [dcell] using hv)
    rwa [show k * 65 + (j + 1) = k * 65 + 1 + j by omega] at this
/-- the cells of a durable block -/
theorem DiskIn.durable (h : DiskIn w g gd v F s) (i : Nat) (hi : i < s.K.length) : w.rangeAt gd (i * 64) (s.K[i].map bv) ∧ w.there gd (i * 64) 64 := by
  obtain ⟨_, h2, _, _, _, _, _, _, ok⟩ := h
  have hi' : i < (krows s.K).length := by simpa [krows] using hi
  have h1 := flat_range h2 (krows_len ok.len) i hi'
  refine ⟨?_, flat_there h2 (krows_len ok.len) i hi'⟩
  simpa [krows] using h1
theorem spared_setCells (hF : F gd) (i : Nat) (vs : List Value) : Spared w (w.setCells gd i vs) F := Spared.setCells hF vs i w (.refl w F)
end
end Go.Proofs.Ytkbjhnlihnakkaa
