/-
  The words by which the walks of this seat speak of bytes in memory: a slice that shows a list of bytes, and how that is kept. No conditions: no program is named here.
  'append' of a slice that shows bytes, onto a row of the call's own. No program is named here.
  A block of memory that is known whole, and how it is kept; one byte of a row of the call's own, written. No program is named here.
  What leaves all blocks but one as they were, and a row of the call's own behind it. No program is named here.
  Rows of one length, laid end to end; a block of memory that holds them; what leaves all blocks but some as they were. No program is named here.
-/
import Derived.WalkKit
import Derived.Below
import Derived.Deep.OwnRows
import Derived.Deep.Draws
import Derived.Lib.Hide
import Derived.Laws.IdiomStrings
import Derived.Laws.BytesArg
import Derived.Maps.AppendAt
import Derived.OwnWalk
import Derived.Deep.RegionLaw
import Derived.Laws.Rows
import Derived.Laws.CopyOwn
import Derived.Deep.MidRow
namespace Go.Proofs.YtdaahapbpnjkfaaGreat
open Go.RowKit
def bv (c : UInt8) : Value := .int .u8 (c.toNat : Int)
def Seen (w : World) (A : Option Addr) (l : List UInt8) : Prop :=
  l = [] ∨ ∃ b off, A = some ⟨b, off, none⟩ ∧ b < w.heap.size ∧ ∀ j (h : j < l.length), w.cell? ⟨b, off + j, none⟩ = some (.int .u8 (l[j].toNat : Int))
section
variable {w w' : World} {A : Option Addr} {l : List UInt8}
theorem Seen.nil (w : World) (A : Option Addr) : Seen w A [] := .inl rfl
theorem Seen.at_ (h : Seen w A l) {k : Nat} (hk : k < l.length) :
    ∃ b off, A = some ⟨b, off, none⟩ ∧ b < w.heap.size ∧ w.cell? ⟨b, off + k, none⟩ = some (.int .u8 (l[k].toNat : Int)) := by
  rcases h with rfl | ⟨b, off, rfl, hb, hc⟩
  · simp at hk
  · exact ⟨b, off, rfl, hb, hc k hk⟩
theorem Seen.keep (h : Seen w A l) (hs : w.heap.size ≤ w'.heap.size) (hk : ∀ b o, b < w.heap.size → w'.cell? ⟨b, o, none⟩ = w.cell? ⟨b, o, none⟩) : Seen w' A l := by
  rcases h with rfl | ⟨b, off, rfl, hb, hc⟩
  · exact .inl rfl
  · exact .inr ⟨b, off, rfl, by omega, fun j hj => (hk _ _ hb).trans (hc j hj)⟩
theorem Seen.below (h : Seen w A l) (hb : Below w.heap.size w w') : Seen w' A l :=
  h.keep hb.size fun b o hlt => hb.cell (p := ⟨b, o, none⟩) hlt
theorem Seen.alloc (h : Seen w A l) (o : Obj) : Seen (w.alloc o) A l :=
  h.below ((Below.refl _ _).alloc (Nat.le_refl _) o)
theorem add_plain (g o j : Nat) : (⟨g, o, none⟩ : Addr).add j = ⟨g, o + j, none⟩ := by
  unfold Addr.add; split <;> simp_all
theorem Seen.of_own {base n c : Nat} {e : TypeId} (h : w.ownsRow base e 1 (.slice A n c) n (l.map bv)) : Seen w A l ∧ n = l.length := by
  have hl : n = l.length := by have := h.1; simp at this; omega
  refine ⟨?_, hl⟩
  rcases Nat.eq_zero_or_pos n with h0 | h0
  · left; exact List.eq_nil_of_length_eq_zero (by omega)
  · rcases h.2 with ⟨_, hn⟩ | ⟨g, cap, cur, hv, hb, hg, _⟩
    · omega
    · injection hv with hA
      subst hA
      have hlt : g < w.heap.size := by
        rcases Nat.lt_or_ge g w.heap.size with hlt | hge
        · exact hlt
        · rw [Array.getElem?_eq_none hge] at hg; cases hg
      refine .inr ⟨g, 0, rfl, hlt, fun j hj => ?_⟩
      have := h.cells (g := g) rfl j (bv l[j]) (by simp [hj])
      rw [add_plain] at this
      exact this
theorem Seen.of_row {b n : Nat} {t : TypeId} {f : Nat → Value} (h : w.rowIs b t n f) (hn : l.length ≤ n) (hf : ∀ i (hi : i < l.length), f i = .int .u8 (l[i].toNat : Int)) : Seen w (some ⟨b, 0, none⟩) l :=
  .inr ⟨b, 0, rfl, h.lt, fun j hj => by rw [Nat.zero_add, h.cell (by omega), hf j hj]⟩
theorem Seen.text {P : Program} (h : Seen w A l) (src dst e : TypeId) (hs : P.underlying src = some (.slice e)) (he : P.underlying e = some (.int .u8)) (hd : P.underlying dst = some .string) (c : Nat) :
    (convert src dst (.slice A l.length c)).run P w = .ok (.string ⟨l.toArray⟩) w := by
  rcases h with rfl | ⟨b, off, rfl, _, hc⟩
  · rcases A with _ | a
    · rw [run_convert_bytes_nil w src e hs he _ _ dst hd]; rfl
    · exact run_convert_bytes_back w src dst e a c [] hs he hd (fun j hj => by simp at hj)
  · exact run_convert_bytes_back w src dst e _ c l hs he hd (fun j hj => by rw [add_plain]; exact hc j hj)
end
theorem hop {a b c : World} (h : Below a.heap.size a b) (k : Below b.heap.size b c) : Below a.heap.size a c :=
  h.trans (k.mono h.size)
theorem below_drewN {B : Nat} {a w : World} (h : Below B a w) (n : Nat) : Below B a (w.drewN n) := ⟨h.os, h.tape, h.output, h.size, h.block⟩
theorem undrew {a w : World} (h : Below a.drew.heap.size a.drew w) : Below a.heap.size a w := ⟨h.os, h.tape, h.output, h.size, h.block⟩
theorem ret_int {k : IntKind} {a b : Int} (h : a = b) : Ending.returned (.int k a) = .returned (.int k b) := by rw [h]
end Go.Proofs.YtdaahapbpnjkfaaGreat
namespace Go.Proofs.YtdaahapbpnjkfaaGreat
open Go.RowKit
section
variable {P : Program} (w : World)
theorem run_append_nought (base : Nat) (t ty e : TypeId) (i : TypeInfo) (size : Nat) (ht : P.underlying t = some (.slice e)) (hi : P.info? e = some i)
    (v : Value) (n : Nat) (xs : List Value) (hown : w.ownsRow base e size v n xs) (c : Nat) :
    (Builtin.append_ #[t, t] ty #[v, .slice none 0 c]).run P w = .ok v w := by
  rcases hown.2 with ⟨rfl, rfl⟩ | ⟨g, cap, cur, rfl, _, _, hnc, _⟩
  · simp [Builtin.append_, run_underlying ht, sizeOf, typeInfo, hi, Builtin.lenOf, Builtin.firstCells]
  · simp [Builtin.append_, run_underlying ht, sizeOf, typeInfo, hi, Builtin.lenOf, Builtin.firstCells, hnc, storeCells]
theorem bytes_one (l : List UInt8) : ∀ u ∈ l.map bv, u.oneCell' = true := by
  intro u hu
  obtain ⟨c, _, rfl⟩ := List.mem_map.1 hu
  rfl
theorem run_append_seen (base : Nat) (t ty e : TypeId) (i : TypeInfo) (z : Value) (ht : P.underlying t = some (.slice e)) (hi : P.info? e = some i) (hz : i.zero = some z)
    (hsize : i.size = 1) (hby : i.bytes = 1) (hzs : z.cells.size = 1)
    (v : Value) (n : Nat) (xs : List Value) (hown : w.ownsRow base e 1 v n xs)
    (A : Option Addr) (l : List UInt8) (c : Nat) (hr : Seen w A l) (hb : n + l.length ≤ 140737488355328) (hbase : base ≤ w.heap.size) :
    ∃ v' w', (Builtin.append_ #[t, t] ty #[v, .slice A l.length c]).run P w = .ok v' w' ∧ w'.ownsRow base e 1 v' (n + l.length) (xs ++ l.map bv) ∧ w.grownBy w' v.ownBlock ∧
      (v'.ownBlock = v.ownBlock ∨ v'.ownBlock = some w.heap.size) := by
  rcases A with _ | ad
  · obtain rfl : l = [] := by
      rcases hr with h | ⟨_, _, h, _⟩
      · exact h
      · cases h
    exact ⟨v, w, run_append_nought w base t ty e i 1 ht hi v n xs hown c, by simpa using hown, World.grownBy.refl w _, .inl rfl⟩
  · have hcells : ∀ j u, (l.map bv)[j]? = some u → w.cell? (ad.add j) = some u := by
      intro j u hu
      obtain ⟨hj, hju⟩ := List.getElem?_eq_some_iff.1 hu
      rw [List.length_map] at hj
      obtain ⟨b, off, ha, _, hc⟩ := hr.at_ hj
      injection ha with ha
      subst ha
      rw [add_plain, hc, ← hju, List.getElem_map]
      rfl
    obtain ⟨v', w', hrun, h2, h3, _, h5⟩ := run_append_own_at (P := P) w base t ty e i z 1 1 ht hi hz hsize hby hzs (by decide) v n xs hown ad l.length c (l.map bv) (by simp) hcells (bytes_one l) (by unfold maxLen; omega) (by omega) hbase
    exact ⟨v', w', hrun, h2, h3, h5⟩
theorem wpList_append_seen {ops : Array Oper} {rest : List Oper} {o : Oper} {a : Act} {Q : Exit → Act → World → Prop} (hgd : o.guard = none) (s x : Operand) (t : TypeId)
    (ho : o.op = .call { callee := .builtin .append, args := #[s, x], argTypes := #[t, t] })
    (base : Nat) (e : TypeId) (i : TypeInfo) (z : Value) (ht : P.underlying t = some (.slice e)) (hi : P.info? e = some i) (hz : i.zero = some z)
    (hsize : i.size = 1) (hby : i.bytes = 1) (hzs : z.cells.size = 1)
    (v : Value) (n : Nat) (xs : List Value) (hs : a.eval s = v) (hown : w.ownsRow base e 1 v n xs)
    (A : Option Addr) (l : List UInt8) (c : Nat) (hx : a.eval x = .slice A l.length c) (hr : Seen w A l) (hb : n + l.length ≤ 140737488355328) (hbase : base ≤ w.heap.size)
    (h : ∀ v' w', w'.ownsRow base e 1 v' (n + l.length) (xs ++ l.map bv) → w.grownBy w' v.ownBlock → (v'.ownBlock = v.ownBlock ∨ v'.ownBlock = some w.heap.size) → wpList P ops Q rest (a.put o.dst v') w') :
    wpList P ops Q (o :: rest) a w := by
  refine wpList_plain hgd fun K hK => ?_
  obtain ⟨v', w', hrun, h2, h3, h4⟩ := run_append_seen (P := P) w base t o.type e i z ht hi hz hsize hby hzs v n xs hown A l c hr hb hbase
  unfold Oper.wp execOp
  simp only [ho, resolve, invoke, builtin, Sem.run_bind, Sem.run_pure, Result.andThen_ok, List.map_toArray, List.map_cons, List.map_nil, hs, hx, hrun]
  exact hK _ _ (h v' w' h2 h3 h4)
end
theorem below_grown {B : Nat} {a w w' : World} {e : TypeId} {size n : Nat} {v : Value} {xs : List Value} (h : Below B a w) (hB : B ≤ w.heap.size) (hown : w.ownsRow B e size v n xs) (hg : w.grownBy w' v.ownBlock) : Below B a w' :=
  h.grown hg hB (fun k hk => (hown.lt k hk).1)
theorem bv_ofInt (y : Int) (h0 : 0 ≤ y) (h1 : y < 256) : bv (UInt8.ofNat y.toNat) = .int .u8 y := by
  unfold bv
  rw [UInt8.toNat_ofNat']
  congr 1
  omega
def Made (e : TypeId) (w0 : World) (l : List UInt8) (v : Value) (w' : World) : Prop :=
  w'.ownsRow w0.heap.size e 1 v l.length (l.map bv) ∧ Below w0.heap.size w0 w'
section
variable {e : TypeId} {w0 w w' : World} {l : List UInt8} {v : Value}
theorem Made.form (h : Made e w0 l v w) : ∃ A c, v = .slice A l.length c ∧ Seen w A l := by
  have h1 := h.1
  rcases h1.2 with ⟨rfl, h0⟩ | ⟨g, cap, cur, rfl, _⟩
  · exact ⟨none, 0, by rw [h0], .inl (List.eq_nil_of_length_eq_zero h0)⟩
  · exact ⟨_, _, rfl, (Seen.of_own h1).1⟩
theorem Made.nil (e : TypeId) (w : World) : Made e w [] (.slice none 0 0) w := ⟨World.ownsRow_nil _ _ _ _, Below.refl _ _⟩
theorem Made.size (h : Made e w0 l v w) : w0.heap.size ≤ w.heap.size := h.2.size
theorem Made.drew (h : Made e w0 l v w) : Made e w0 l v w.drew := ⟨h.1.drew, h.2.drew⟩
end
def pushed (d : List UInt8) (y : Int) : List UInt8 := d ++ [UInt8.ofNat y.toNat]
theorem run_append_byte {P : Program} (w : World) (t ty e : TypeId) (i : TypeInfo) (z : Value) (ht : P.underlying t = some (.slice e)) (hi : P.info? e = some i) (hz : i.zero = some z)
    (hsize : i.size = 1) (hby : i.bytes = 1) (hzs : z.cells.size = 1)
    (w0 : World) (v : Value) (d : List UInt8) (y : Int) (H : Made e w0 d v w) (h0 : 0 ≤ y) (h1 : y < 256) (hb : d.length + 1 ≤ 140737488355328) :
    ∃ v' w', (Builtin.append_ #[t, t] ty #[v, .slice (some ⟨w.heap.size, 0, none⟩) 1 1]).run P (w.alloc (.cells #[.int .u8 y] e)) = .ok v' w' ∧ Made e w0 (pushed d y) v' w' := by
  obtain ⟨hown, hbel⟩ := H
  have hB := hbel.size
  obtain ⟨v', w', hrun, hown', hg, _⟩ := run_append_own_at (P := P) (w.alloc (.cells #[.int .u8 y] e)) w0.heap.size t ty e i z 1 1 ht hi hz hsize hby hzs (by decide) v d.length (d.map bv) (hown.alloc _) ⟨w.heap.size, 0, none⟩ 1 1 [.int .u8 y] rfl (by
    intro j u hu
    have hj : j = 0 := by
      rcases Nat.eq_zero_or_pos j with h | h
      · exact h
      · rw [List.getElem?_eq_none (by simp; omega)] at hu; cases hu
    subst hj
    simp at hu
    subst hu
    rw [add_plain, World.cell?_alloc_at _ _ _ _ rfl]
    rfl) (by
    intro u hu
    simp at hu
    subst hu
    rfl) (by unfold maxLen; omega) (by omega) (by simp; omega)
  refine ⟨v', w', hrun, ?_, below_grown (hbel.alloc hB _) (by simp; omega) (hown.alloc _) hg⟩
  unfold pushed
  rw [List.map_append, List.map_cons, List.map_nil, bv_ofInt y h0 h1]
  simpa using hown'
theorem wpList_append_byte {P : Program} (w : World) {ops : Array Oper} {rest : List Oper} {o : Oper} {a : Act} {Q : Exit → Act → World → Prop} (hgd : o.guard = none) (s x : Operand) (t : TypeId)
    (ho : o.op = .call { callee := .builtin .append, args := #[s, x], argTypes := #[t, t] })
    (e : TypeId) (i : TypeInfo) (z : Value) (ht : P.underlying t = some (.slice e)) (hi : P.info? e = some i) (hz : i.zero = some z)
    (hsize : i.size = 1) (hby : i.bytes = 1) (hzs : z.cells.size = 1)
    (w0 : World) (v : Value) (d : List UInt8) (y : Int) (hs : a.eval s = v) (hx : a.eval x = .slice (some ⟨w.heap.size, 0, none⟩) 1 1)
    (H : Made e w0 d v w) (h0 : 0 ≤ y) (h1 : y < 256) (hb : d.length + 1 ≤ 140737488355328)
    (h : ∀ v' w', Made e w0 (pushed d y) v' w' → wpList P ops Q rest (a.put o.dst v') w') :
    wpList P ops Q (o :: rest) a (w.alloc (.cells #[.int .u8 y] e)) := by
  refine wpList_plain hgd fun K hK => ?_
  obtain ⟨v', w', hrun, h2⟩ := run_append_byte (P := P) w t o.type e i z ht hi hz hsize hby hzs w0 v d y H h0 h1 hb
  unfold Oper.wp execOp
  simp only [ho, resolve, invoke, builtin, Sem.run_bind, Sem.run_pure, Result.andThen_ok, List.map_toArray, List.map_cons, List.map_nil, hs, hx, hrun]
  exact hK _ _ (h v' w' h2)
theorem wpList_append_bytes {P : Program} (w : World) {ops : Array Oper} {rest : List Oper} {o : Oper} {a : Act} {Q : Exit → Act → World → Prop} (hgd : o.guard = none) (s x : Operand) (t : TypeId)
    (ho : o.op = .call { callee := .builtin .append, args := #[s, x], argTypes := #[t, t] })
    (e : TypeId) (i : TypeInfo) (z : Value) (ht : P.underlying t = some (.slice e)) (hi : P.info? e = some i) (hz : i.zero = some z)
    (hsize : i.size = 1) (hby : i.bytes = 1) (hzs : z.cells.size = 1)
    (w0 : World) (v : Value) (d : List UInt8) (A : Option Addr) (l : List UInt8) (c : Nat) (hs : a.eval s = v) (hx : a.eval x = .slice A l.length c)
    (H : Made e w0 d v w) (hr : Seen w A l) (hb : d.length + l.length ≤ 140737488355328)
    (h : ∀ v' w', Made e w0 (d ++ l) v' w' → Below w0.heap.size w w' → wpList P ops Q rest (a.put o.dst v') w') :
    wpList P ops Q (o :: rest) a w := by
  refine wpList_append_seen w hgd s x t ho w0.heap.size e i z ht hi hz hsize hby hzs v d.length (d.map bv) hs H.1 A l c hx hr hb H.2.size fun v' w' hown hg _ => h v' w' ⟨?_, below_grown H.2 H.2.size H.1 hg⟩ (below_grown (Below.refl _ _) H.2.size H.1 hg)
  rw [List.map_append, List.length_append]
  exact hown
def Room (e : TypeId) (w0 : World) (d : List UInt8) (n cap : Nat) (w' : World) : Prop :=
  w'.ownsRow w0.heap.size e 1 (.slice (some ⟨w0.heap.size, 0, none⟩) n cap) n (d.map bv) ∧ Below w0.heap.size w0 w'
theorem Room.drew {e : TypeId} {w0 w' : World} {d : List UInt8} {n cap : Nat} (h : Room e w0 d n cap w') : Room e w0 d n cap w'.drew := ⟨h.1.drew, h.2.drew⟩
end Go.Proofs.YtdaahapbpnjkfaaGreat
namespace Go.Proofs.YtdaahapbpnjkfaaGreat
open Go.RowKit
def Blk (w : World) (g : Nat) (L : List Value) (t : TypeId) : Prop := w.heap[g]? = some (.cells L.toArray t (0, 0))
section
variable {w w' : World} {g i : Nat} {L : List Value} {t : TypeId}
theorem Blk.lt (h : Blk w g L t) : g < w.heap.size := by
  rcases Nat.lt_or_ge g w.heap.size with hlt | hge
  · exact hlt
  · unfold Blk at h; rw [Array.getElem?_eq_none hge] at h; cases h
theorem Blk.cell (h : Blk w g L t) (hi : i < L.length) : w.cell? ⟨g, i, none⟩ = some L[i] := by
  rw [cell_of_row w g i L.toArray t (0, 0) h]; simp [hi]
theorem Blk.free (h : Blk w g L t) (i : Nat) : w.frozen? ⟨g, i, none⟩ = false := frozen_of_row w g i L.toArray t h
theorem Blk.set (h : Blk w g L t) (i : Nat) (v : Value) : Blk (w.setCell ⟨g, i, none⟩ v) g (L.set i v) t := by
  have := heap_setCell_same w g i L.toArray t v h
  unfold Blk; rw [this]; simp
theorem Blk.other (h : Blk w g L t) (a : Addr) (v : Value) (hg : g ≠ a.block) : Blk (w.setCell a v) g L t := by
  unfold Blk; rw [heap_setCell_other w a g v hg]; exact h
theorem Blk.drew (h : Blk w g L t) : Blk w.drew g L t := h
theorem Blk.drewN (h : Blk w g L t) (n : Nat) : Blk (w.drewN n) g L t := h
theorem Blk.below {B : Nat} (h : Blk w g L t) (hb : Below B w w') (hg : g < B) : Blk w' g L t := by
  unfold Blk; rw [hb.block g hg]; exact h
theorem Blk.alloc (h : Blk w g L t) (o : Obj) : Blk (w.alloc o) g L t := by
  have := heap_alloc_old w o h.lt
  unfold Blk; rw [this]; exact h
theorem Blk.new (w : World) (L : List Value) (t : TypeId) : Blk (w.alloc (.cells L.toArray t)) w.heap.size L t := heap_alloc_new w _
end
theorem Made.at_len {e : TypeId} {w0 w : World} {l : List UInt8} {A : Option Addr} {n c : Nat} (h : Made e w0 l (.slice A n c) w) : l.length = n ∧ Seen w A l := by
  obtain ⟨A', c', hv, hs⟩ := h.form
  injection hv with h1 h2 h3
  subst h1
  exact ⟨h2.symm, hs⟩
theorem Made.set {e : TypeId} {w0 w : World} {l : List UInt8} {A : Option Addr} {n c k : Nat} (h : Made e w0 l (.slice A n c) w) (hk : k < n) (x : UInt8) :
    ∃ g, A = some ⟨g, 0, none⟩ ∧ (∃ v, w.cell? ⟨g, k, none⟩ = some v) ∧ w.frozen? ⟨g, k, none⟩ = false ∧ Made e w0 (l.set k x) (.slice A n c) (w.setCell ⟨g, k, none⟩ (.int .u8 (x.toNat : Int))) := by
  have hl := h.at_len.1
  obtain ⟨hown, hbel⟩ := h
  rcases hown.2 with ⟨hv, h0⟩ | ⟨g, cap, cur, hv, hg, hh, hnc, hcm, hcs, ht⟩
  · injection hv with _ h2 _; omega
  · injection hv with h1 h2 h3
    subst h1 h3
    have hB : Blk w g cur.toList e := by unfold Blk; rw [Array.toArray_toList]; exact hh
    have hkc : k < cur.toList.length := by rw [Array.length_toList, hcs]; omega
    refine ⟨g, rfl, ⟨_, hB.cell hkc⟩, hB.free k, ⟨⟨?_, .inr ⟨g, c, (cur.toList.set k (.int .u8 (x.toNat : Int))).toArray, ?_, hg, hB.set k _, by rw [List.length_set]; omega, hcm, ?_, ?_⟩⟩, hbel.setCell hg _⟩⟩
    · simp
    · rw [List.length_set, hl]
    · simpa using hcs
    · have hx : bv x = .int .u8 (x.toNat : Int) := rfl
      rw [List.length_set, List.map_set, ← ht, ← hx]
      simp [List.take_set]
end Go.Proofs.YtdaahapbpnjkfaaGreat
namespace Go.Proofs.YtdaahapbpnjkfaaGreat
open Go.RowKit
section
variable {w w' : World} {row : Option Nat}
theorem only_setCell {g : Nat} (h : w.grownBy w' (some g)) (i : Nat) (u : Value) : w.grownBy (w'.setCell ⟨g, i, none⟩ u) (some g) :=
  ⟨h.os, h.tape, h.output, by simpa [World.setCell] using h.size, fun k hk hne => (heap_setCell_other w' ⟨g, i, none⟩ k u (fun e => hne (by rw [e]))).trans (h.block k hk hne)⟩
theorem only_below {w1 : World} (h : w.grownBy w' row) (hb : Below w'.heap.size w' w1) : w.grownBy w1 row :=
  ⟨hb.os.trans h.os, hb.tape.trans h.tape, hb.output.trans h.output, Nat.le_trans h.size hb.size, fun k hk hne => (hb.block k (Nat.lt_of_lt_of_le hk h.size)).trans (h.block k hk hne)⟩
theorem only_of_below (h : Below w.heap.size w w') (row : Option Nat) : w.grownBy w' row := ⟨h.os, h.tape, h.output, h.size, fun i hi _ => h.block i hi⟩
theorem only_setRow {g : Nat} (h : w.grownBy w' (some g)) (cs : Array Value) : w.grownBy (w'.setRow g cs) (some g) :=
  ⟨h.os, h.tape, h.output, by simpa using h.size, fun k hk hne => (setRow_other w' g k cs (fun e => hne (by rw [e]))).trans (h.block k hk hne)⟩
theorem only_trans {w'' : World} (h : w.grownBy w' row) (k : w'.grownBy w'' row) : w.grownBy w'' row :=
  ⟨k.os.trans h.os, k.tape.trans h.tape, k.output.trans h.output, Nat.le_trans h.size k.size, fun i hi hn => (k.block i (Nat.lt_of_lt_of_le hi h.size) hn).trans (h.block i hi hn)⟩
end
theorem own_form {wr : World} {base : Nat} {e : TypeId} {v : Value} {n : Nat} {xs : List Value} (h : wr.ownsRow base e 1 v n xs) : ∃ A c, v = .slice A n c := by
  rcases h.2 with ⟨rfl, h0⟩ | ⟨g, cap, cur, rfl, _⟩
  · exact ⟨none, 0, by rw [h0]⟩
  · exact ⟨_, _, rfl⟩
theorem own_below {w w' : World} {base : Nat} {e : TypeId} {v : Value} {n : Nat} {xs : List Value} (h : w.ownsRow base e 1 v n xs) (hb : Below w.heap.size w w') : w'.ownsRow base e 1 v n xs :=
  h.kept (only_of_below hb none) (by cases v.ownBlock <;> simp)
section
variable {e : TypeId} {w0 w w' : World}
theorem Made.below {l : List UInt8} {v : Value} (h : Made e w0 l v w) (hb : Below w.heap.size w w') : Made e w0 l v w' :=
  ⟨h.1.kept (only_of_below hb none) (by cases v.ownBlock <;> simp), hop h.2 hb⟩
end
end Go.Proofs.YtdaahapbpnjkfaaGreat
namespace Go.Proofs.YtdaahapbpnjkfaaGreat
open Go.RowKit
section
variable {α : Type} {m : Nat}
theorem flat_length : ∀ (R : List (List α)), (∀ r ∈ R, r.length = m) → R.flatten.length = R.length * m
  | [], _ => by simp
  | r :: R, h => by
    rw [List.flatten_cons, List.length_append, flat_length R (fun x hx => h x (by simp [hx])), h r (by simp), List.length_cons, Nat.succ_mul, Nat.add_comm]
theorem flat_at : ∀ (R : List (List α)) (i j : Nat) (hi : i < R.length) (_ : ∀ r ∈ R, r.length = m) (hj : j < R[i].length), R.flatten[i * m + j]? = some (R[i][j])
  | [], _, _, hi, _, _ => by simp at hi
  | r :: R, 0, j, _, _, hj => by
    rw [List.flatten_cons, Nat.zero_mul, Nat.zero_add]
    have hj' : j < r.length := hj
    rw [List.getElem?_append_left hj', List.getElem?_eq_getElem hj']
    rfl
  | r :: R, i + 1, j, hi, h, hj => by
    have e : (i + 1) * m + j = r.length + (i * m + j) := by rw [h r (by simp), Nat.succ_mul]; omega
    rw [List.flatten_cons, e, List.getElem?_append_right (by omega), Nat.add_sub_cancel_left]
    exact flat_at R i j (by simpa using hi) (fun x hx => h x (by simp [hx])) hj
theorem flat_set : ∀ (R : List (List α)) (i : Nat) (x : List α), i < R.length → (∀ r ∈ R, r.length = m) → x.length = m → splice R.flatten (i * m) x = (R.set i x).flatten
  | [], _, _, hi, _, _ => by simp at hi
  | r :: R, 0, x, _, h, hx => by
    unfold splice
    rw [List.set_cons_zero, List.flatten_cons, List.flatten_cons, Nat.zero_mul, List.take_zero, List.nil_append, Nat.zero_add, hx, ← h r (by simp), List.drop_left]
  | r :: R, i + 1, x, hi, h, hx => by
    have ih := flat_set R i x (by simpa using hi) (fun x hx => h x (by simp [hx])) hx
    unfold splice at ih ⊢
    have e : (i + 1) * m = r.length + i * m := by rw [h r (by simp), Nat.succ_mul]; omega
    rw [List.set_cons_succ, List.flatten_cons, List.flatten_cons, ← ih, e, List.take_length_add_append, Nat.add_assoc, List.drop_length_add_append, List.append_assoc]
end
theorem splice_one {α : Type} (L : List α) (o : Nat) (v : α) (r : List α) (h : o + (r.length + 1) ≤ L.length) : splice (L.set o v) (o + 1) r = splice L o (v :: r) := by
  unfold splice
  rw [List.take_succ_eq_append_getElem (by simp; omega), List.getElem_set_self, List.take_set_of_le (Nat.le_refl _), List.drop_set_of_lt (by omega)]
  simp only [List.append_assoc, List.length_cons, List.cons_append, List.nil_append]
  rw [show o + 1 + r.length = o + (r.length + 1) by omega]
theorem blk_setCells {g : Nat} {t : TypeId} : ∀ (vs : List Value) (o : Nat) (w : World) (L : List Value), Blk w g L t → o + vs.length ≤ L.length → Blk (w.setCells g o vs) g (splice L o vs) t
  | [], o, w, L, h, _ => by simpa [World.setCells, splice] using h
  | v :: r, o, w, L, h, hl => by
    rw [World.setCells, ← splice_one L o v r (by simpa using hl)]
    exact blk_setCells r (o + 1) _ _ (h.set o v) (by simp; simp at hl; omega)
theorem blk_there {w : World} {g : Nat} {L : List Value} {t : TypeId} (h : Blk w g L t) (o n : Nat) (hn : o + n ≤ L.length) : w.there g o n := fun j hj =>
  ⟨by rw [h.cell (by omega : o + j < L.length)]; rfl, h.free _⟩
theorem blk_away {g g' : Nat} {t : TypeId} {L : List Value} : ∀ (vs : List Value) (o : Nat) (w : World), Blk w g L t → g ≠ g' → Blk (w.setCells g' o vs) g L t
  | [], _, _, h, _ => h
  | v :: r, o, _, h, hg => by rw [World.setCells]; exact blk_away r (o + 1) _ (h.other _ _ hg) hg
section
variable {w : World} {g m : Nat} {R : List (List Value)} {t : TypeId}
theorem flat_range (h : Blk w g R.flatten t) (hm : ∀ r ∈ R, r.length = m) (i : Nat) (hi : i < R.length) : w.rangeAt g (i * m) R[i] := fun j v hv => by
  obtain ⟨hj, hju⟩ := List.getElem?_eq_some_iff.1 hv
  have e := flat_at R i j hi hm hj
  obtain ⟨h1, h2⟩ := List.getElem?_eq_some_iff.1 e
  rw [h.cell h1, h2, hju]
theorem flat_there (h : Blk w g R.flatten t) (hm : ∀ r ∈ R, r.length = m) (i : Nat) (hi : i < R.length) : w.there g (i * m) m :=
  blk_there h _ _ (by rw [flat_length R hm, ← Nat.succ_mul]; exact Nat.mul_le_mul_right _ hi)
theorem flat_store (h : Blk w g R.flatten t) (hm : ∀ r ∈ R, r.length = m) (i : Nat) (hi : i < R.length) (x : List Value) (hx : x.length = m) : Blk (w.setCells g (i * m) x) g (R.set i x).flatten t := by
  have := blk_setCells x (i * m) w _ h (by rw [flat_length R hm, hx, ← Nat.succ_mul]; exact Nat.mul_le_mul_right _ hi)
  rwa [flat_set R i x hi hm hx] at this
end
structure Spared (w w' : World) (F : Nat → Prop) : Prop where
  os : w'.os = w.os
  tape : w'.tape = w.tape
  output : w'.output = w.output
  size : w.heap.size ≤ w'.heap.size
  block : ∀ k, k < w.heap.size → ¬ F k → w'.heap[k]? = w.heap[k]?
section
variable {w w' w'' : World} {F G : Nat → Prop}
theorem Spared.refl (w : World) (F : Nat → Prop) : Spared w w F := ⟨rfl, rfl, rfl, Nat.le_refl _, fun _ _ _ => rfl⟩
theorem Spared.trans (h : Spared w w' F) (k : Spared w' w'' G) (hG : ∀ i, G i → F i ∨ w.heap.size ≤ i) : Spared w w'' F :=
  ⟨k.os.trans h.os, k.tape.trans h.tape, k.output.trans h.output, Nat.le_trans h.size k.size, fun i hi hn =>
    (k.block i (Nat.lt_of_lt_of_le hi h.size) (fun hg => (hG i hg).elim hn (fun hs => by omega))).trans (h.block i hi hn)⟩
theorem Spared.of_below (h : Below w.heap.size w w') (F : Nat → Prop) : Spared w w' F := ⟨h.os, h.tape, h.output, h.size, fun k hk _ => h.block k hk⟩
theorem Spared.of_grown {row : Option Nat} (h : w.grownBy w' row) (hF : ∀ k, row = some k → k < w.heap.size → F k) : Spared w w' F :=
  ⟨h.os, h.tape, h.output, h.size, fun k hk hn => h.block k hk (fun e => hn (hF k e.symm hk))⟩
theorem Spared.below (h : Spared w w' F) {W : World} (hb : Below W.heap.size W w) (hF : ∀ k, F k → W.heap.size ≤ k) : Below W.heap.size W w' :=
  ⟨h.os.trans hb.os, h.tape.trans hb.tape, h.output.trans hb.output, Nat.le_trans hb.size h.size, fun k hk => (h.block k (Nat.lt_of_lt_of_le hk hb.size) (fun hf => by have := hF k hf; omega)).trans (hb.block k hk)⟩
theorem Spared.drew (h : Spared w w' F) : Spared w w'.drew F := ⟨h.os, h.tape, h.output, h.size, h.block⟩
theorem Spared.mono (h : Spared w w' F) (hG : ∀ k, F k → G k) : Spared w w' G := ⟨h.os, h.tape, h.output, h.size, fun k hk hn => h.block k hk (fun hf => hn (hG k hf))⟩
theorem Spared.blk {g : Nat} {L : List Value} {t : TypeId} (h : Spared w w' F) (hb : Blk w g L t) (hg : ¬ F g) : Blk w' g L t := (h.block g hb.lt hg).trans hb
theorem Spared.setCell {g : Nat} (h : Spared w w' F) (hg : F g) (i : Nat) (u : Value) : Spared w (w'.setCell ⟨g, i, none⟩ u) F :=
  ⟨h.os, h.tape, h.output, by simpa [World.setCell] using h.size, fun k hk hn => (heap_setCell_other w' ⟨g, i, none⟩ k u (fun e => hn (by rw [e]; exact hg))).trans (h.block k hk hn)⟩
theorem Spared.setCells {g : Nat} (hg : F g) : ∀ (vs : List Value) (o : Nat) (w' : World), Spared w w' F → Spared w (w'.setCells g o vs) F
  | [], _, _, h => h
  | v :: r, o, _, h => Spared.setCells hg r (o + 1) _ (h.setCell hg o v)
theorem Spared.alloc (h : Spared w w' F) (o : Obj) : Spared w (w'.alloc o) F :=
  ⟨h.os, h.tape, h.output, by simp; exact Nat.le_succ_of_le h.size, fun k hk hn => (heap_alloc_old w' o (Nat.lt_of_lt_of_le hk h.size)).trans (h.block k hk hn)⟩
end
def Away (w : World) (F : Nat → Prop) (A : Option Addr) (l : List UInt8) : Prop :=
  l = [] ∨ ∃ b off, A = some ⟨b, off, none⟩ ∧ b < w.heap.size ∧ ¬ F b ∧ ∀ j (h : j < l.length), w.cell? ⟨b, off + j, none⟩ = some (.int .u8 (l[j].toNat : Int))
section
variable {w w' : World} {F G : Nat → Prop} {A : Option Addr} {l : List UInt8}
theorem Away.seen (h : Away w F A l) : Seen w A l := by
  rcases h with rfl | ⟨b, off, rfl, hb, _, hc⟩
  · exact .inl rfl
  · exact .inr ⟨b, off, rfl, hb, hc⟩
theorem Away.of_seen (h : Seen w A l) (hF : ∀ b off, A = some ⟨b, off, none⟩ → b < w.heap.size → ¬ F b) : Away w F A l := by
  rcases h with rfl | ⟨b, off, rfl, hb, hc⟩
  · exact .inl rfl
  · exact .inr ⟨b, off, rfl, hb, hF b off rfl hb, hc⟩
theorem Away.moved (h : Away w F A l) (hs : Spared w w' F) (hG : ∀ i, G i → F i ∨ w.heap.size ≤ i) : Away w' G A l := by
  rcases h with rfl | ⟨b, off, rfl, hb, hn, hc⟩
  · exact .inl rfl
  · refine .inr ⟨b, off, rfl, Nat.lt_of_lt_of_le hb hs.size, fun hg => (hG b hg).elim hn (fun h => by omega), fun j hj => ?_⟩
    exact (World.cell?_of_block (a := ⟨b, off + j, none⟩) (hs.block b hb hn)).trans (hc j hj)
end
theorem range_setCell {w : World} {b o g i : Nat} {cs : List Value} {u : Value} (h : w.rangeAt b o cs) (hne : g ≠ b) : (w.setCell ⟨g, i, none⟩ u).rangeAt b o cs := fun j v hv => by
  rw [World.cell?_setCell_other _ _ _ _ (fun e => hne (by injection e))]
  exact h j v hv
theorem range_grown {w w' : World} {b o : Nat} {cs : List Value} {row : Option Nat} (h : w.rangeAt b o cs) (hg : w.grownBy w' row) (hne : some b ≠ row) : w'.rangeAt b o cs := fun j v hv => by
  have h1 := h j v hv
  exact (World.cell?_of_block (a := ⟨b, o + j, none⟩) (hg.block b (World.block_lt_of_cell? w _ h1) hne)).trans h1
theorem wpList_copy_into {P : Program} {w : World} {ops : Array Oper} {rest : List Oper} {o : Oper} {a : Act} {Q : Exit → Act → World → Prop} (hgd : o.guard = none) (d s : Operand) (dT : TypeId)
    (ho : o.op = .call { callee := .builtin .copy, args := #[d, s], argTypes := #[dT, dT] }) (elem : TypeId) (hu : P.underlying dT = some (.slice elem)) (hsz : (P.info? elem).map (·.size) = some 1)
    (g off dLen dCap : Nat) (A : Option Addr) (r : List UInt8) (n sCap : Nat) (hd : a.eval d = .slice (some ⟨g, off, none⟩) dLen dCap) (hs : a.eval s = .slice A n sCap) (hrn : r.length = n)
    (cur : List Value) (t : TypeId) (hg : Blk w g cur t) (hr : Seen w A r) (h0 : 0 < n) (m : Nat) (hm : m = min n dLen) (hfit : off + m ≤ cur.length)
    (h : ∀ w', Hid (Blk w' g (splice cur off ((r.take m).map bv)) t) → Hid (w.grownBy w' (some g)) → wpList P ops Q rest (a.put o.dst (.int .i64 (m : Int))) w') : wpList P ops Q (o :: rest) a w := by
  subst hrn
  rcases hr with rfl | ⟨b, off', rfl, hb, hc⟩
  · simp at h0
  · have hl : ((r.take m).map bv).length = m := by simp; omega
    refine wpList_copy_own hgd d s dT dT ho elem hu hsz g off dLen dCap ⟨b, off', none⟩ r.length sCap hd hs cur.toArray t hg ((r.take m).map bv) (by rw [hl, hm]) (fun j v hv => ?_) (by rw [hl]; simpa using hfit) (fun v hv => by obtain ⟨x, _, rfl⟩ := List.mem_map.1 hv; rfl) ?_
    · obtain ⟨hj, hju⟩ := List.getElem?_eq_some_iff.1 hv
      rw [hl] at hj
      rw [add_plain, hc j (by omega), ← hju, List.getElem_map, List.getElem_take]
      rfl
    · rw [hl]
      refine h _ ?_ (only_setRow (World.grownBy.refl w _) _)
      have := setRow_heap w g _ (splice cur off ((r.take m).map bv)).toArray t _ hg
      unfold splice at this ⊢
      rw [hl] at this ⊢
      exact this
theorem Seen.drop {w : World} {A : Option Addr} {l : List UInt8} (h : Seen w A l) (m c : Nat) (hc : l.length ≤ c) : Seen w (if c = m then A else A.map (·.add (m * 1))) (l.drop m) := by
  by_cases hm : l.length ≤ m
  · exact .inl (List.drop_eq_nil_of_le hm)
  · rcases h with rfl | ⟨b, off, rfl, hb, hc'⟩
    · simp at hm
    · rw [if_neg (by omega)]
      refine .inr ⟨b, off + m, ?_, hb, fun j hj => ?_⟩
      · rw [Nat.mul_one]; show some (Addr.add _ _) = _; rw [add_plain]
      · rw [List.length_drop] at hj
        rw [Nat.add_assoc, hc' (m + j) (by omega), List.getElem_drop]
def Ints (w : World) (A : Option Addr) (l : List Int) : Prop :=
  l = [] ∨ ∃ b off, A = some ⟨b, off, none⟩ ∧ b < w.heap.size ∧ ∀ j (h : j < l.length), w.cell? ⟨b, off + j, none⟩ = some (.int .i64 l[j])
def IntsAway (w : World) (F : Nat → Prop) (A : Option Addr) (l : List Int) : Prop :=
  l = [] ∨ ∃ b off, A = some ⟨b, off, none⟩ ∧ b < w.heap.size ∧ ¬ F b ∧ ∀ j (h : j < l.length), w.cell? ⟨b, off + j, none⟩ = some (.int .i64 l[j])
section
variable {w w' : World} {F G : Nat → Prop} {A : Option Addr} {l : List Int}
theorem Ints.below (h : Ints w A l) (hb : Below w.heap.size w w') : Ints w' A l := by
  rcases h with rfl | ⟨b, off, rfl, hlt, hc⟩
  · exact .inl rfl
  · exact .inr ⟨b, off, rfl, Nat.lt_of_lt_of_le hlt hb.size, fun j hj => (hb.cell (p := ⟨b, off + j, none⟩) hlt).trans (hc j hj)⟩
theorem Ints.away (h : Ints w A l) (hb : Below w.heap.size w w') (hF : ∀ k, F k → w.heap.size ≤ k) : IntsAway w' F A l := by
  rcases h with rfl | ⟨b, off, rfl, hlt, hc⟩
  · exact .inl rfl
  · exact .inr ⟨b, off, rfl, Nat.lt_of_lt_of_le hlt hb.size, fun hf => by have := hF b hf; omega, fun j hj => (hb.cell (p := ⟨b, off + j, none⟩) hlt).trans (hc j hj)⟩
theorem IntsAway.moved (h : IntsAway w F A l) (hs : Spared w w' F) (hG : ∀ i, G i → F i ∨ w.heap.size ≤ i) : IntsAway w' G A l := by
  rcases h with rfl | ⟨b, off, rfl, hb, hn, hc⟩
  · exact .inl rfl
  · refine .inr ⟨b, off, rfl, Nat.lt_of_lt_of_le hb hs.size, fun hg => (hG b hg).elim hn (fun h => by omega), fun j hj => ?_⟩
    exact (World.cell?_of_block (a := ⟨b, off + j, none⟩) (hs.block b hb hn)).trans (hc j hj)
theorem IntsAway.at_ (h : IntsAway w F A l) (k : Nat) (hk : k < l.length) : ∃ b off, A = some ⟨b, off, none⟩ ∧ w.cell? ⟨b, off + k, none⟩ = some (.int .i64 l[k]) := by
  rcases h with rfl | ⟨b, off, rfl, _, _, hc⟩
  · simp at hk
  · exact ⟨b, off, rfl, hc k hk⟩
end
end Go.Proofs.YtdaahapbpnjkfaaGreat
