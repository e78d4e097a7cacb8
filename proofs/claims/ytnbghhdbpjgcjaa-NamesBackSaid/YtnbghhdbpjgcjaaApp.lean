/-
  'append' of a slice that shows bytes, onto a row of the call's own. No program is named here.
-/
import Derived.Test.YtnbghhdbpjgcjaaMem
import Derived.Maps.AppendAt
import Derived.OwnWalk
import Derived.Deep.RegionLaw
namespace Go.Proofs.Ytnbghhdbpjgcjaa
open Go.RowKit

section
variable {P : Program} (w : World)

theorem run_append_nought (base : Nat) (t ty e : TypeId) (i : TypeInfo) (size : Nat) (ht : P.underlying t = some (.slice e)) (hi : P.info? e = some i)
    (v : Value) (n : Nat) (xs : List Value) (hown : w.ownsRow base e size v n xs) (c : Nat) :
    (Builtin.append_ #[t, t] ty #[v, .slice none 0 c]).run P w = .ok v w := by
  rcases hown.2 with ⟨rfl, rfl⟩ | ⟨g, cap, cur, rfl, _, _, hnc, _⟩
  · simp [Builtin.append_, run_underlying ht, sizeOf, typeInfo, hi, Builtin.lenOf, Builtin.firstCells]
  · simp [Builtin.append_, run_underlying ht, sizeOf, typeInfo, hi, Builtin.lenOf, Builtin.firstCells, hnc, storeCells]

theorem bytes_one (l : List UInt8) : ∀ u ∈ l.map bv, u.oneCell' = true := by
  intro u hu
  obtain ⟨c, _, rfl⟩ := List.mem_map.1 hu
  rfl

theorem run_append_seen (base : Nat) (t ty e : TypeId) (i : TypeInfo) (z : Value) (ht : P.underlying t = some (.slice e)) (hi : P.info? e = some i) (hz : i.zero = some z)
    (hsize : i.size = 1) (hby : i.bytes = 1) (hzs : z.cells.size = 1)
    (v : Value) (n : Nat) (xs : List Value) (hown : w.ownsRow base e 1 v n xs)
    (A : Option Addr) (l : List UInt8) (c : Nat) (hr : Seen w A l) (hb : n + l.length ≤ 140737488355328) (hbase : base ≤ w.heap.size) :
    ∃ v' w', (Builtin.append_ #[t, t] ty #[v, .slice A l.length c]).run P w = .ok v' w' ∧ w'.ownsRow base e 1 v' (n + l.length) (xs ++ l.map bv) ∧ w.grownBy w' v.ownBlock ∧
      (v'.ownBlock = v.ownBlock ∨ v'.ownBlock = some w.heap.size) := by
  rcases A with _ | ad
  · obtain rfl : l = [] := by
      rcases hr with h | ⟨_, _, h, _⟩
      · exact h
      · cases h
    exact ⟨v, w, run_append_nought w base t ty e i 1 ht hi v n xs hown c, by simpa using hown, World.grownBy.refl w _, .inl rfl⟩
  · have hcells : ∀ j u, (l.map bv)[j]? = some u → w.cell? (ad.add j) = some u := by
      intro j u hu
      obtain ⟨hj, hju⟩ := List.getElem?_eq_some_iff.1 hu
      rw [List.length_map] at hj
      obtain ⟨b, off, ha, _, hc⟩ := hr.at_ hj
      injection ha with ha
      subst ha
      rw [add_plain, hc, ← hju, List.getElem_map]
      rfl
    obtain ⟨v', w', hrun, h2, h3, _, h5⟩ := run_append_own_at (P := P) w base t ty e i z 1 1 ht hi hz hsize hby hzs (by decide) v n xs hown ad l.length c (l.map bv) (by simp) hcells (bytes_one l) (by unfold maxLen; omega) (by omega) hbase
    exact ⟨v', w', hrun, h2, h3, h5⟩

theorem wpList_append_seen {ops : Array Oper} {rest : List Oper} {o : Oper} {a : Act} {Q : Exit → Act → World → Prop} (hgd : o.guard = none) (s x : Operand) (t : TypeId)
    (ho : o.op = .call { callee := .builtin .append, args := #[s, x], argTypes := #[t, t] })
    (base : Nat) (e : TypeId) (i : TypeInfo) (z : Value) (ht : P.underlying t = some (.slice e)) (hi : P.info? e = some i) (hz : i.zero = some z)
    (hsize : i.size = 1) (hby : i.bytes = 1) (hzs : z.cells.size = 1)
    (v : Value) (n : Nat) (xs : List Value) (hs : a.eval s = v) (hown : w.ownsRow base e 1 v n xs)
    (A : Option Addr) (l : List UInt8) (c : Nat) (hx : a.eval x = .slice A l.length c) (hr : Seen w A l) (hb : n + l.length ≤ 140737488355328) (hbase : base ≤ w.heap.size)
    (h : ∀ v' w', w'.ownsRow base e 1 v' (n + l.length) (xs ++ l.map bv) → w.grownBy w' v.ownBlock → (v'.ownBlock = v.ownBlock ∨ v'.ownBlock = some w.heap.size) → wpList P ops Q rest (a.put o.dst v') w') :
    wpList P ops Q (o :: rest) a w := by
  refine wpList_plain hgd fun K hK => ?_
  obtain ⟨v', w', hrun, h2, h3, h4⟩ := run_append_seen (P := P) w base t o.type e i z ht hi hz hsize hby hzs v n xs hown A l c hr hb hbase
  unfold Oper.wp execOp
  simp only [ho, resolve, invoke, builtin, Sem.run_bind, Sem.run_pure, Result.andThen_ok, List.map_toArray, List.map_cons, List.map_nil, hs, hx, hrun]
  exact hK _ _ (h v' w' h2 h3 h4)
end

/-- What a row of the call's own, from base on, leaves of what was there. -/
theorem below_grown {B : Nat} {a w w' : World} {e : TypeId} {size n : Nat} {v : Value} {xs : List Value} (h : Below B a w) (hB : B ≤ w.heap.size) (hown : w.ownsRow B e size v n xs) (hg : w.grownBy w' v.ownBlock) : Below B a w' :=
  h.grown hg hB (fun k hk => (hown.lt k hk).1)

theorem bv_ofInt (y : Int) (h0 : 0 ≤ y) (h1 : y < 256) : bv (UInt8.ofNat y.toNat) = .int .u8 y := by
  unfold bv
  rw [UInt8.toNat_ofNat']
  congr 1
  omega

/-- What a call that makes a slice of bytes leaves: the slice is its own, and shows l; what was there in w0 is as it was. -/
def Made (e : TypeId) (w0 : World) (l : List UInt8) (v : Value) (w' : World) : Prop :=
  w'.ownsRow w0.heap.size e 1 v l.length (l.map bv) ∧ Below w0.heap.size w0 w'

section
variable {e : TypeId} {w0 w w' : World} {l : List UInt8} {v : Value}
theorem Made.form (h : Made e w0 l v w) : ∃ A c, v = .slice A l.length c ∧ Seen w A l := by
  have h1 := h.1
  rcases h1.2 with ⟨rfl, h0⟩ | ⟨g, cap, cur, rfl, _⟩
  · exact ⟨none, 0, by rw [h0], .inl (List.eq_nil_of_length_eq_zero h0)⟩
  · exact ⟨_, _, rfl, (Seen.of_own h1).1⟩
theorem Made.nil (e : TypeId) (w : World) : Made e w [] (.slice none 0 0) w := ⟨World.ownsRow_nil _ _ _ _, Below.refl _ _⟩
theorem Made.size (h : Made e w0 l v w) : w0.heap.size ≤ w.heap.size := h.2.size
theorem Made.drew (h : Made e w0 l v w) : Made e w0 l v w.drew := ⟨h.1.drew, h.2.drew⟩
end

/-- a list with one byte more -/
def pushed (d : List UInt8) (y : Int) : List UInt8 := d ++ [UInt8.ofNat y.toNat]

theorem run_append_byte {P : Program} (w : World) (t ty e : TypeId) (i : TypeInfo) (z : Value) (ht : P.underlying t = some (.slice e)) (hi : P.info? e = some i) (hz : i.zero = some z)
    (hsize : i.size = 1) (hby : i.bytes = 1) (hzs : z.cells.size = 1)
    (w0 : World) (v : Value) (d : List UInt8) (y : Int) (H : Made e w0 d v w) (h0 : 0 ≤ y) (h1 : y < 256) (hb : d.length + 1 ≤ 140737488355328) :
    ∃ v' w', (Builtin.append_ #[t, t] ty #[v, .slice (some ⟨w.heap.size, 0, none⟩) 1 1]).run P (w.alloc (.cells #[.int .u8 y] e)) = .ok v' w' ∧ Made e w0 (pushed d y) v' w' := by
  obtain ⟨hown, hbel⟩ := H
  have hB := hbel.size
  obtain ⟨v', w', hrun, hown', hg, _⟩ := run_append_own_at (P := P) (w.alloc (.cells #[.int .u8 y] e)) w0.heap.size t ty e i z 1 1 ht hi hz hsize hby hzs (by decide) v d.length (d.map bv) (hown.alloc _) ⟨w.heap.size, 0, none⟩ 1 1 [.int .u8 y] rfl (by
    intro j u hu
    have hj : j = 0 := by
      rcases Nat.eq_zero_or_pos j with h | h
      · exact h
      · rw [List.getElem?_eq_none (by simp; omega)] at hu; cases hu
    subst hj
    simp at hu
    subst hu
    rw [add_plain, World.cell?_alloc_at _ _ _ _ rfl]
    rfl) (by
    intro u hu
    simp at hu
    subst hu
    rfl) (by unfold maxLen; omega) (by omega) (by simp; omega)
  refine ⟨v', w', hrun, ?_, below_grown (hbel.alloc hB _) (by simp; omega) (hown.alloc _) hg⟩
  unfold pushed
  rw [List.map_append, List.map_cons, List.map_nil, bv_ofInt y h0 h1]
  simpa using hown'

/-- 'append(d, y)', one byte, onto a row of the call's own that shows d: the byte has been laid into a new block. -/
theorem wpList_append_byte {P : Program} (w : World) {ops : Array Oper} {rest : List Oper} {o : Oper} {a : Act} {Q : Exit → Act → World → Prop} (hgd : o.guard = none) (s x : Operand) (t : TypeId)
    (ho : o.op = .call { callee := .builtin .append, args := #[s, x], argTypes := #[t, t] })
    (e : TypeId) (i : TypeInfo) (z : Value) (ht : P.underlying t = some (.slice e)) (hi : P.info? e = some i) (hz : i.zero = some z)
    (hsize : i.size = 1) (hby : i.bytes = 1) (hzs : z.cells.size = 1)
    (w0 : World) (v : Value) (d : List UInt8) (y : Int) (hs : a.eval s = v) (hx : a.eval x = .slice (some ⟨w.heap.size, 0, none⟩) 1 1)
    (H : Made e w0 d v w) (h0 : 0 ≤ y) (h1 : y < 256) (hb : d.length + 1 ≤ 140737488355328)
    (h : ∀ v' w', Made e w0 (pushed d y) v' w' → wpList P ops Q rest (a.put o.dst v') w') :
    wpList P ops Q (o :: rest) a (w.alloc (.cells #[.int .u8 y] e)) := by
  refine wpList_plain hgd fun K hK => ?_
  obtain ⟨v', w', hrun, h2⟩ := run_append_byte (P := P) w t o.type e i z ht hi hz hsize hby hzs w0 v d y H h0 h1 hb
  unfold Oper.wp execOp
  simp only [ho, resolve, invoke, builtin, Sem.run_bind, Sem.run_pure, Result.andThen_ok, List.map_toArray, List.map_cons, List.map_nil, hs, hx, hrun]
  exact hK _ _ (h v' w' h2)

/-- 'append(d, l...)', onto a row of the call's own that shows d. -/
theorem wpList_append_bytes {P : Program} (w : World) {ops : Array Oper} {rest : List Oper} {o : Oper} {a : Act} {Q : Exit → Act → World → Prop} (hgd : o.guard = none) (s x : Operand) (t : TypeId)
    (ho : o.op = .call { callee := .builtin .append, args := #[s, x], argTypes := #[t, t] })
    (e : TypeId) (i : TypeInfo) (z : Value) (ht : P.underlying t = some (.slice e)) (hi : P.info? e = some i) (hz : i.zero = some z)
    (hsize : i.size = 1) (hby : i.bytes = 1) (hzs : z.cells.size = 1)
    (w0 : World) (v : Value) (d : List UInt8) (A : Option Addr) (l : List UInt8) (c : Nat) (hs : a.eval s = v) (hx : a.eval x = .slice A l.length c)
    (H : Made e w0 d v w) (hr : Seen w A l) (hb : d.length + l.length ≤ 140737488355328)
    (h : ∀ v' w', Made e w0 (d ++ l) v' w' → Below w0.heap.size w w' → wpList P ops Q rest (a.put o.dst v') w') :
    wpList P ops Q (o :: rest) a w := by
  refine wpList_append_seen w hgd s x t ho w0.heap.size e i z ht hi hz hsize hby hzs v d.length (d.map bv) hs H.1 A l c hx hr hb H.2.size fun v' w' hown hg _ => h v' w' ⟨?_, below_grown H.2 H.2.size H.1 hg⟩ (below_grown (Below.refl _ _) H.2.size H.1 hg)
  rw [List.map_append, List.length_append]
  exact hown

/-- What a slice of known room, made by the call as its first new block, shows: its first bytes are d. -/
def Room (e : TypeId) (w0 : World) (d : List UInt8) (n cap : Nat) (w' : World) : Prop :=
  w'.ownsRow w0.heap.size e 1 (.slice (some ⟨w0.heap.size, 0, none⟩) n cap) n (d.map bv) ∧ Below w0.heap.size w0 w'

theorem Room.made {e : TypeId} {w0 w' : World} {d : List UInt8} {n cap : Nat} (h : Room e w0 d n cap w') : n = d.length ∧ Made e w0 d (.slice (some ⟨w0.heap.size, 0, none⟩) n cap) w' := by
  have hn : n = d.length := by have := h.1.1; simp at this; omega
  subst hn
  exact ⟨rfl, h⟩
theorem Room.drew {e : TypeId} {w0 w' : World} {d : List UInt8} {n cap : Nat} (h : Room e w0 d n cap w') : Room e w0 d n cap w'.drew := ⟨h.1.drew, h.2.drew⟩

theorem run_append_fit {P : Program} (w : World) (t ty e : TypeId) (i : TypeInfo) (ht : P.underlying t = some (.slice e)) (hi : P.info? e = some i) (hsize : i.size = 1)
    (w0 : World) (d : List UInt8) (n cap : Nat) (H : Room e w0 d n cap w) (ys : List Int) (h0 : ∀ y ∈ ys, 0 ≤ y ∧ y < 256) (hcap : n + ys.length ≤ cap) :
    ∃ w', (Builtin.append_ #[t, t] ty #[.slice (some ⟨w0.heap.size, 0, none⟩) n cap, .slice (some ⟨w.heap.size, 0, none⟩) ys.length ys.length]).run P (w.alloc (.cells (ys.map (Value.int .u8)).toArray e)) = .ok (.slice (some ⟨w0.heap.size, 0, none⟩) (n + ys.length) cap) w' ∧
      Room e w0 (d ++ ys.map fun y => UInt8.ofNat y.toNat) (n + ys.length) cap w' := by
  obtain ⟨hown, hbel⟩ := H
  have hB := hbel.size
  obtain ⟨w', hrun, hown', hg⟩ := run_append_fits (P := P) (w.alloc (.cells (ys.map (Value.int .u8)).toArray e)) w0.heap.size t ty e i 1 ht hi hsize w0.heap.size n cap (d.map bv) (hown.alloc _) ⟨w.heap.size, 0, none⟩ ys.length ys.length (ys.map (Value.int .u8)) (by simp) (by
    intro j u hu
    obtain ⟨hj, hju⟩ := List.getElem?_eq_some_iff.1 hu
    rw [add_plain, World.cell?_alloc_at _ _ _ _ rfl, Nat.zero_add]
    rw [List.getElem?_toArray, hu]) (by
    intro u hu
    obtain ⟨y, _, rfl⟩ := List.mem_map.1 hu
    rfl) hcap
  refine ⟨w', hrun, ?_, below_grown (v := .slice (some ⟨w0.heap.size, 0, none⟩) n cap) (hbel.alloc hB _) (by simp; omega) (hown.alloc _) hg⟩
  have hm : (ys.map fun y => UInt8.ofNat y.toNat).map bv = ys.map (Value.int .u8) := by
    rw [List.map_map]
    apply List.map_congr_left
    intro y hy
    exact bv_ofInt y (h0 y hy).1 (h0 y hy).2
  rw [List.map_append, hm]
  exact hown'

/-- the same as a step of a statement whose order is open: two bytes -/
theorem step_append_two {P : Program} {ops : Array Oper} {o : Oper} {a : Act} {K : Act → World → Prop} {Q : Exit → Act → World → Prop} {E : Prop} (w : World) (hgd : o.guard = none) (s x : Operand) (t : TypeId)
    (ho : o.op = .call { callee := .builtin .append, args := #[s, x], argTypes := #[t, t] })
    (e : TypeId) (i : TypeInfo) (ht : P.underlying t = some (.slice e)) (hi : P.info? e = some i) (hsize : i.size = 1)
    (w0 : World) (d : List UInt8) (n cap : Nat) (y1 y2 : Int) (hs : a.eval s = .slice (some ⟨w0.heap.size, 0, none⟩) n cap) (hx : a.eval x = .slice (some ⟨w.heap.size, 0, none⟩) 2 2)
    (H : Room e w0 d n cap w) (h1 : 0 ≤ y1 ∧ y1 < 256) (h2 : 0 ≤ y2 ∧ y2 < 256) (hcap : n + 2 ≤ cap)
    (h : ∀ w', Room e w0 (pushed (pushed d y1) y2) (n + 2) cap w' → K (a.put o.dst (.slice (some ⟨w0.heap.size, 0, none⟩) (n + 2) cap)) w') :
    if Region.wanted o (yielded ops a.tmps) = true then Oper.wp P o a (w.alloc (.cells #[.int .u8 y1, .int .u8 y2] e)).drew K Q else E := by
  have hw : Region.wanted o (yielded ops a.tmps) = true := by simp [Region.wanted, hgd]
  rw [if_pos hw]
  obtain ⟨w', hrun, h3⟩ := run_append_fit (P := P) w.drew t o.type e i ht hi hsize w0 d n cap H.drew [y1, y2] (by
    intro y hy
    simp at hy
    rcases hy with rfl | rfl
    · exact h1
    · exact h2) hcap
  simp only [List.length_cons, List.length_nil, List.map_cons, List.map_nil, Nat.zero_add, Nat.reduceAdd] at hrun h3
  change (Builtin.append_ #[t, t] o.type #[_, .slice (some ⟨w.heap.size, 0, none⟩) 2 2]).run P (w.alloc (.cells #[.int .u8 y1, .int .u8 y2] e)).drew = _ at hrun
  unfold Oper.wp execOp
  simp only [ho, resolve, invoke, builtin, Sem.run_bind, Sem.run_pure, Result.andThen_ok, List.map_toArray, List.map_cons, List.map_nil, hs, hx, hrun]
  refine h w' ?_
  unfold pushed
  simpa using h3

/-- one byte, within the room -/
theorem wpList_append_fit1 {P : Program} (w : World) {ops : Array Oper} {rest : List Oper} {o : Oper} {a : Act} {Q : Exit → Act → World → Prop} (hgd : o.guard = none) (s x : Operand) (t : TypeId)
    (ho : o.op = .call { callee := .builtin .append, args := #[s, x], argTypes := #[t, t] })
    (e : TypeId) (i : TypeInfo) (ht : P.underlying t = some (.slice e)) (hi : P.info? e = some i) (hsize : i.size = 1)
    (w0 : World) (d : List UInt8) (n cap : Nat) (y : Int) (hs : a.eval s = .slice (some ⟨w0.heap.size, 0, none⟩) n cap) (hx : a.eval x = .slice (some ⟨w.heap.size, 0, none⟩) 1 1)
    (H : Room e w0 d n cap w) (h0 : 0 ≤ y) (h1 : y < 256) (hcap : n + 1 ≤ cap)
    (h : ∀ w', Room e w0 (pushed d y) (n + 1) cap w' → wpList P ops Q rest (a.put o.dst (.slice (some ⟨w0.heap.size, 0, none⟩) (n + 1) cap)) w') :
    wpList P ops Q (o :: rest) a (w.alloc (.cells #[.int .u8 y] e)) := by
  refine wpList_plain hgd fun K hK => ?_
  obtain ⟨w', hrun, h3⟩ := run_append_fit (P := P) w t o.type e i ht hi hsize w0 d n cap H [y] (by
    intro z hz
    simp at hz
    subst hz
    exact ⟨h0, h1⟩) hcap
  simp only [List.length_cons, List.length_nil, List.map_cons, List.map_nil, Nat.zero_add] at hrun h3
  unfold Oper.wp execOp
  simp only [ho, resolve, invoke, builtin, Sem.run_bind, Sem.run_pure, Result.andThen_ok, List.map_toArray, List.map_cons, List.map_nil, hs, hx, hrun]
  exact hK _ _ (h w' h3)
end Go.Proofs.Ytnbghhdbpjgcjaa
