/-
  Rows of elements of any size: cut, appended to, made with room. No program's function is named here.
-/
import Derived.Test.YtaeocbgmoijedaaTrM
import Derived.Maps.AppendAt
import Derived.OwnWalk
import Derived.Laws.Slices
namespace Go.Proofs.Ytaeocbgmoijedaa
open Go.RowKit

/-- closed facts of a slice's type -/
structure RowTy (P : Program) (t e : TypeId) (s b : Nat) (i : TypeInfo) (z : Value) : Prop where
  ht : P.underlying t = some (.slice e)
  elem : P.elem t = e
  hi : P.info? e = some i
  hz : i.zero = some z
  hs : i.size = s
  hb : i.bytes = b
  zs : z.cells.size = s
  pos : 0 < s
section
variable {P : Program} {t e : TypeId} {s b : Nat} {i : TypeInfo} {z : Value}
theorem RowTy.head (R : RowTy P t e s b i z) (A : Option Addr) (n c m : Nat) (hm : m ≤ c) (W : World) : (Instr.slice t (.slice A n c) none (some (.int .i64 (m : Int))) none).run P W = .ok (.slice A m c) W := by
  rw [run_slice_h W t A n c (by rw [R.ht, R.elem]) .i64 (m : Int) (by omega) (by omega), R.elem]
  simp [sizeOf, typeInfo, R.hi, sliced]
  intro _
  cases A with
  | none => rfl
  | some a =>
    show some (a.add 0) = some a
    rw [Addr.add_zero']
theorem RowTy.tail (R : RowTy P t e s b i z) (A : Option Addr) (n c m : Nat) (hm : m ≤ n) (W : World) : (Instr.slice t (.slice A n c) (some (.int .i64 (m : Int))) none none).run P W = .ok (.slice (if c = m then A else A.map (·.add (m * s))) (n - m) (c - m)) W := by
  rw [run_slice_l W t A n c (by rw [R.ht, R.elem]) .i64 (m : Int) (by omega) (by omega), R.elem]
  simp [sizeOf, typeInfo, R.hi, R.hs, sliced]

/-- 'append(nil, make([]T, m)...)' -/
theorem run_append_room_nil (R : RowTy P t e s b i z) (u ty : TypeId) (hu : P.underlying u = some (.int .i64)) (w : World) (m : Nat) (hm : 0 < m) (hb : m * b ≤ 140737488355328) (hm2 : m ≤ 1000000) :
    ∃ cap w', (Builtin.append_ #[t, u] ty #[.slice none 0 0, .int .i64 (m : Int)]).run P w = .ok (.slice (some ⟨w.heap.size, 0, none⟩) m cap) w' ∧ w'.ownsRow w.heap.size e s (.slice (some ⟨w.heap.size, 0, none⟩) 0 cap) 0 [] ∧ Below w.heap.size w w' ∧ m ≤ cap := by
  have hs := R.hs
  have hby := R.hb
  subst hs hby
  have wm : IntKind.i64.wrap (m : Int) = (m : Int) := by rw [IntKind.wrap_i64]; omega
  have m0 : ¬ ((m : Int) < 0) := by omega
  have hm' : m ≠ 0 := by omega
  have mb : ¬ (281474976710656 < (m : Int) * (i.bytes : Int)) := by
    have : (m : Int) * (i.bytes : Int) = ((m * i.bytes : Nat) : Int) := by simp
    rw [this]; omega
  have hms : m * i.size ≠ 0 := by have := R.pos; exact Nat.mul_ne_zero hm' (by omega)
  have h63' : ¬ (9223372036854775807 < (m : Int)) := by omega
  have h48' : ¬ (281474976710656 < Builtin.nextslicecap m 0 * i.bytes) := by rw [nextslicecap_zero hm]; omega
  have hge := grownCap_ge w m 0 e
  have hcm : grownCap w m 0 e ≤ maxLen := grownCap_le_maxLen w m 0 e (by unfold maxLen; omega)
  refine ⟨grownCap w m 0 e, w.drew.alloc (.cells (Builtin.zeroCells z.cells m ++ Builtin.zeroCells z.cells (grownCap w m 0 e - m)) e), ?_, ⟨by simp, .inr ⟨w.heap.size, _, _, rfl, Nat.le_refl _, heap_alloc_new w.drew _, Nat.zero_le _, hcm, ?_, by simp⟩⟩, ⟨rfl, rfl, rfl, by simp, fun k hk => heap_alloc_old w.drew _ hk⟩, hge⟩
  · simp [Builtin.append_, run_underlying R.ht, run_underlying hu, sizeOf, typeInfo, zeroValue, R.hi, R.hz, asInt, asIntOf, wm, m0, mb, hm', h63', h48', Question.forced, run_firstCells_none, newRow, grownCap]
    intro h; exact absurd h hms
  · simp only [Array.size_append, size_zeroCells, R.zs, ← Nat.add_mul]
    congr 1
    omega

theorem wpList_append_room (R : RowTy P t e s b i z) {w : World} {ops : Array Oper} {rest : List Oper} {o : Oper} {a : Act} {Q : Exit → Act → World → Prop} (hgd : o.guard = none) (sx x : Operand) (u : TypeId)
    (ho : o.op = .call { callee := .builtin .append, args := #[sx, x], argTypes := #[t, u] }) (hu : P.underlying u = some (.int .i64)) (m : Nat) (hs : a.eval sx = .slice none 0 0) (hx : a.eval x = .int .i64 (m : Int)) (hm : 0 < m) (hb : m * b ≤ 140737488355328) (hm2 : m ≤ 1000000)
    (h : ∀ cap w', w'.ownsRow w.heap.size e s (.slice (some ⟨w.heap.size, 0, none⟩) 0 cap) 0 [] → Below w.heap.size w w' → m ≤ cap → wpList P ops Q rest (a.put o.dst (.slice (some ⟨w.heap.size, 0, none⟩) m cap)) w') : wpList P ops Q (o :: rest) a w := by
  refine wpList_plain hgd fun K hK => ?_
  obtain ⟨cap, w', hrun, h2, h3, h4⟩ := run_append_room_nil R u o.type hu w m hm hb hm2
  unfold Oper.wp execOp
  simp only [ho, resolve, invoke, builtin, Sem.run_bind, Sem.run_pure, Result.andThen_ok, List.map_toArray, List.map_cons, List.map_nil, hs, hx, hrun]
  exact hK _ _ (h cap w' h2 h3 h4)

theorem run_append_cells (R : RowTy P t e s b i z) (ty : TypeId) (w : World) (F : Nat → Prop) (base : Nat) (v : Value) (n : Nat) (xs : List Value) (hown : w.ownsRow base e s v n xs)
    (A : Option Addr) (C : List Value) (m c : Nat) (hC : C.length = m * s) (hr : Cells w F A C) (h1 : ∀ u ∈ C, u.oneCell' = true) (hb : (n + m) * b ≤ 140737488355328) (hm : n + m ≤ 1000000) (hbase : base ≤ w.heap.size) :
    ∃ v' w', (Builtin.append_ #[t, t] ty #[v, .slice A m c]).run P w = .ok v' w' ∧ w'.ownsRow base e s v' (n + m) (xs ++ C) ∧ w.grownBy w' v.ownBlock := by
  rcases A with _ | ad
  · obtain rfl : C = [] := by
      rcases hr with h | ⟨_, _, h, _⟩
      · exact h
      · cases h
    obtain rfl : m = 0 := by
      rcases Nat.eq_zero_or_pos m with h | h
      · exact h
      · have := Nat.mul_pos h R.pos
        have hC' : 0 = m * s := hC
        omega
    refine ⟨v, w, ?_, by simpa using hown, World.grownBy.refl w _⟩
    have := R.hs
    exact run_append_nought w base t ty e i s R.ht R.hi v n xs hown c
  · obtain ⟨v', w', hrun, h2, h3, _, _⟩ := run_append_own_at (P := P) w base t ty e i z s b R.ht R.hi R.hz R.hs R.hb R.zs R.pos v n xs hown ad m c C hC (by
      intro j u hu
      obtain ⟨hj, hju⟩ := List.getElem?_eq_some_iff.1 hu
      obtain ⟨bl, off, ha, _, _, hc⟩ := hr.at_ j hj
      injection ha with ha
      subst ha
      rw [add_plain, hc j hj, hju]) h1 (by unfold maxLen; omega) hb hbase
    exact ⟨v', w', hrun, h2, h3⟩

/-- 'append(v, x...)', of cells that are there, onto a row of the call's own -/
theorem wpList_append_cells (R : RowTy P t e s b i z) {w : World} {ops : Array Oper} {rest : List Oper} {o : Oper} {a : Act} {Q : Exit → Act → World → Prop} (hgd : o.guard = none) (sx x : Operand)
    (ho : o.op = .call { callee := .builtin .append, args := #[sx, x], argTypes := #[t, t] }) (F : Nat → Prop) (base : Nat) (v : Value) (n : Nat) (xs : List Value) (hs : a.eval sx = v) (hown : w.ownsRow base e s v n xs)
    (A : Option Addr) (C : List Value) (m c : Nat) (hx : a.eval x = .slice A m c) (hC : C.length = m * s) (hr : Cells w F A C) (h1 : ∀ u ∈ C, u.oneCell' = true) (hb : (n + m) * b ≤ 140737488355328) (hm : n + m ≤ 1000000) (hbase : base ≤ w.heap.size)
    (h : ∀ v' w', w'.ownsRow base e s v' (n + m) (xs ++ C) → w.grownBy w' v.ownBlock → wpList P ops Q rest (a.put o.dst v') w') : wpList P ops Q (o :: rest) a w := by
  refine wpList_plain hgd fun K hK => ?_
  obtain ⟨v', w', hrun, h2, h3⟩ := run_append_cells R o.type w F base v n xs hown A C m c hC hr h1 hb hm hbase
  unfold Oper.wp execOp
  simp only [ho, resolve, invoke, builtin, Sem.run_bind, Sem.run_pure, Result.andThen_ok, List.map_toArray, List.map_cons, List.map_nil, hs, hx, hrun]
  exact hK _ _ (h v' w' h2 h3)

/-- a row of the call's own, as cells -/
theorem own_cells {w : World} {base n c : Nat} {A : Option Addr} {xs : List Value} (h : w.ownsRow base e s (.slice A n c) n xs) : Cells w (fun k => k < base) A xs ∧ n ≤ c := by
  rcases h.2 with ⟨hv, h0⟩ | ⟨g, cap, cur, hv, hbg, hg, hnc, hcm, hcs, htake⟩
  · injection hv with _ h2 h3
    refine ⟨.inl (List.eq_nil_of_length_eq_zero ?_), by omega⟩
    rw [h.1, h0, Nat.zero_mul]
  · injection hv with hA _ hc
    subst hA hc
    refine ⟨.inr ⟨g, 0, rfl, (h.lt g rfl).2, by omega, fun j hj => ?_⟩, hnc⟩
    have := h.cells (g := g) rfl j xs[j] (List.getElem?_eq_getElem hj)
    rw [add_plain] at this
    exact this
theorem own_shape {w : World} {base n : Nat} {v : Value} {xs : List Value} (h : w.ownsRow base e s v n xs) : ∃ A c, v = .slice A n c := by
  rcases h.2 with ⟨rfl, h0⟩ | ⟨g, cap, cur, rfl, _⟩
  · exact ⟨none, 0, by rw [h0]⟩
  · exact ⟨_, _, rfl⟩
end
theorem ecells_one : (h : Nat) → (x : El h) → ∀ u ∈ ecells h x, u.oneCell' = true
  | 0, _ => fun u hu => by
    rcases List.mem_cons.1 hu with rfl | hu
    · rfl
    · rw [List.mem_singleton.1 hu]; rfl
  | 1, _ => fun u hu => by
    rcases List.mem_cons.1 hu with rfl | hu
    · rfl
    · rcases List.mem_cons.1 hu with rfl | hu
      · rfl
      · rw [List.mem_singleton.1 hu]; rfl
  | _ + 2, _ => fun u hu => by
    rcases List.mem_cons.1 hu with rfl | hu
    · rfl
    · rcases List.mem_cons.1 hu with rfl | hu
      · rfl
      · rw [List.mem_singleton.1 hu]; rfl
theorem rowCells_one (h : Nat) (l : List (El h)) : ∀ u ∈ rowCells h l, u.oneCell' = true := by
  intro u hu
  unfold rowCells at hu
  obtain ⟨r, hr, hu⟩ := List.mem_flatten.1 hu
  obtain ⟨x, _, rfl⟩ := List.mem_map.1 hr
  exact ecells_one h x u hu

/-! rows that are joined -/
/-- a row: where it begins, how many it has, its room, its cells -/
abbrev RowV := Option Addr × Nat × Nat × List Value
def rvVal (r : RowV) : Value := .slice r.1 r.2.1 r.2.2.1
def tot (rs : List RowV) : Nat := (rs.map fun r => r.2.1).sum
def cat (rs : List RowV) : List Value := (rs.map fun r => r.2.2.2).flatten
def RvOk (w : World) (F : Nat → Prop) (s : Nat) (r : RowV) : Prop := Cells w F r.1 r.2.2.2 ∧ r.2.2.2.length = r.2.1 * s ∧ ∀ u ∈ r.2.2.2, u.oneCell' = true
theorem tot_step {rs : List RowV} {k : Nat} (hk : k < rs.length) : tot (rs.take (k + 1)) = tot (rs.take k) + rs[k].2.1 := by
  unfold tot; rw [List.take_succ_eq_append_getElem hk, List.map_append, List.sum_append]; simp only [List.map_cons, List.map_nil, List.sum_cons, List.sum_nil]; omega
theorem cat_step {rs : List RowV} {k : Nat} (hk : k < rs.length) : cat (rs.take (k + 1)) = cat (rs.take k) ++ rs[k].2.2.2 := by
  unfold cat; rw [List.take_succ_eq_append_getElem hk, List.map_append, List.flatten_append]; simp only [List.map_cons, List.map_nil, List.flatten_cons, List.flatten_nil, List.append_nil]
theorem tot_take (rs : List RowV) (k : Nat) : tot (rs.take k) ≤ tot rs := by
  unfold tot
  conv => rhs; rw [← List.take_append_drop k rs]
  rw [List.map_append, List.sum_append]
  exact Nat.le_add_right _ _
theorem RvOk.below {w w' : World} {F : Nat → Prop} {s : Nat} {r : RowV} (h : RvOk w F s r) (hb : Below w.heap.size w w') : RvOk w' F s r := ⟨h.1.below hb, h.2⟩
/-- cells just laid -/
theorem cells_new (w : World) (F : Nat → Prop) (C : List Value) (t : TypeId) (hF : ¬ F w.heap.size) : Cells (w.alloc (.cells C.toArray t)) F (some ⟨w.heap.size, 0, none⟩) C :=
  .inr ⟨w.heap.size, 0, rfl, by simp, hF, fun j hj => by rw [Nat.zero_add]; exact (Blk.new w C t).cell hj⟩
theorem rowCells_two (h : Nat) (x y : El h) : rowCells h [x, y] = ecells h x ++ ecells h y := by simp [rowCells]
theorem rowCells_single (h : Nat) (x : El h) : rowCells h [x] = ecells h x := by simp [rowCells]
end Go.Proofs.Ytaeocbgmoijedaa
