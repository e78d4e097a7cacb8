/-
  Lists of calls for the statement TreeOrders: their keys, their cells, put in two orders. No conditions.
-/
import Derived.Test.YtaeocbgmoijedaaTrScans
import Derived.Deep.AppendLies
namespace Go.Proofs.Ytaeocbgmoijedaa
open Go.RowKit

/-- keys and values of at most 100 bytes -/
def Wee (L : List Kv) : Prop := ∀ x ∈ L, x.1.length ≤ 100 ∧ x.2.length ≤ 100
theorem Wee.size {L : List Kv} (h : Wee L) : sizeL L ≤ 200 * L.length := by
  induction L with
  | nil => exact Nat.le_refl _
  | cons x L ih =>
    have h1 := h x (List.mem_cons_self ..)
    have h2 := ih (fun y hy => h y (List.mem_cons_of_mem _ hy))
    rw [sizeL_cons, List.length_cons]
    omega
theorem Wee.put {L : List Kv} (h : Wee L) {k v : Key} (hk : k.length ≤ 100) (hv : v.length ≤ 100) : Wee (putL k v L) := fun x hx => by
  unfold putL at hx
  rcases List.mem_append.1 hx with hx | hx
  · exact h x (low_lt hx).1
  · rcases List.mem_cons.1 hx with rfl | hx
    · exact ⟨hk, hv⟩
    · exact h x (high_lt hx).1
theorem Wee.nil : Wee [] := fun x hx => by cases hx
/-- a list of few wee pairs -/
def Fits (L : List Kv) (k : Nat) : Prop := Wee L ∧ L.length ≤ k
theorem Fits.put {L : List Kv} {k : Nat} (h : Fits L k) (hs : Srt L) {y v : Key} (hk : y.length ≤ 100) (hv : v.length ≤ 100) : Fits (putL y v L) (k + 1) := ⟨h.1.put hk hv, by have := put_length hs y v; have := h.2; rw [put_length hs y v]; split <;> omega⟩
theorem put_roomy (W : World) (F : Nat → Prop) (hF : ∀ b, F b → b < W.heap.size) (g : Nat) (L : List Kv) (A : Option Addr) (k : Key) (m c : Nat) (t : TreeAt W F g 1000000 L) (h2 : Fits L 299) (hk : Seen W A k) (hm : k.length = m) (hm1 : m ≤ 100) :
    Calls Try.prog 13 #[.pointer (some ⟨g, 0, none⟩), .slice A m c, .slice A m c] W fun e w' => e = .returned (.int .i64 0) ∧ TreeAt w' F g 1000000 (putL k k L) ∧ Spared W w' (fun b => b = g) := by
  have hl := h2.2
  refine (put_any W F hF g 1000000 L A A k k m c m c t (by omega) hk hm hk hm (by omega) (by omega)).mono ?_
  have hf := h2.put t.srt (y := k) (v := k) (by omega) (by omega)
  have hs := hf.1.size
  have hn := hf.2
  rintro e w' ⟨hsp, ho⟩
  rcases ho with ⟨h1, rfl, h3⟩ | ⟨_, rfl, h3⟩
  · omega
  · exact ⟨rfl, h3, hsp⟩
theorem putAll_more (l : List Key) (k : Key) (L : List Kv) : putAll (l ++ [k]) L = putL k k (putAll l L) := by unfold putAll; rw [List.foldl_append]; rfl
/-- the keys of calls -/
def keysOf (l : List TOp) : List Key := l.map fun o => o.2.1.2.1
theorem keys_take {l : List TOp} {k : Nat} (hk : k < l.length) : keysOf (l.take (k + 1)) = keysOf (l.take k) ++ [l[k].2.1.2.1] := by
  unfold keysOf
  rw [List.take_succ_eq_append_getElem hk, List.map_append]; rfl
/-- the keys from behind -/
def backOf (l : List TOp) (j : Nat) : List Key := (keysOf (l.drop j)).reverse
theorem back_step {l : List TOp} {j : Nat} (hj : j < l.length) : backOf l j = backOf l (j + 1) ++ [l[j].2.1.2.1] := by
  unfold backOf keysOf
  rw [List.drop_eq_getElem_cons hj, List.map_cons, List.reverse_cons]
theorem back_end (l : List TOp) : backOf l l.length = [] := by unfold backOf keysOf; rw [List.drop_length]; rfl
theorem turned_same (l : List TOp) (k : Nat) : putAll (keysOf l) [] = putAll (backOf (l.drop k ++ l.take k) 0) [] := by
  refine putAll_order _ _ fun x => ?_
  unfold backOf keysOf
  rw [List.drop_zero, List.mem_reverse, List.map_append, List.mem_append, List.mem_map]
  conv => lhs; rw [← List.take_append_drop k l]
  simp only [List.mem_append, List.mem_map]
  constructor
  · rintro ⟨o, h | h, rfl⟩
    · exact .inr ⟨o, h, rfl⟩
    · exact .inl ⟨o, h, rfl⟩
  · rintro (⟨o, h, rfl⟩ | ⟨o, h, rfl⟩)
    · exact ⟨o, .inr h, rfl⟩
    · exact ⟨o, .inl h, rfl⟩
theorem rowO : ∃ i z, RowTy Try.prog 22 33 4 64 i z := by
  have hf : (Try.prog.info? 33).map (fun i => (i.zero, i.size, i.bytes)) = some (some (.agg #[.int .i64 0, .slice none 0 0, .slice none 0 0, .int .i64 0]), 4, 64) := by kernel_rfl
  obtain ⟨i, hi, hz, hs, hb⟩ := info_parts hf
  exact ⟨i, _, Try.underlying22, by kernel_rfl, hi, hz, hs, hb, rfl, by decide⟩
/-- the cells of calls -/
def opCells (l : List TOp) : List Value := (l.map tcells).flatten
theorem opCells_length (l : List TOp) : (opCells l).length = l.length * 4 := by
  unfold opCells
  rw [flat_length (m := 4) _ (fun r hr => by obtain ⟨x, _, rfl⟩ := List.mem_map.1 hr; rfl), List.length_map]
theorem opCells_append (a b : List TOp) : opCells (a ++ b) = opCells a ++ opCells b := by simp [opCells]
theorem opCells_drop (l : List TOp) (m : Nat) : (opCells l).drop (m * 4) = opCells (l.drop m) := by
  conv => lhs; rw [← List.take_append_drop m l, opCells_append]
  by_cases h : m ≤ l.length
  · rw [List.drop_append_of_le_length (by rw [opCells_length, List.length_take]; omega), List.drop_eq_nil_of_le (by rw [opCells_length, List.length_take]; omega), List.nil_append]
  · rw [List.drop_eq_nil_of_le (by rw [List.length_append, opCells_length, opCells_length, List.length_take, List.length_drop]; omega), List.drop_eq_nil_of_le (by omega : l.length ≤ m)]; rfl
theorem opCells_take (l : List TOp) (m : Nat) : (opCells l).take (m * 4) = opCells (l.take m) := by
  conv => lhs; rw [← List.take_append_drop m l, opCells_append]
  by_cases h : m ≤ l.length
  · rw [List.take_append_of_le_length (by rw [opCells_length, List.length_take]; omega), List.take_of_length_le (by rw [opCells_length, List.length_take]; omega)]
  · rw [List.take_of_length_le (by rw [List.length_append, opCells_length, opCells_length, List.length_take, List.length_drop]; omega), List.drop_eq_nil_of_le (by omega : l.length ≤ m), ← opCells_append, List.append_nil]
theorem opCells_one (l : List TOp) : ∀ u ∈ opCells l, u.oneCell' = true := by
  intro u hu
  unfold opCells at hu
  obtain ⟨r, hr, hu⟩ := List.mem_flatten.1 hu
  obtain ⟨x, _, rfl⟩ := List.mem_map.1 hr
  rcases List.mem_cons.1 hu with rfl | hu
  · rfl
  rcases List.mem_cons.1 hu with rfl | hu
  · rfl
  rcases List.mem_cons.1 hu with rfl | hu
  · rfl
  · rw [List.mem_singleton.1 hu]; rfl
theorem TsSeen.cells {w : World} {A : Option Addr} {l : List TOp} (h : TsSeen w A l) (F : Nat → Prop) (hF : ∀ b, ¬ F b) : Cells w F A (opCells l) := by
  rcases h with rfl | ⟨b, off, rfl, hlt, hc⟩
  · exact .inl rfl
  · refine .inr ⟨b, off, rfl, hlt, hF b, fun j hj0 => ?_⟩
    have hj := hj0
    rw [opCells_length] at hj
    have hq : j / 4 < l.length := by omega
    have h1 := (hc (j / 4) hq).1 (j % 4) (by omega)
    have e : j / 4 * 4 + j % 4 = j := by omega
    rw [Nat.add_assoc, e] at h1
    have h2 := flat_at (l.map tcells) (j / 4) (j % 4) (by simpa using hq) (m := 4) (fun r hr => by obtain ⟨x, _, rfl⟩ := List.mem_map.1 hr; rfl) (by simp [tcells]; omega)
    rw [e] at h2
    rw [h1, ← List.getElem?_eq_getElem hj0]
    refine Eq.trans ?_ h2.symm
    simp
theorem TsSeen.of_cells {w : World} {F : Nat → Prop} {A : Option Addr} {l : List TOp} (h : Cells w F A (opCells l)) (hk : ∀ o ∈ l, TOk w o) : TsSeen w A l := by
  rcases h with h | ⟨b, off, rfl, hlt, _, hc⟩
  · left
    have := opCells_length l
    rw [h] at this
    exact List.eq_nil_of_length_eq_zero (by simp at this; omega)
  · refine .inr ⟨b, off, rfl, hlt, fun j hj => ⟨fun i hi => ?_, hk _ (List.getElem_mem hj)⟩⟩
    have hlt2 : j * 4 + i < (opCells l).length := by rw [opCells_length]; omega
    rw [Nat.add_assoc, hc _ hlt2, ← List.getElem?_eq_getElem hlt2]
    have h2 := flat_at (l.map tcells) j i (by simpa using hj) (m := 4) (fun r hr => by obtain ⟨x, _, rfl⟩ := List.mem_map.1 hr; rfl) (by simp [tcells]; omega)
    refine Eq.trans h2 ?_
    simp
theorem TsSeen.ok {w : World} {A : Option Addr} {l : List TOp} (h : TsSeen w A l) : ∀ o ∈ l, TOk w o := by
  rcases h with rfl | ⟨b, off, rfl, hlt, hc⟩
  · intro o ho; cases ho
  · intro o ho
    obtain ⟨j, hj, rfl⟩ := List.mem_iff_getElem.1 ho
    exact (hc j hj).2
theorem TOk.below {w w' : World} {o : TOp} (h : TOk w o) (hb : Below w.heap.size w w') : TOk w' o := ⟨h.1, ⟨h.2.1.1.below hb, h.2.1.2⟩, h.2.2.1.below hb, h.2.2.2⟩
theorem fewB_turn {l : List TOp} (h : fewB l = true) (k : Nat) : fewB (l.drop k ++ l.take k) = true := by
  have := of_decide_eq_true h
  refine decide_eq_true ⟨?_, fun o ho => this.2 o ?_⟩
  · have h1 := this.1; rw [List.length_append, List.length_drop, List.length_take]; omega
  · rcases List.mem_append.1 ho with ho | ho
    · exact List.mem_of_mem_drop ho
    · exact List.mem_of_mem_take ho
/-- 'append(v, x...)', of cells that are there, as a step of a statement whose order is drawn -/
theorem step_append_cells {P : Program} {t e : TypeId} {s b : Nat} {i : TypeInfo} {z : Value} (R : RowTy P t e s b i z) {w : World} {ops : Array Oper} {o : Oper} {a : Act} {K : Act → World → Prop} {Q : Exit → Act → World → Prop} {E : Prop} (hgd : o.guard = none) (sx x : Operand)
    (ho : o.op = .call { callee := .builtin .append, args := #[sx, x], argTypes := #[t, t] }) (F : Nat → Prop) (base : Nat) (v : Value) (n : Nat) (xs : List Value) (hs : a.eval sx = v) (hown : w.ownsRow base e s v n xs)
    (A : Option Addr) (C : List Value) (m c : Nat) (hx : a.eval x = .slice A m c) (hC : C.length = m * s) (hr : Cells w F A C) (h1 : ∀ u ∈ C, u.oneCell' = true) (hb : (n + m) * b ≤ 140737488355328) (hm : n + m ≤ 1000000) (hbase : base ≤ w.heap.size)
    (h : ∀ v' w', w'.ownsRow base e s v' (n + m) (xs ++ C) → w.grownBy w' v.ownBlock → K (a.put o.dst v') w') :
    if Region.wanted o (yielded ops a.tmps) = true then Oper.wp P o a w K Q else E := by
  have hw : Region.wanted o (yielded ops a.tmps) = true := by simp [Region.wanted, hgd]
  rw [if_pos hw]
  obtain ⟨v', w', hrun, h2, h3⟩ := run_append_cells R o.type w F base v n xs hown A C m c hC hr h1 hb hm hbase
  unfold Oper.wp execOp
  simp only [ho, resolve, invoke, builtin, Sem.run_bind, Sem.run_pure, Result.andThen_ok, List.map_toArray, List.map_cons, List.map_nil, hs, hx, hrun]
  exact h v' w' h2 h3
end Go.Proofs.Ytaeocbgmoijedaa
