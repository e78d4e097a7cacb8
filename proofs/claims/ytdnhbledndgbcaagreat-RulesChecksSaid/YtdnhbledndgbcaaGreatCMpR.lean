/-
  Maps whose keys are the program's nodes (a type's name and a relation's), as lists of keys and what they have: looked up, put, gone through in whatever order. Condition: the map is there.
  Maps keyed by the program's nodes, gone through in whatever order: what is still to come. Condition: the map is there, or nil, and nothing is put into it.
-/
import Derived.Test.YtdnhbledndgbcaaGreatCNmRefN
import Derived.Maps.RangeWalk
namespace Go.Proofs.YtdnhbledndgbcaaGreat
open Go.RowKit
open Go.ChangeMaps (setBlock)
abbrev Nk := Txt × Txt
def nkV (x : Nk) : Value := .agg #[strV x.1, strV x.2]
theorem node_eq (w : World) (x y : Nk) : (Op.equal 97 (nkV x) (nkV y)).run Tryz.prog w = .ok (decide (x = y)) w := by
  obtain ⟨a, b⟩ := x
  obtain ⟨c, d⟩ := y
  unfold Op.equal Op.maxDepth nkV
  simp [go_sem]
  by_cases h1 : a = c
  · by_cases h2 : b = d <;> simp [h1, h2]
  · simp [h1]
theorem text_check (w : World) (em : Bool) (n : Nat) (a : Txt) : (Instr.checkKey em (n + 1) 9 (strV a)).run Tryz.prog w = .ok () w := by
  rw [Instr.checkKey]
  simp [go_sem]
theorem node_check (w : World) (em : Bool) (x : Nk) : (Instr.checkKey em 10000 97 (nkV x)).run Tryz.prog w = .ok () w := by
  obtain ⟨a, b⟩ := x
  show (Instr.checkKey em (9998 + 1 + 1) 97 (.agg #[strV a, strV b])).run Tryz.prog w = .ok () w
  have h1 := text_check w em 9998 a
  have h2 := text_check w em 9998 b
  generalize 9998 + 1 = n at *
  rw [Instr.checkKey]
  simp [go_sem, h1, h2]
theorem node_stays (w : World) (x : Nk) : (Instr.keyThatStays (nkV x) (nkV x)).run Tryz.prog w = .ok (nkV x) w := by
  have h : ∀ a : Txt, ((⟨a.toArray⟩ : ByteArray) == ⟨a.toArray⟩) = true := fun a => by rw [beq_toListBytes]; exact BEq.rfl
  unfold nkV
  simp [Instr.keyThatStays, Instr.sameBits, h]
section
variable {α : Type}
def findAt : List (Nk × α) → Nk → Nat → Option (Nat × α)
  | [], _, _ => none
  | p :: r, x, i => if x = p.1 then some (i, p.2) else findAt r x (i + 1)
def lookK (L : List (Nk × α)) (x : Nk) : Option α := (findAt L x 0).map (·.2)
def putK (L : List (Nk × α)) (x : Nk) (v : α) : List (Nk × α) := match findAt L x 0 with | some (i, _) => L.set i (x, v) | none => L ++ [(x, v)]
theorem findAt_some : ∀ {L : List (Nk × α)} {x : Nk} {i j : Nat} {v : α}, findAt L x i = some (j, v) → i ≤ j ∧ L[j - i]? = some (x, v)
  | [], _, _, _, _, h => by cases h
  | p :: r, x, i, j, v, h => by
    rw [findAt] at h
    by_cases hp : x = p.1
    · rw [if_pos hp] at h
      injection h with h
      injection h with h1 h2
      subst h1 h2 hp
      exact ⟨Nat.le_refl _, by simp⟩
    · rw [if_neg hp] at h
      obtain ⟨h1, h2⟩ := findAt_some h
      refine ⟨by omega, ?_⟩
      rw [show j - i = (j - (i + 1)) + 1 from by omega]
      simpa using h2
theorem findAt_none : ∀ {L : List (Nk × α)} {x : Nk} {i : Nat}, findAt L x i = none → x ∉ L.map (·.1)
  | [], _, _, _ => by simp
  | p :: r, x, i, h => by
    rw [findAt] at h
    by_cases hp : x = p.1
    · rw [if_pos hp] at h; cases h
    · rw [if_neg hp] at h
      have := findAt_none h
      simp only [List.map_cons, List.mem_cons, not_or]
      exact ⟨hp, this⟩
theorem findAt_mem : ∀ {L : List (Nk × α)} {x : Nk} {v : α} (i : Nat), (L.map (·.1)).Nodup → (x, v) ∈ L → ∃ j, findAt L x i = some (j, v)
  | [], _, _, _, _, h => by cases h
  | p :: r, x, v, i, hn, h => by
    rw [findAt]
    have hn' := List.nodup_cons.1 hn
    by_cases hp : x = p.1
    · rw [if_pos hp]
      rcases List.mem_cons.1 h with rfl | h
      · exact ⟨i, rfl⟩
      · exact absurd (List.mem_map_of_mem (f := (·.1)) h) (by show ¬ x ∈ _; rw [hp]; exact hn'.1)
    · rw [if_neg hp]
      rcases List.mem_cons.1 h with rfl | h
      · exact absurd rfl hp
      · exact findAt_mem (i + 1) hn'.2 h
theorem lookK_mem {L : List (Nk × α)} {x : Nk} {v : α} (hn : (L.map (·.1)).Nodup) : lookK L x = some v ↔ (x, v) ∈ L := by
  unfold lookK
  constructor
  · intro h
    cases hf : findAt L x 0 with
    | none => rw [hf] at h; cases h
    | some q =>
      obtain ⟨j, u⟩ := q
      rw [hf] at h
      injection h with h
      dsimp only at h
      subst h
      exact List.mem_of_getElem? (findAt_some hf).2
  · intro h
    obtain ⟨j, hj⟩ := findAt_mem 0 hn h
    rw [hj]; rfl
theorem lookK_none {L : List (Nk × α)} {x : Nk} : lookK L x = none ↔ x ∉ L.map (·.1) := by
  unfold lookK
  constructor
  · intro h
    cases hf : findAt L x 0 with
    | none => exact findAt_none hf
    | some q => rw [hf] at h; cases h
  · intro h
    cases hf : findAt L x 0 with
    | none => rfl
    | some q => exact absurd (List.mem_map_of_mem (f := (·.1)) (List.mem_of_getElem? (findAt_some (j := q.1) (v := q.2) hf).2)) h
theorem putK_keys (L : List (Nk × α)) (x : Nk) (v : α) : (putK L x v).map (·.1) = if x ∈ L.map (·.1) then L.map (·.1) else L.map (·.1) ++ [x] := by
  unfold putK
  cases hf : findAt L x 0 with
  | none =>
    rw [if_neg (findAt_none hf)]
    simp
  | some q =>
    obtain ⟨j, u⟩ := q
    have h := (findAt_some hf).2
    rw [if_pos (List.mem_map_of_mem (f := (·.1)) (List.mem_of_getElem? h))]
    dsimp only
    rw [List.map_set]
    refine List.ext_getElem? (fun i => ?_)
    rw [List.getElem?_set]
    split
    · rename_i e
      subst e
      have hj : j < L.length := (List.getElem?_eq_some_iff.1 h).1
      rw [if_pos (by simpa using hj), List.getElem?_map]
      rw [Nat.sub_zero] at h
      rw [h]; rfl
    · rfl
theorem putK_nodup {L : List (Nk × α)} (hn : (L.map (·.1)).Nodup) (x : Nk) (v : α) : ((putK L x v).map (·.1)).Nodup := by
  rw [putK_keys]
  split
  · exact hn
  · rename_i h
    rw [List.nodup_append]
    exact ⟨hn, by simp, fun a ha b hb => by simp only [List.mem_singleton] at hb; subst hb; exact fun e => h (e ▸ ha)⟩
theorem putK_mem {L : List (Nk × α)} (hn : (L.map (·.1)).Nodup) {x : Nk} {v : α} (p : Nk × α) : p ∈ putK L x v ↔ p = (x, v) ∨ (p ∈ L ∧ p.1 ≠ x) := by
  unfold putK
  cases hf : findAt L x 0 with
  | none =>
    have h := findAt_none hf
    simp only [List.mem_append, List.mem_singleton]
    constructor
    · rintro (h1 | h1)
      · exact .inr ⟨h1, fun e => h (e ▸ List.mem_map_of_mem (f := (·.1)) h1)⟩
      · exact .inl h1
    · rintro (h1 | h1)
      · exact .inr h1
      · exact .inl h1.1
  | some q =>
    obtain ⟨j, u⟩ := q
    have h := (findAt_some hf).2
    rw [Nat.sub_zero] at h
    have hj : j < L.length := (List.getElem?_eq_some_iff.1 h).1
    have hjj : L[j] = (x, u) := (List.getElem?_eq_some_iff.1 h).2
    dsimp only
    constructor
    · intro hp
      obtain ⟨i, hi, e⟩ := List.getElem_of_mem hp
      rw [List.getElem_set] at e
      split at e
      · exact .inl e.symm
      · rename_i hne
        have hi' : i < L.length := by simpa using hi
        refine .inr ⟨e ▸ List.getElem_mem hi', fun ex => hne ?_⟩
        have h1 : (L.map (·.1))[i]'(by simpa using hi') = (L.map (·.1))[j]'(by simpa using hj) := by
          rw [List.getElem_map, List.getElem_map, e, ex, hjj]
        have hpw := List.pairwise_iff_getElem.1 hn
        rcases Nat.lt_trichotomy i j with h3 | h3 | h3
        · exact absurd h1 (hpw i j (by simpa using hi') (by simpa using hj) h3)
        · exact h3.symm
        · exact absurd h1.symm (hpw j i (by simpa using hj) (by simpa using hi') h3)
    · rintro (rfl | ⟨h1, h2⟩)
      · exact List.mem_iff_getElem.2 ⟨j, by simpa using hj, by simp⟩
      · obtain ⟨i, hi, e⟩ := List.getElem_of_mem h1
        refine List.mem_iff_getElem.2 ⟨i, by simpa using hi, ?_⟩
        rw [List.getElem_set, if_neg (fun e2 => h2 ?_)]
        · exact e
        · subst e2; rw [← e, hjj]
theorem lookK_put {L : List (Nk × α)} (hn : (L.map (·.1)).Nodup) (x : Nk) (v : α) (y : Nk) : lookK (putK L x v) y = if y = x then some v else lookK L y := by
  have hn2 := putK_nodup hn x v
  split
  · rename_i e
    subst e
    exact (lookK_mem hn2).2 ((putK_mem hn _).2 (.inl rfl))
  · rename_i e
    cases hl : lookK L y with
    | none =>
      rw [lookK_none] at hl ⊢
      rw [putK_keys]
      split
      · exact hl
      · simp only [List.mem_append, List.mem_singleton, not_or]
        exact ⟨hl, e⟩
    | some u => exact (lookK_mem hn2).2 ((putK_mem hn _).2 (.inr ⟨(lookK_mem hn).1 hl, e⟩))
theorem findAt_map {β : Type} (f : α → β) : ∀ (L : List (Nk × α)) (x : Nk) (i : Nat), findAt (L.map (fun p => (p.1, f p.2))) x i = (findAt L x i).map (fun q => (q.1, f q.2))
  | [], _, _ => rfl
  | p :: r, x, i => by
    rw [List.map_cons, findAt, findAt]
    by_cases h : x = p.1
    · rw [if_pos h, if_pos h]; rfl
    · rw [if_neg h, if_neg h]; exact findAt_map f r x (i + 1)
theorem lookK_map {β : Type} (f : α → β) (L : List (Nk × α)) (x : Nk) : lookK (L.map (fun p => (p.1, f p.2))) x = (lookK L x).map f := by
  unfold lookK
  rw [findAt_map]
  cases findAt L x 0 <;> rfl
theorem putK_map {β : Type} (f : α → β) (L : List (Nk × α)) (x : Nk) (v : α) : putK (L.map (fun p => (p.1, f p.2))) x (f v) = (putK L x v).map (fun p => (p.1, f p.2)) := by
  unfold putK
  rw [findAt_map]
  cases findAt L x 0 with
  | none => simp
  | some q => simp [List.map_set]
theorem keys_map {β : Type} (f : α → β) (L : List (Nk × α)) : (L.map (fun p => (p.1, f p.2))).map (·.1) = L.map (·.1) := by
  rw [List.map_map]; rfl
end
def kv (e : MapEntry) : Value × Value := (e.key, e.val)
def pv (p : Nk × Value) : Value × Value := (nkV p.1, p.2)
structure EsOk (es : Array MapEntry) (clock : Nat) (L : List (Nk × Value)) : Prop where
  same : es.toList.map kv = L.map pv
  born : (es.toList.map (·.born)).Nodup
  old : ∀ e ∈ es.toList, e.born < clock
  keys : (L.map (·.1)).Nodup
def MapAt (w : World) (b : Nat) (L : List (Nk × Value)) : Prop := ∃ es clock, w.heap[b]? = some (.map es clock) ∧ EsOk es clock L
theorem MapAt.lt {w : World} {b : Nat} {L : List (Nk × Value)} (h : MapAt w b L) : b < w.heap.size := by
  obtain ⟨es, clock, hb, _⟩ := h
  exact (Array.getElem?_eq_some_iff.1 hb).1
theorem MapAt.keys {w : World} {b : Nat} {L : List (Nk × Value)} (h : MapAt w b L) : (L.map (·.1)).Nodup := by
  obtain ⟨es, clock, _, h⟩ := h
  exact h.keys
theorem MapAt.spared {w w' : World} {F : Nat → Prop} {b : Nat} {L : List (Nk × Value)} (h : MapAt w b L) (hs : Spared w w' F) (hF : ¬ F b) : MapAt w' b L := by
  have hlt := h.lt
  obtain ⟨es, clock, hb, h⟩ := h
  exact ⟨es, clock, (hs.block b hlt hF).trans hb, h⟩
theorem MapAt.below {w w' : World} {b : Nat} {L : List (Nk × Value)} (h : MapAt w b L) (hs : Below w.heap.size w w') : MapAt w' b L := h.spared (Spared.of_below hs (fun _ => False)) (fun h => h)
theorem MapAt.drew {w : World} {b : Nat} {L : List (Nk × Value)} (h : MapAt w b L) : MapAt w.drew b L := h
theorem MapAt.made (w : World) : MapAt (w.alloc (.map #[] 0)) w.heap.size [] :=
  ⟨#[], 0, (MapKept.heap_alloc w _).1, ⟨rfl, by simp, by simp, by simp⟩⟩
theorem kv_cons {es : List MapEntry} {L : List (Nk × Value)} (h : es.map kv = L.map pv) : (es = [] ∧ L = []) ∨ ∃ e r p l, es = e :: r ∧ L = p :: l ∧ e.key = nkV p.1 ∧ e.val = p.2 ∧ r.map kv = l.map pv := by
  cases es with
  | nil => cases L with
    | nil => exact .inl ⟨rfl, rfl⟩
    | cons p l => simp at h
  | cons e r => cases L with
    | nil => simp at h
    | cons p l =>
      simp only [List.map_cons, List.cons.injEq] at h
      obtain ⟨h1, h2⟩ := h
      unfold kv pv at h1
      injection h1 with h3 h4
      exact .inr ⟨e, r, p, l, rfl, rfl, h3, h4, h2⟩
set_option maxRecDepth 100000 in
theorem run_asking (w : World) (x : Nk) : ∀ (es : List MapEntry) (L : List (Nk × Value)) (i : Nat), es.map kv = L.map pv → (Instr.findAsking 97 (nkV x) es i).run Tryz.prog w = .ok (findAt L x i) w := by
  intro es
  induction es with
  | nil =>
    intro L i h
    rcases kv_cons h with ⟨_, rfl⟩ | ⟨e, r, p, l, h, _⟩
    · rfl
    · cases h
  | cons e r ih =>
    intro L i h
    rcases kv_cons h with ⟨h, _⟩ | ⟨e', r', p, l, he, rfl, h1, h2, h3⟩
    · cases h
    · obtain ⟨rfl, rfl⟩ : e = e' ∧ r = r' := by injection he with he hr; exact ⟨he, hr⟩
      have hq := node_eq w x p.1
      have hi := ih l (i + 1) h3
      unfold Instr.findAsking findAt
      simp only [Sem.run_bind, h1, h2, hq, Result.andThen_ok]
      by_cases hx : x = p.1
      · rw [if_pos hx, decide_eq_true hx, if_pos rfl]; rfl
      · rw [if_neg hx, decide_eq_false hx, if_neg (by decide)]
        exact hi
theorem run_find (w : World) (x : Nk) (es : List MapEntry) (L : List (Nk × Value)) (h : es.map kv = L.map pv) : (Instr.findKey 97 (nkV x) es).run Tryz.prog w = .ok (findAt L x 0) w := by
  obtain ⟨d, hd, hf⟩ : ∃ d, Tryz.prog.underlying 97 = some d ∧ ∀ (v : Value) (es : List MapEntry), es ≠ [] → Instr.findNow d v es 0 = none := by
    refine ⟨_, Tryz.underlying97, fun v es hne => ?_⟩
    cases es with
    | nil => exact absurd rfl hne
    | cons e r => rfl
  unfold Instr.findKey
  rw [Sem.run_bind, run_underlying hd, Result.andThen_ok]
  cases es with
  | nil =>
    rcases kv_cons h with ⟨_, rfl⟩ | ⟨e, r, p, l, h, _⟩
    · rfl
    · cases h
  | cons e r =>
    rw [hf _ _ (by simp)]
    exact run_asking w x _ L 0 h
theorem run_look {w : World} {b : Nat} {L : List (Nk × Value)} (h : MapAt w b L) {t e : TypeId} (ht : Tryz.prog.underlying t = some (.map 97 e)) {z : Value} (hz : (zeroValue e).run Tryz.prog w = .ok z w) (x : Nk) (c : Bool) :
    (Instr.lookup t (.map (some b)) (nkV x) c).run Tryz.prog w = .ok (if c then .tuple #[(lookK L x).getD z, .bool (lookK L x).isSome] else (lookK L x).getD z) w := by
  obtain ⟨es, clock, hb, hE⟩ := h
  have hf := run_find w x es.toList L hE.same
  have hc := node_check w es.isEmpty x
  unfold Instr.lookup lookK
  simp only [Sem.run_bind, run_underlying ht, Result.andThen_ok, MapKept.run_getObj_map hb, Sem.run_pure, hc, hf]
  cases hq : findAt L x 0 with
  | none => simp [hz]
  | some q => simp
theorem run_put {w : World} {b : Nat} {L : List (Nk × Value)} (h : MapAt w b L) {t e : TypeId} (ht : Tryz.prog.underlying t = some (.map 97 e)) (x : Nk) (v : Value) :
    ∃ w', (Instr.mapUpdate t (.map (some b)) (nkV x) v).run Tryz.prog w = .ok () w' ∧ MapAt w' b (putK L x v) ∧ w.grownBy w' (some b) ∧ w'.heap.size = w.heap.size := by
  have hkeys := putK_nodup h.keys x v
  obtain ⟨es, clock, hb, hE⟩ := h
  have hf := run_find w x es.toList L hE.same
  have hc := node_check w false x
  have hs := node_stays w x
  have hlt : b < w.heap.size := (Array.getElem?_eq_some_iff.1 hb).1
  have hgrow : ∀ o : Obj, w.grownBy { w with heap := w.heap.setIfInBounds b o } (some b) := fun o => ⟨rfl, rfl, rfl, by simp, fun i _ hi => by
    show (w.heap.setIfInBounds b o)[i]? = _
    rw [Array.getElem?_setIfInBounds, if_neg (fun e => hi (by rw [e]))]⟩
  have hat : ∀ o : Obj, (w.heap.setIfInBounds b o)[b]? = some o := fun o => by rw [Array.getElem?_setIfInBounds, if_pos rfl, if_pos hlt]
  cases hq : findAt L x 0 with
  | none =>
    refine ⟨{ w with heap := w.heap.setIfInBounds b (.map (es.push ⟨nkV x, v, clock⟩) (clock + 1)) }, ?_, ⟨es.push ⟨nkV x, v, clock⟩, clock + 1, hat _, ?_⟩, hgrow _, by simp⟩
    · unfold Instr.mapUpdate
      simp only [Sem.run_bind, run_underlying ht, Result.andThen_ok, MapKept.run_getObj_map hb, hc, hf, hq, MapKept.run_setObj_map _ hb]
    · have hp : putK L x v = L ++ [(x, v)] := by unfold putK; rw [hq]
      rw [hp] at hkeys ⊢
      refine ⟨?_, ?_, ?_, hkeys⟩
      · rw [Array.toList_push, List.map_append, List.map_append, hE.same]; rfl
      · rw [Array.toList_push, List.map_append, List.nodup_append]
        refine ⟨hE.born, by simp, fun a ha c hc => ?_⟩
        simp only [List.map_cons, List.map_nil, List.mem_singleton] at hc
        subst hc
        obtain ⟨e, he, rfl⟩ := List.mem_map.1 ha
        exact Nat.ne_of_lt (hE.old e he)
      · intro e he
        rw [Array.toList_push, List.mem_append, List.mem_singleton] at he
        rcases he with he | rfl
        · exact Nat.lt_succ_of_lt (hE.old e he)
        · exact Nat.lt_succ_self _
  | some q =>
    obtain ⟨j, u⟩ := q
    have hj := (findAt_some hq).2
    rw [Nat.sub_zero] at hj
    have hlen : es.toList.length = L.length := by have := congrArg List.length hE.same; simpa using this
    have hjl : j < L.length := (List.getElem?_eq_some_iff.1 hj).1
    have hje : j < es.size := by rw [← Array.length_toList]; omega
    have hLj : L[j] = (x, u) := (List.getElem?_eq_some_iff.1 hj).2
    have hkey : es[j].key = nkV x := by
      have h1 : (es.toList.map kv)[j]'(by simpa using hje) = (L.map pv)[j]'(by simpa using hjl) := by simp only [hE.same]
      rw [List.getElem_map, List.getElem_map, hLj] at h1
      injection h1
    have hget : ((es[j]?).map (·.key)).getD (nkV x) = nkV x := by rw [Array.getElem?_eq_getElem hje]; exact hkey
    have hlist : (es.modify j (fun e => { e with key := nkV x, val := v })).toList = es.toList.set j { es[j] with key := nkV x, val := v } := by
      rw [Array.toList_modify]
      refine List.ext_getElem? (fun i => ?_)
      rw [List.getElem?_modify, List.getElem?_set]
      split
      · rename_i e
        subst e
        rw [if_pos (by simpa using hje)]
        simp [hje]
      · simp
    refine ⟨{ w with heap := w.heap.setIfInBounds b (.map (es.modify j fun e => { e with key := nkV x, val := v }) clock) }, ?_, ⟨_, clock, hat _, ?_⟩, hgrow _, by simp⟩
    · unfold Instr.mapUpdate
      simp only [Sem.run_bind, run_underlying ht, Result.andThen_ok, MapKept.run_getObj_map hb, hc, hf, hq, hget, hs, MapKept.run_setObj_map _ hb]
    · have hp : putK L x v = L.set j (x, v) := by unfold putK; rw [hq]
      rw [hp] at hkeys ⊢
      have hborn : (es.toList.set j { es[j] with key := nkV x, val := v }).map (·.born) = es.toList.map (·.born) := by
        rw [List.map_set]
        refine List.ext_getElem? (fun i => ?_)
        rw [List.getElem?_set]
        split
        · rename_i e
          subst e
          rw [if_pos (by simpa using hje)]
          simp [hje]
        · rfl
      refine ⟨?_, ?_, ?_, hkeys⟩
      · rw [hlist, List.map_set, List.map_set, hE.same]; rfl
      · rw [hlist, hborn]; exact hE.born
      · intro e he
        rw [hlist] at he
        have hm : e.born ∈ (es.toList.set j { es[j] with key := nkV x, val := v }).map (·.born) := List.mem_map_of_mem he
        rw [hborn] at hm
        obtain ⟨e', he', h1⟩ := List.mem_map.1 hm
        rw [← h1]
        exact hE.old e' he'
theorem wpList_put (w : World) {ops : Array Oper} {rest : List Oper} {o : Oper} {a : Act} {Q : Exit → Act → World → Prop} (hg : o.guard = none) (m x v : Operand) (t e : TypeId) (hop : o.op = Op.mapUpdate t m x v)
    (ht : Tryz.prog.underlying t = some (.map 97 e)) (b : Nat) (L : List (Nk × Value)) (hm : a.eval m = .map (some b)) (h : MapAt w b L) (key : Nk) (val : Value) (hx : a.eval x = nkV key) (hv : a.eval v = val)
    (hK : ∀ w', MapAt w' b (putK L key val) → w.grownBy w' (some b) → w'.heap.size = w.heap.size → wpList Tryz.prog ops Q rest (a.put o.dst undef) w') :
    wpList Tryz.prog ops Q (o :: rest) a w := by
  refine wpList_plain hg fun K' hK' => ?_
  obtain ⟨w', hrun, h1, h2, h3⟩ := run_put h ht key val
  unfold Oper.wp
  simp [execOp, hop, hm, hx, hv, hrun, Result.andThen]
  exact hK' _ _ (hK w' h1 h2 h3)
end Go.Proofs.YtdnhbledndgbcaaGreat
namespace Go.Proofs.YtdnhbledndgbcaaGreat
open Go.RowKit
def RangeAt (w : World) (r : Nat) : Option Nat → List (Nk × Value) → List (Nk × Value) → Prop
  | none, L, todo => L = [] ∧ todo = [] ∧ ∃ s seen c, w.heap[r]? = some (.mapIter none s seen c)
  | some b, L, todo => ∃ es clock since seen c0, w.heap[b]? = some (.map es clock) ∧ EsOk es clock L ∧ w.heap[r]? = some (.mapIter (some b) since seen c0) ∧ (∀ e ∈ es.toList, e.born < since) ∧ (since ≤ c0 ∧ since ≤ clock) ∧ (leftOf es seen).toList.map kv = todo.map pv
def MapV (w : World) : Option Nat → List (Nk × Value) → Prop
  | none, L => L = []
  | some b, L => MapAt w b L
def rangeN (w : World) (r : Nat) : Option Nat → Nat
  | none => 0
  | some b => w.rangeLeft b r
theorem RangeAt.map {w : World} {r : Nat} {m : Option Nat} {L todo : List (Nk × Value)} (h : RangeAt w r m L todo) : MapV w m L := by
  cases m with
  | none => exact h.1
  | some b =>
    obtain ⟨es, clock, since, seen, c0, hb, hE, _⟩ := h
    exact ⟨es, clock, hb, hE⟩
theorem RangeAt.left {w : World} {r : Nat} {m : Option Nat} {L todo : List (Nk × Value)} (h : RangeAt w r m L todo) : rangeN w r m = todo.length := by
  cases m with
  | none => rw [h.2.1]; rfl
  | some b =>
    obtain ⟨es, clock, since, seen, c0, hb, hE, hr, _, _, hl⟩ := h
    have := congrArg List.length hl
    simp only [List.length_map, Array.length_toList] at this
    simp only [rangeN, World.rangeLeft, hb, hr]
    exact this
theorem RangeAt.lt {w : World} {r : Nat} {m : Option Nat} {L todo : List (Nk × Value)} (h : RangeAt w r m L todo) : r < w.heap.size := by
  cases m with
  | none =>
    obtain ⟨_, _, s, seen, c, hr⟩ := h
    exact (Array.getElem?_eq_some_iff.1 hr).1
  | some b =>
    obtain ⟨es, clock, since, seen, c0, hb, hE, hr, _⟩ := h
    exact (Array.getElem?_eq_some_iff.1 hr).1
theorem RangeAt.spared {w w' : World} {F : Nat → Prop} {r : Nat} {m : Option Nat} {L todo : List (Nk × Value)} (h : RangeAt w r m L todo) (hs : Spared w w' F) (hr : ¬ F r) (hm : ∀ b, m = some b → ¬ F b) : RangeAt w' r m L todo := by
  have hlt := h.lt
  cases m with
  | none =>
    obtain ⟨h1, h2, s, seen, c, h3⟩ := h
    exact ⟨h1, h2, s, seen, c, (hs.block r hlt hr).trans h3⟩
  | some b =>
    have hlb := (RangeAt.map h : MapAt w b L).lt
    obtain ⟨es, clock, since, seen, c0, hb, hE, h3, h4⟩ := h
    exact ⟨es, clock, since, seen, c0, (hs.block b hlb (hm b rfl)).trans hb, hE, (hs.block r hlt hr).trans h3, h4⟩
theorem RangeAt.below {w w' : World} {r : Nat} {m : Option Nat} {L todo : List (Nk × Value)} (h : RangeAt w r m L todo) (hb : Below w.heap.size w w') : RangeAt w' r m L todo :=
  h.spared (Spared.of_below hb (fun _ => False)) (fun h => h) (fun _ _ h => h)
theorem run_range {w : World} {m : Option Nat} {L : List (Nk × Value)} (h : MapV w m L) {t e : TypeId} (ht : Tryz.prog.underlying t = some (.map 97 e)) :
    ∃ w', (Instr.range t (.map m)).run Tryz.prog w = .ok (.pointer (some ⟨w.heap.size, 0, none⟩)) w' ∧ RangeAt w' w.heap.size m L L ∧ Below w.heap.size w w' ∧ w'.heap.size = w.heap.size + 1 := by
  cases m with
  | none =>
    refine ⟨_, run_range_nilMap w t _ e ht, ⟨h, h, 0, #[], 0, (MapKept.heap_alloc w _).1⟩, (Below.refl _ _).alloc (Nat.le_refl _) _, by simp⟩
  | some b =>
    have hlt := (h : MapAt w b L).lt
    obtain ⟨es, clock, hb, hE⟩ := h
    refine ⟨_, run_range_map w t _ e b es clock ht hb, ⟨es, clock, clock, #[], clock, ((MapKept.heap_alloc w _).2 b hlt).trans hb, hE, (MapKept.heap_alloc w _).1, hE.old, ⟨Nat.le_refl _, Nat.le_refl _⟩, ?_⟩, (Below.refl _ _).alloc (Nat.le_refl _) _, by simp⟩
    rw [show leftOf es #[] = es from by unfold leftOf; simp, hE.same]
theorem nkV_inj {x y : Nk} (h : nkV x = nkV y) : x = y := by
  obtain ⟨a, b⟩ := x
  obtain ⟨c, d⟩ := y
  unfold nkV at h
  simp only [Value.agg.injEq, Array.mk.injEq, List.cons.injEq, Value.string.injEq, ByteArray.mk.injEq, and_true] at h
  obtain ⟨h1, h2⟩ := h
  rw [h1, h2]
theorem pv_inj {p q : Nk × Value} (h : pv p = pv q) : p = q := by
  unfold pv at h
  injection h with h1 h2
  exact Prod.ext (nkV_inj h1) h2
theorem kv_filter (q : MapEntry → Bool) : ∀ (l : List MapEntry) (todo : List (Nk × Value)), l.map kv = todo.map pv → ∃ todo' : List (Nk × Value), (l.filter q).map kv = todo'.map pv ∧ (∀ p ∈ todo', p ∈ todo) ∧ ∀ p ∈ todo, p ∈ todo' ∨ ∃ e ∈ l, q e = false ∧ kv e = pv p := by
  intro l
  induction l with
  | nil =>
    intro todo h
    rcases kv_cons h with ⟨_, rfl⟩ | ⟨e, r, p, l, h, _⟩
    · exact ⟨[], rfl, fun _ h => h, fun _ h => .inl h⟩
    · cases h
  | cons e r ih =>
    intro todo h
    rcases kv_cons h with ⟨h, _⟩ | ⟨e', r', p, l, he, rfl, h1, h2, h3⟩
    · cases h
    · obtain ⟨rfl, rfl⟩ : e = e' ∧ r = r' := by injection he with he hr; exact ⟨he, hr⟩
      obtain ⟨t', i1, i2, i3⟩ := ih l h3
      have hkp : kv e = pv p := by unfold kv pv; rw [h1, h2]
      by_cases hq : q e = true
      · refine ⟨p :: t', ?_, fun a ha => ?_, fun a ha => ?_⟩
        · rw [List.filter_cons_of_pos hq, List.map_cons, List.map_cons, i1, hkp]
        · rcases List.mem_cons.1 ha with rfl | ha
          · exact List.mem_cons_self ..
          · exact List.mem_cons_of_mem _ (i2 a ha)
        · rcases List.mem_cons.1 ha with rfl | ha
          · exact .inl (List.mem_cons_self ..)
          · rcases i3 a ha with h | ⟨e2, he2, h⟩
            · exact .inl (List.mem_cons_of_mem _ h)
            · exact .inr ⟨e2, List.mem_cons_of_mem _ he2, h⟩
      · refine ⟨t', ?_, fun a ha => List.mem_cons_of_mem _ (i2 a ha), fun a ha => ?_⟩
        · rw [List.filter_cons_of_neg hq, i1]
        · rcases List.mem_cons.1 ha with rfl | ha
          · exact .inr ⟨e, List.mem_cons_self .., by simpa using hq, hkp⟩
          · rcases i3 a ha with h | ⟨e2, he2, h⟩
            · exact .inl h
            · exact .inr ⟨e2, List.mem_cons_of_mem _ he2, h⟩
theorem run_step {w : World} {r : Nat} {m : Option Nat} {L todo : List (Nk × Value)} (h : RangeAt w r m L todo) (ty : TypeId) :
    (todo = [] ∧ (Instr.next (.pointer (some ⟨r, 0, none⟩)) false ty).run Tryz.prog w = .ok (.tuple #[.bool false]) w) ∨
    ∃ x v todo' w1, (x, v) ∈ todo ∧ (∀ p ∈ todo, p = (x, v) ∨ p ∈ todo') ∧ (∀ p ∈ todo', p ∈ todo) ∧ todo'.length < todo.length ∧ RangeAt w1 r m L todo' ∧
      (Instr.next (.pointer (some ⟨r, 0, none⟩)) false ty).run Tryz.prog w = .ok (.tuple #[.bool true, nkV x, v]) w1 ∧ w.grownBy w1 (some r) ∧ w1.heap.size = w.heap.size ∧
      (Instr.entry (.pointer (some ⟨r, 0, none⟩))).run Tryz.prog w1 = .ok (.tuple #[nkV x, v]) w1 := by
  cases m with
  | none =>
    obtain ⟨_, h2, s, seen, c, hr⟩ := h
    exact .inl ⟨h2, by simp [Instr.next, getObj, Sem.run, hr]⟩
  | some b =>
    obtain ⟨es, clock, since, seen, c0, hb, hE, hr, hold, hsc, hl⟩ := h
    rcases run_next_at (P := Tryz.prog) w ty r b since c0 seen es clock hr hb hold hsc.1 with ⟨h0, hrun⟩ | ⟨e, he, w1, hw1, hrun⟩
    · left
      have h1 := congrArg List.length hl
      simp only [List.length_map, Array.length_toList, h0] at h1
      exact ⟨List.eq_nil_of_length_eq_zero h1.symm, hrun⟩
    · right
      have hrb : r ≠ b := fun e => by rw [e, hb] at hr; cases hr
      have hees : e ∈ es.toList := by unfold leftOf at he; simp at he ⊢; exact he.1
      have hkey : kv e ∈ todo.map pv := by rw [← hl]; exact List.mem_map_of_mem he
      obtain ⟨⟨x, v⟩, hp, hpk⟩ := List.mem_map.1 hkey
      unfold pv kv at hpk
      injection hpk with hx hv
      dsimp only at hx hv
      obtain ⟨todo', i1, i2, i3⟩ := kv_filter (fun z => z.born != e.born) _ _ hl
      have hrs : r < w.heap.size := (Array.getElem?_eq_some_iff.1 hr).1
      have hg : w.grownBy (ChangeMaps.setBlock w1 r (.mapIter (some b) since (seen.push e.born) clock)) (some r) := by
        rcases hw1 with rfl | rfl <;> exact ⟨rfl, rfl, rfl, by simp [ChangeMaps.setBlock], fun i _ hi => by
          show (Array.setIfInBounds _ r _)[i]? = _
          rw [Array.getElem?_setIfInBounds, if_neg (fun e => hi (by rw [e]))]; all_goals rfl⟩
      have hsz : (ChangeMaps.setBlock w1 r (.mapIter (some b) since (seen.push e.born) clock)).heap.size = w.heap.size := by
        rcases hw1 with rfl | rfl <;> simp [ChangeMaps.setBlock]
      have hr1 : (ChangeMaps.setBlock w1 r (.mapIter (some b) since (seen.push e.born) clock)).heap[r]? = some (.mapIter (some b) since (seen.push e.born) clock) := by
        rcases hw1 with rfl | rfl <;> · show (Array.setIfInBounds _ r _)[r]? = _; rw [Array.getElem?_setIfInBounds, if_pos rfl]; exact if_pos hrs
      have hb1 := (hg.block b (Array.getElem?_eq_some_iff.1 hb).1 (by simpa using fun e => hrb e.symm)).trans hb
      have hleft : (leftOf es (seen.push e.born)).toList = (leftOf es seen).toList.filter (fun z => z.born != e.born) := by
        unfold leftOf
        rw [Array.toList_filter, Array.toList_filter, List.filter_filter]
        refine List.filter_congr (fun z _ => ?_)
        rw [Array.contains_push]
        cases h1 : (z.born == e.born) <;> simp_all [bne]
      refine ⟨x, v, todo', _, hp, fun p hp => ?_, i2, ?_, ⟨es, clock, since, seen.push e.born, clock, hb1, hE, hr1, hold, ?_, ?_⟩, ?_, hg, hsz, ?_⟩
      · rcases i3 p hp with h1 | ⟨e2, he2, h2, h3⟩
        · exact .inr h1
        · left
          have hb2 : e2.born = e.born := by simpa using h2
          have he2' : e2 ∈ es.toList := by unfold leftOf at he2; simp at he2 ⊢; exact he2.1
          have h4 := find_born e2 es.toList hE.born he2'
          rw [hb2, find_born e es.toList hE.born hees] at h4
          injection h4 with h4
          subst h4
          exact (pv_inj (by rw [← h3]; unfold kv pv; rw [hx, hv])).symm
      · have h1 := congrArg List.length i1
        have h2 := congrArg List.length hl
        rw [List.length_map, List.length_map] at h1 h2
        have h3 : ((leftOf es seen).toList.filter (fun z => z.born != e.born)).length < (leftOf es seen).toList.length := by
          rcases Nat.lt_or_ge ((leftOf es seen).toList.filter (fun z => z.born != e.born)).length (leftOf es seen).toList.length with h | h
          · exact h
          · have h5 := List.length_filter_eq_length_iff.1 (Nat.le_antisymm (List.length_filter_le _ _) h) e he
            simp at h5
        omega
      · exact ⟨hsc.2, hsc.2⟩
      · rw [hleft]; exact i1
      · rw [hx, hv]; exact hrun
      · rw [hx, hv]
        exact run_entry_at _ r b since seen es clock e hr1 hb1 hees hE.born
theorem run_step_all {w : World} {r : Nat} {m : Option Nat} {L todo : List (Nk × Value)} (h : RangeAt w r m L todo) :
    (todo = [] ∧ ∀ ty, (Instr.next (.pointer (some ⟨r, 0, none⟩)) false ty).run Tryz.prog w = .ok (.tuple #[.bool false]) w) ∨
    ∃ x v todo' w1, (x, v) ∈ todo ∧ (∀ p ∈ todo, p = (x, v) ∨ p ∈ todo') ∧ (∀ p ∈ todo', p ∈ todo) ∧ todo'.length < todo.length ∧ RangeAt w1 r m L todo' ∧
      (∀ ty, (Instr.next (.pointer (some ⟨r, 0, none⟩)) false ty).run Tryz.prog w = .ok (.tuple #[.bool true, .agg #[strV x.1, strV x.2], v]) w1) ∧ w.grownBy w1 (some r) ∧ w1.heap.size = w.heap.size ∧
      (Instr.entry (.pointer (some ⟨r, 0, none⟩))).run Tryz.prog w1 = .ok (.tuple #[.agg #[strV x.1, strV x.2], v]) w1 := by
  rcases run_step h 0 with ⟨h1, h2⟩ | ⟨x, v, todo', w1, h1, h2, h3, h4, h5, h6, h7, h8, h9⟩
  · exact .inl ⟨h1, fun ty => h2⟩
  · exact .inr ⟨x, v, todo', w1, h1, h2, h3, h4, h5, fun ty => h6, h7, h8, h9⟩
end Go.Proofs.YtdnhbledndgbcaaGreat
