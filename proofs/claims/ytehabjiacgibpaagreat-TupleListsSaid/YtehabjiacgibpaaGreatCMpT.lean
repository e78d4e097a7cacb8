/-
  The program's Of. Conditions: the row is there; at most 200,000 tuples.
  Maps whose keys are tuples, as lists of keys and what they have: looked up, put, m[k]++. Condition: the map is there.
-/
import Derived.Test.YtehabjiacgibpaaGreatCTrConT
import Derived.Test.YtehabjiacgibpaaGreatCRowG
import Derived.Test.YtehabjiacgibpaaGreatCNmSub
import Derived.Test.YtehabjiacgibpaaGreatCFlat
import Derived.Test.YtehabjiacgibpaaGreatCTuE
import Derived.Maps.RangeWalk
import Derived.WideKeyEntry
namespace Go.Proofs.YtehabjiacgibpaaGreat
open Go.RowKit
set_option maxRecDepth 100000 in
set_option maxHeartbeats 4000000 in
theorem ofc_any (l : List Tup) (A : Option Addr) (c : Nat) (o1 o2 rel : Txt) (bl bo br : Nat) (W : World) (h : TuR W A l) (x0 : W.cell? ⟨bl, 0, none⟩ = some (.slice A l.length c)) (x1 : W.cell? ⟨bo, 0, none⟩ = some (strV o1)) (x2 : W.cell? ⟨bo, 1, none⟩ = some (strV o2)) (x3 : W.cell? ⟨br, 0, none⟩ = some (strV rel)) (j : Nat) (hj : j < l.length) (hl : l.length ≤ 1000000) :
    Calls Tryz.prog 28 #[.int .i64 j, .pointer (some ⟨bl, 0, none⟩), .pointer (some ⟨bo, 0, none⟩), .pointer (some ⟨br, 0, none⟩)] W fun e w' => e = .returned (.bool (ofB o1 o2 rel l[j])) ∧ Below W.heap.size W w' := by
  obtain ⟨b, off, hA, hat⟩ := h.addr (by omega)
  obtain ⟨q0, q1, q2, q3, q4, q5, hq, hc⟩ := hat j hj
  obtain ⟨z0, z1, z2, z3, z4, z5⟩ := hc W (Below.refl _ _)
  subst hA
  have hji : (j : Int) < (l.length : Int) := by omega
  obtain ⟨n, hn⟩ : ∃ n, n = l.length := ⟨_, rfl⟩
  rw [← hn] at x0 hji hl
  rw [hq]
  clear h hat hc hq hn
  go_enter Tryz.func28, Tryz.ntmps28
  by_cases e0 : q0 = o1
  · have g0 : (q0 == o1) = true := beq_iff_eq.2 e0
    by_cases e1 : q1 = o2
    · have g1 : (q1 == o2) = true := beq_iff_eq.2 e1
      by_cases e2 : q2 = rel
      · have g2 : (q2 == rel) = true := beq_iff_eq.2 e2
        have HV : Hid (ofB o1 o2 rel (q0, q1, q2, q3, q4, q5) = true) := Lib.hid (by unfold ofB; simp [e0, e1, e2])
        rw [HV.out]
        clear e0 e1 e2
        go_wp2_with fail
        go_quiet (fail)
        go_wp2_with fail
        go_ret
        exact ⟨rfl, below_drewN (Below.refl _ _) _⟩
      · have g2 : (q2 == rel) = false := beq_eq_false_iff_ne.2 e2
        have HV : Hid (ofB o1 o2 rel (q0, q1, q2, q3, q4, q5) = false) := Lib.hid (by unfold ofB; simp [e0, e1, e2])
        rw [HV.out]
        clear e0 e1 e2
        go_wp2_with fail
        go_quiet (fail)
        go_wp2_with fail
        go_ret
        exact ⟨rfl, below_drewN (Below.refl _ _) _⟩
    · have g1 : (q1 == o2) = false := beq_eq_false_iff_ne.2 e1
      have HV : Hid (ofB o1 o2 rel (q0, q1, q2, q3, q4, q5) = false) := Lib.hid (by unfold ofB; simp [e0, e1])
      rw [HV.out]
      clear e0 e1
      go_wp2_with fail
      go_quiet (fail)
      go_wp2_with fail
      go_ret
      exact ⟨rfl, below_drewN (Below.refl _ _) _⟩
  · have g0 : (q0 == o1) = false := beq_eq_false_iff_ne.2 e0
    have HV : Hid (ofB o1 o2 rel (q0, q1, q2, q3, q4, q5) = false) := Lib.hid (by unfold ofB; simp [e0])
    rw [HV.out]
    clear e0
    go_wp2_with fail
    go_quiet (fail)
    go_wp2_with fail
    go_ret
    exact ⟨rfl, below_drewN (Below.refl _ _) _⟩
def isAt (f : Tup → Bool) (l : List Tup) (i : Nat) : Bool := match l[i]? with | some t => f t | none => false
theorem isAt_at {f : Tup → Bool} {l : List Tup} {i : Nat} (h : i < l.length) : isAt f l i = f l[i] := by
  unfold isAt
  rw [List.getElem?_eq_getElem h]
set_option maxRecDepth 100000 in
set_option maxHeartbeats 4000000 in
theorem of_any (l : List Tup) (o1 o2 rel : Txt) (A : Option Addr) (c : Nat) (W : World) (h : TuR W A l) (hl : l.length ≤ 1000000) :
    Calls Tryz.prog 12 #[.slice A l.length c, .agg #[strV o1, strV o2], strV rel] W (TupsP W (l.filter (ofB o1 o2 rel))) := by
  obtain ⟨W1, hW⟩ : ∃ W1, W1 = ((W.alloc (.cells #[.slice A l.length c] 22)).alloc (.cells #[strV o1, strV o2] 24)).alloc (.cells #[strV rel] 9) := ⟨_, rfl⟩
  have h0 : Blk W1 W.heap.size [.slice A l.length c] 22 := by rw [hW]; exact ((Blk.new W _ _).alloc _).alloc _
  have h1 : Blk W1 (W.heap.size + 1) [strV o1, strV o2] 24 := by
    rw [hW]
    have := (Blk.new (W.alloc (.cells #[.slice A l.length c] 22)) [strV o1, strV o2] 24).alloc (.cells #[strV rel] 9)
    rw [World.size_alloc] at this
    exact this
  have h2 : Blk W1 (W.heap.size + 2) [strV rel] 9 := by
    rw [hW]
    have := Blk.new ((W.alloc (.cells #[.slice A l.length c] 22)).alloc (.cells #[strV o1, strV o2] 24)) [strV rel] 9
    rw [World.size_alloc, World.size_alloc] at this
    exact this
  have hb0 : Below W.heap.size W W1 := by rw [hW]; exact (((Below.refl _ _).alloc (Nat.le_refl _) _).alloc (by simp) _).alloc (by simp; omega) _
  have HT : Hid (Calls Tryz.prog 25 #[.slice A l.length c, .func (.func 28) #[] #[.pointer (some ⟨W.heap.size, 0, none⟩), .pointer (some ⟨W.heap.size + 1, 0, none⟩), .pointer (some ⟨W.heap.size + 2, 0, none⟩)]] W1 (TupsP W1 (l.filter (ofB o1 o2 rel)))) := Lib.hid (by
    have hr := h.below hb0
    have hh := those_any 28 #[.pointer (some ⟨W.heap.size, 0, none⟩), .pointer (some ⟨W.heap.size + 1, 0, none⟩), .pointer (some ⟨W.heap.size + 2, 0, none⟩)] (isAt (ofB o1 o2 rel) l) l A c W1 hr hl (fun t ht => h.ok ht) (enters_of Tryz.func28 (by kernel_rfl) rfl)
      (fun w hw j hj => by
        rw [isAt_at hj]
        exact ofc_any l A c o1 o2 rel W.heap.size (W.heap.size + 1) (W.heap.size + 2) w (hr.below hw) ((h0.below hw h0.lt).cell (i := 0) (by simp)) ((h1.below hw h1.lt).cell (i := 0) (by simp)) ((h1.below hw h1.lt).cell (i := 1) (by simp)) ((h2.below hw h2.lt).cell (i := 0) (by simp)) j hj hl)
    rw [pickN_all (fun i hi => isAt_at hi)] at hh
    exact hh)
  have x0 := h0.cell (i := 0) (by simp)
  simp only [List.getElem_cons_zero] at x0
  rw [hW] at x0
  have HW := Lib.hid hW
  have HB0 := Lib.hid hb0
  clear h0 h1 h2 h hW hb0
  unfold TupsP at HT
  generalize l.filter (ofB o1 o2 rel) = r at *
  go_enter Tryz.func12, Tryz.ntmps12
  go_wp2_with fail
  show Calls _ _ _ (((W.alloc (.cells #[.slice A l.length c] 22)).alloc (.cells #[strV o1, strV o2] 24)).alloc (.cells #[strV rel] 9)) _
  rw [← HW.out]
  refine HT.out.mono ?_
  rintro e w5 ⟨A5, n5, c5, rfl, hn5, hr5, hb5⟩
  have HN5 := Lib.hid hn5
  clear hn5
  go_wp2_with fail
  go_ret
  exact ⟨A5, n5, c5, rfl, HN5.out, hr5, HB0.out.trans (hb5.mono HB0.out.size)⟩
end Go.Proofs.YtehabjiacgibpaaGreat
namespace Go.Proofs.YtehabjiacgibpaaGreat
open Go.RowKit
open Go.ChangeMaps (setBlock)
def tuV (t : Tup) : Value := .agg ((six t).map strV).toArray
set_option maxRecDepth 10000 in
theorem node_eq (w : World) (x y : Tup) : (Op.equal 34 (tuV x) (tuV y)).run Tryz.prog w = .ok (decide (x = y)) w := by
  obtain ⟨a, b, c, d, e, f⟩ := x
  obtain ⟨a', b', c', d', e', f'⟩ := y
  show (Op.equal 34 (.agg #[strV a, strV b, strV c, strV d, strV e, strV f]) (.agg #[strV a', strV b', strV c', strV d', strV e', strV f'])).run Tryz.prog w = _
  unfold Op.equal Op.maxDepth
  simp [go_sem]
  by_cases h1 : a = a'
  · by_cases h2 : b = b'
    · by_cases h3 : c = c'
      · by_cases h4 : d = d'
        · by_cases h5 : e = e'
          · by_cases h6 : f = f' <;> simp [h1, h2, h3, h4, h5, h6]
          · simp [h1, h2, h3, h4, h5]
        · simp [h1, h2, h3, h4]
      · simp [h1, h2, h3]
    · simp [h1, h2]
  · simp [h1]
theorem text_check (w : World) (em : Bool) (n : Nat) (a : Txt) : (Instr.checkKey em (n + 1) 9 (strV a)).run Tryz.prog w = .ok () w := by
  rw [Instr.checkKey]
  simp [go_sem]
theorem obj_check (w : World) (em : Bool) (n : Nat) (a b : Txt) : (Instr.checkKey em (n + 1 + 1) 24 (.agg #[strV a, strV b])).run Tryz.prog w = .ok () w := by
  have h1 := text_check w em n a
  have h2 := text_check w em n b
  generalize n + 1 = m at *
  rw [Instr.checkKey]
  simp [go_sem, h1, h2]
theorem subj_check (w : World) (em : Bool) (n : Nat) (a b c : Txt) : (Instr.checkKey em (n + 1 + 1 + 1) 32 (.agg #[strV a, strV b, strV c])).run Tryz.prog w = .ok () w := by
  have h1 := obj_check w em n a b
  have h2 := text_check w em (n + 1) c
  generalize n + 1 + 1 = m at *
  rw [Instr.checkKey]
  simp [go_sem, h1, h2]
theorem node_check (w : World) (em : Bool) (x : Tup) : (Instr.checkKey em 10000 34 (tuV x)).run Tryz.prog w = .ok () w := by
  obtain ⟨a, b, c, d, e, f⟩ := x
  show (Instr.checkKey em (9996 + 1 + 1 + 1 + 1) 34 (.agg #[strV a, strV b, strV c, strV d, strV e, strV f])).run Tryz.prog w = .ok () w
  have h1 := obj_check w em 9997 a b
  have h2 := text_check w em 9998 c
  have h3 := subj_check w em 9996 d e f
  generalize 9996 + 1 + 1 + 1 = n at *
  rw [Instr.checkKey]
  simp [go_sem, h1, h2, h3]
theorem node_stays (w : World) (x : Tup) : (Instr.keyThatStays (tuV x) (tuV x)).run Tryz.prog w = .ok (tuV x) w := by
  obtain ⟨a, b, c, d, e, f⟩ := x
  have h : ∀ a : Txt, ((⟨a.toArray⟩ : ByteArray) == ⟨a.toArray⟩) = true := fun a => by rw [beq_toListBytes]; exact BEq.rfl
  show (Instr.keyThatStays (.agg #[strV a, strV b, strV c, strV d, strV e, strV f]) (.agg #[strV a, strV b, strV c, strV d, strV e, strV f])).run Tryz.prog w = _
  simp [Instr.keyThatStays, Instr.sameBits, h]
  rfl
section
variable {α : Type}
def findAt : List (Tup × α) → Tup → Nat → Option (Nat × α)
  | [], _, _ => none
  | p :: r, x, i => if x = p.1 then some (i, p.2) else findAt r x (i + 1)
def lookK (L : List (Tup × α)) (x : Tup) : Option α := (findAt L x 0).map (·.2)
def putK (L : List (Tup × α)) (x : Tup) (v : α) : List (Tup × α) := match findAt L x 0 with | some (i, _) => L.set i (x, v) | none => L ++ [(x, v)]
theorem findAt_some : ∀ {L : List (Tup × α)} {x : Tup} {i j : Nat} {v : α}, findAt L x i = some (j, v) → i ≤ j ∧ L[j - i]? = some (x, v)
  | [], _, _, _, _, h => by cases h
  | p :: r, x, i, j, v, h => by
    rw [findAt] at h
    by_cases hp : x = p.1
    · rw [if_pos hp] at h
      injection h with h
      injection h with h1 h2
      subst h1 h2 hp
      exact ⟨Nat.le_refl _, by simp⟩
    · rw [if_neg hp] at h
      obtain ⟨h1, h2⟩ := findAt_some h
      refine ⟨by omega, ?_⟩
      rw [show j - i = (j - (i + 1)) + 1 from by omega]
      simpa using h2
theorem findAt_none : ∀ {L : List (Tup × α)} {x : Tup} {i : Nat}, findAt L x i = none → x ∉ L.map (·.1)
  | [], _, _, _ => by simp
  | p :: r, x, i, h => by
    rw [findAt] at h
    by_cases hp : x = p.1
    · rw [if_pos hp] at h; cases h
    · rw [if_neg hp] at h
      have := findAt_none h
      simp only [List.map_cons, List.mem_cons, not_or]
      exact ⟨hp, this⟩
theorem findAt_mem : ∀ {L : List (Tup × α)} {x : Tup} {v : α} (i : Nat), (L.map (·.1)).Nodup → (x, v) ∈ L → ∃ j, findAt L x i = some (j, v)
  | [], _, _, _, _, h => by cases h
  | p :: r, x, v, i, hn, h => by
    rw [findAt]
    have hn' := List.nodup_cons.1 hn
    by_cases hp : x = p.1
    · rw [if_pos hp]
      rcases List.mem_cons.1 h with rfl | h
      · exact ⟨i, rfl⟩
      · exact absurd (List.mem_map_of_mem (f := (·.1)) h) (by show ¬ x ∈ _; rw [hp]; exact hn'.1)
    · rw [if_neg hp]
      rcases List.mem_cons.1 h with rfl | h
      · exact absurd rfl hp
      · exact findAt_mem (i + 1) hn'.2 h
theorem lookK_mem {L : List (Tup × α)} {x : Tup} {v : α} (hn : (L.map (·.1)).Nodup) : lookK L x = some v ↔ (x, v) ∈ L := by
  unfold lookK
  constructor
  · intro h
    cases hf : findAt L x 0 with
    | none => rw [hf] at h; cases h
    | some q =>
      obtain ⟨j, u⟩ := q
      rw [hf] at h
      injection h with h
      dsimp only at h
      subst h
      exact List.mem_of_getElem? (findAt_some hf).2
  · intro h
    obtain ⟨j, hj⟩ := findAt_mem 0 hn h
    rw [hj]; rfl
theorem lookK_none {L : List (Tup × α)} {x : Tup} : lookK L x = none ↔ x ∉ L.map (·.1) := by
  unfold lookK
  constructor
  · intro h
    cases hf : findAt L x 0 with
    | none => exact findAt_none hf
    | some q => rw [hf] at h; cases h
  · intro h
    cases hf : findAt L x 0 with
    | none => rfl
    | some q => exact absurd (List.mem_map_of_mem (f := (·.1)) (List.mem_of_getElem? (findAt_some (j := q.1) (v := q.2) hf).2)) h
theorem putK_keys (L : List (Tup × α)) (x : Tup) (v : α) : (putK L x v).map (·.1) = if x ∈ L.map (·.1) then L.map (·.1) else L.map (·.1) ++ [x] := by
  unfold putK
  cases hf : findAt L x 0 with
  | none =>
    rw [if_neg (findAt_none hf)]
    simp
  | some q =>
    obtain ⟨j, u⟩ := q
    have h := (findAt_some hf).2
    rw [if_pos (List.mem_map_of_mem (f := (·.1)) (List.mem_of_getElem? h))]
    dsimp only
    rw [List.map_set]
    refine List.ext_getElem? (fun i => ?_)
    rw [List.getElem?_set]
    split
    · rename_i e
      subst e
      have hj : j < L.length := (List.getElem?_eq_some_iff.1 h).1
      rw [if_pos (by simpa using hj), List.getElem?_map]
      rw [Nat.sub_zero] at h
      rw [h]; rfl
    · rfl
theorem putK_nodup {L : List (Tup × α)} (hn : (L.map (·.1)).Nodup) (x : Tup) (v : α) : ((putK L x v).map (·.1)).Nodup := by
  rw [putK_keys]
  split
  · exact hn
  · rename_i h
    rw [List.nodup_append]
    exact ⟨hn, by simp, fun a ha b hb => by simp only [List.mem_singleton] at hb; subst hb; exact fun e => h (e ▸ ha)⟩
theorem putK_mem {L : List (Tup × α)} (hn : (L.map (·.1)).Nodup) {x : Tup} {v : α} (p : Tup × α) : p ∈ putK L x v ↔ p = (x, v) ∨ (p ∈ L ∧ p.1 ≠ x) := by
  unfold putK
  cases hf : findAt L x 0 with
  | none =>
    have h := findAt_none hf
    simp only [List.mem_append, List.mem_singleton]
    constructor
    · rintro (h1 | h1)
      · exact .inr ⟨h1, fun e => h (e ▸ List.mem_map_of_mem (f := (·.1)) h1)⟩
      · exact .inl h1
    · rintro (h1 | h1)
      · exact .inr h1
      · exact .inl h1.1
  | some q =>
    obtain ⟨j, u⟩ := q
    have h := (findAt_some hf).2
    rw [Nat.sub_zero] at h
    have hj : j < L.length := (List.getElem?_eq_some_iff.1 h).1
    have hjj : L[j] = (x, u) := (List.getElem?_eq_some_iff.1 h).2
    dsimp only
    constructor
    · intro hp
      obtain ⟨i, hi, e⟩ := List.getElem_of_mem hp
      rw [List.getElem_set] at e
      split at e
      · exact .inl e.symm
      · rename_i hne
        have hi' : i < L.length := by simpa using hi
        refine .inr ⟨e ▸ List.getElem_mem hi', fun ex => hne ?_⟩
        have h1 : (L.map (·.1))[i]'(by simpa using hi') = (L.map (·.1))[j]'(by simpa using hj) := by
          rw [List.getElem_map, List.getElem_map, e, ex, hjj]
        have hpw := List.pairwise_iff_getElem.1 hn
        rcases Nat.lt_trichotomy i j with h3 | h3 | h3
        · exact absurd h1 (hpw i j (by simpa using hi') (by simpa using hj) h3)
        · exact h3.symm
        · exact absurd h1.symm (hpw j i (by simpa using hj) (by simpa using hi') h3)
    · rintro (rfl | ⟨h1, h2⟩)
      · exact List.mem_iff_getElem.2 ⟨j, by simpa using hj, by simp⟩
      · obtain ⟨i, hi, e⟩ := List.getElem_of_mem h1
        refine List.mem_iff_getElem.2 ⟨i, by simpa using hi, ?_⟩
        rw [List.getElem_set, if_neg (fun e2 => h2 ?_)]
        · exact e
        · subst e2; rw [← e, hjj]
theorem lookK_put {L : List (Tup × α)} (hn : (L.map (·.1)).Nodup) (x : Tup) (v : α) (y : Tup) : lookK (putK L x v) y = if y = x then some v else lookK L y := by
  have hn2 := putK_nodup hn x v
  split
  · rename_i e
    subst e
    exact (lookK_mem hn2).2 ((putK_mem hn _).2 (.inl rfl))
  · rename_i e
    cases hl : lookK L y with
    | none =>
      rw [lookK_none] at hl ⊢
      rw [putK_keys]
      split
      · exact hl
      · simp only [List.mem_append, List.mem_singleton, not_or]
        exact ⟨hl, e⟩
    | some u => exact (lookK_mem hn2).2 ((putK_mem hn _).2 (.inr ⟨(lookK_mem hn).1 hl, e⟩))
end
def kvT (e : MapEntry) : Value × Value := (e.key, e.val)
def pvT (p : Tup × Value) : Value × Value := (tuV p.1, p.2)
structure EsOk (es : Array MapEntry) (clock : Nat) (L : List (Tup × Value)) : Prop where
  same : es.toList.map kvT = L.map pvT
  born : (es.toList.map (·.born)).Nodup
  old : ∀ e ∈ es.toList, e.born < clock
  keys : (L.map (·.1)).Nodup
def MapAt (w : World) (b : Nat) (L : List (Tup × Value)) : Prop := ∃ es clock, w.heap[b]? = some (.map es clock) ∧ EsOk es clock L
theorem MapAt.lt {w : World} {b : Nat} {L : List (Tup × Value)} (h : MapAt w b L) : b < w.heap.size := by
  obtain ⟨es, clock, hb, _⟩ := h
  exact (Array.getElem?_eq_some_iff.1 hb).1
theorem MapAt.keys {w : World} {b : Nat} {L : List (Tup × Value)} (h : MapAt w b L) : (L.map (·.1)).Nodup := by
  obtain ⟨es, clock, _, h⟩ := h
  exact h.keys
theorem MapAt.spared {w w' : World} {F : Nat → Prop} {b : Nat} {L : List (Tup × Value)} (h : MapAt w b L) (hs : Spared w w' F) (hF : ¬ F b) : MapAt w' b L := by
  have hlt := h.lt
  obtain ⟨es, clock, hb, h⟩ := h
  exact ⟨es, clock, (hs.block b hlt hF).trans hb, h⟩
theorem MapAt.below {w w' : World} {b : Nat} {L : List (Tup × Value)} (h : MapAt w b L) (hs : Below w.heap.size w w') : MapAt w' b L := h.spared (Spared.of_below hs (fun _ => False)) (fun h => h)
theorem MapAt.drew {w : World} {b : Nat} {L : List (Tup × Value)} (h : MapAt w b L) : MapAt w.drew b L := h
theorem MapAt.made (w : World) : MapAt (w.alloc (.map #[] 0)) w.heap.size [] :=
  ⟨#[], 0, (MapKept.heap_alloc w _).1, ⟨rfl, by simp, by simp, by simp⟩⟩
theorem kv_cons {es : List MapEntry} {L : List (Tup × Value)} (h : es.map kvT = L.map pvT) : (es = [] ∧ L = []) ∨ ∃ e r p l, es = e :: r ∧ L = p :: l ∧ e.key = tuV p.1 ∧ e.val = p.2 ∧ r.map kvT = l.map pvT := by
  cases es with
  | nil => cases L with
    | nil => exact .inl ⟨rfl, rfl⟩
    | cons p l => simp at h
  | cons e r => cases L with
    | nil => simp at h
    | cons p l =>
      simp only [List.map_cons, List.cons.injEq] at h
      obtain ⟨h1, h2⟩ := h
      unfold kvT pvT at h1
      injection h1 with h3 h4
      exact .inr ⟨e, r, p, l, rfl, rfl, h3, h4, h2⟩
set_option maxRecDepth 100000 in
theorem run_asking (w : World) (x : Tup) : ∀ (es : List MapEntry) (L : List (Tup × Value)) (i : Nat), es.map kvT = L.map pvT → (Instr.findAsking 34 (tuV x) es i).run Tryz.prog w = .ok (findAt L x i) w := by
  intro es
  induction es with
  | nil =>
    intro L i h
    rcases kv_cons h with ⟨_, rfl⟩ | ⟨e, r, p, l, h, _⟩
    · rfl
    · cases h
  | cons e r ih =>
    intro L i h
    rcases kv_cons h with ⟨h, _⟩ | ⟨e', r', p, l, he, rfl, h1, h2, h3⟩
    · cases h
    · obtain ⟨rfl, rfl⟩ : e = e' ∧ r = r' := by injection he with he hr; exact ⟨he, hr⟩
      have hq := node_eq w x p.1
      have hi := ih l (i + 1) h3
      unfold Instr.findAsking findAt
      simp only [Sem.run_bind, h1, h2, hq, Result.andThen_ok]
      by_cases hx : x = p.1
      · rw [if_pos hx, decide_eq_true hx, if_pos rfl]; rfl
      · rw [if_neg hx, decide_eq_false hx, if_neg (by decide)]
        exact hi
theorem run_find (w : World) (x : Tup) (es : List MapEntry) (L : List (Tup × Value)) (h : es.map kvT = L.map pvT) : (Instr.findKey 34 (tuV x) es).run Tryz.prog w = .ok (findAt L x 0) w := by
  obtain ⟨d, hd, hf⟩ : ∃ d, Tryz.prog.underlying 34 = some d ∧ ∀ (v : Value) (es : List MapEntry), es ≠ [] → Instr.findNow d v es 0 = none := by
    refine ⟨_, Tryz.underlying34, fun v es hne => ?_⟩
    cases es with
    | nil => exact absurd rfl hne
    | cons e r => rfl
  unfold Instr.findKey
  rw [Sem.run_bind, run_underlying hd, Result.andThen_ok]
  cases es with
  | nil =>
    rcases kv_cons h with ⟨_, rfl⟩ | ⟨e, r, p, l, h, _⟩
    · rfl
    · cases h
  | cons e r =>
    rw [hf _ _ (by simp)]
    exact run_asking w x _ L 0 h
theorem run_look {w : World} {b : Nat} {L : List (Tup × Value)} (h : MapAt w b L) {t e : TypeId} (ht : Tryz.prog.underlying t = some (.map 34 e)) {z : Value} (hz : (zeroValue e).run Tryz.prog w = .ok z w) (x : Tup) (c : Bool) :
    (Instr.lookup t (.map (some b)) (tuV x) c).run Tryz.prog w = .ok (if c then .tuple #[(lookK L x).getD z, .bool (lookK L x).isSome] else (lookK L x).getD z) w := by
  obtain ⟨es, clock, hb, hE⟩ := h
  have hf := run_find w x es.toList L hE.same
  have hc := node_check w es.isEmpty x
  unfold Instr.lookup lookK
  simp only [Sem.run_bind, run_underlying ht, Result.andThen_ok, MapKept.run_getObj_map hb, Sem.run_pure, hc, hf]
  cases hq : findAt L x 0 with
  | none => simp [hz]
  | some q => simp
theorem run_put {w : World} {b : Nat} {L : List (Tup × Value)} (h : MapAt w b L) {t e : TypeId} (ht : Tryz.prog.underlying t = some (.map 34 e)) (x : Tup) (v : Value) :
    ∃ w', (Instr.mapUpdate t (.map (some b)) (tuV x) v).run Tryz.prog w = .ok () w' ∧ MapAt w' b (putK L x v) ∧ w.grownBy w' (some b) ∧ w'.heap.size = w.heap.size := by
  have hkeys := putK_nodup h.keys x v
  obtain ⟨es, clock, hb, hE⟩ := h
  have hf := run_find w x es.toList L hE.same
  have hc := node_check w false x
  have hs := node_stays w x
  have hlt : b < w.heap.size := (Array.getElem?_eq_some_iff.1 hb).1
  have hgrow : ∀ o : Obj, w.grownBy { w with heap := w.heap.setIfInBounds b o } (some b) := fun o => ⟨rfl, rfl, rfl, by simp, fun i _ hi => by
    show (w.heap.setIfInBounds b o)[i]? = _
    rw [Array.getElem?_setIfInBounds, if_neg (fun e => hi (by rw [e]))]⟩
  have hat : ∀ o : Obj, (w.heap.setIfInBounds b o)[b]? = some o := fun o => by rw [Array.getElem?_setIfInBounds, if_pos rfl, if_pos hlt]
  cases hq : findAt L x 0 with
  | none =>
    refine ⟨{ w with heap := w.heap.setIfInBounds b (.map (es.push ⟨tuV x, v, clock⟩) (clock + 1)) }, ?_, ⟨es.push ⟨tuV x, v, clock⟩, clock + 1, hat _, ?_⟩, hgrow _, by simp⟩
    · unfold Instr.mapUpdate
      simp only [Sem.run_bind, run_underlying ht, Result.andThen_ok, MapKept.run_getObj_map hb, hc, hf, hq, MapKept.run_setObj_map _ hb]
    · have hp : putK L x v = L ++ [(x, v)] := by unfold putK; rw [hq]
      rw [hp] at hkeys ⊢
      refine ⟨?_, ?_, ?_, hkeys⟩
      · rw [Array.toList_push, List.map_append, List.map_append, hE.same]; rfl
      · rw [Array.toList_push, List.map_append, List.nodup_append]
        refine ⟨hE.born, by simp, fun a ha c hc => ?_⟩
        simp only [List.map_cons, List.map_nil, List.mem_singleton] at hc
        subst hc
        obtain ⟨e, he, rfl⟩ := List.mem_map.1 ha
        exact Nat.ne_of_lt (hE.old e he)
      · intro e he
        rw [Array.toList_push, List.mem_append, List.mem_singleton] at he
        rcases he with he | rfl
        · exact Nat.lt_succ_of_lt (hE.old e he)
        · exact Nat.lt_succ_self _
  | some q =>
    obtain ⟨j, u⟩ := q
    have hj := (findAt_some hq).2
    rw [Nat.sub_zero] at hj
    have hlen : es.toList.length = L.length := by have := congrArg List.length hE.same; simpa using this
    have hjl : j < L.length := (List.getElem?_eq_some_iff.1 hj).1
    have hje : j < es.size := by rw [← Array.length_toList]; omega
    have hLj : L[j] = (x, u) := (List.getElem?_eq_some_iff.1 hj).2
    have hkey : es[j].key = tuV x := by
      have h1 : (es.toList.map kvT)[j]'(by simpa using hje) = (L.map pvT)[j]'(by simpa using hjl) := by simp only [hE.same]
      rw [List.getElem_map, List.getElem_map, hLj] at h1
      injection h1
    have hget : ((es[j]?).map (·.key)).getD (tuV x) = tuV x := by rw [Array.getElem?_eq_getElem hje]; exact hkey
    have hlist : (es.modify j (fun e => { e with key := tuV x, val := v })).toList = es.toList.set j { es[j] with key := tuV x, val := v } := by
      rw [Array.toList_modify]
      refine List.ext_getElem? (fun i => ?_)
      rw [List.getElem?_modify, List.getElem?_set]
      split
      · rename_i e
        subst e
        rw [if_pos (by simpa using hje)]
        simp [hje]
      · simp
    refine ⟨{ w with heap := w.heap.setIfInBounds b (.map (es.modify j fun e => { e with key := tuV x, val := v }) clock) }, ?_, ⟨_, clock, hat _, ?_⟩, hgrow _, by simp⟩
    · unfold Instr.mapUpdate
      simp only [Sem.run_bind, run_underlying ht, Result.andThen_ok, MapKept.run_getObj_map hb, hc, hf, hq, hget, hs, MapKept.run_setObj_map _ hb]
    · have hp : putK L x v = L.set j (x, v) := by unfold putK; rw [hq]
      rw [hp] at hkeys ⊢
      have hborn : (es.toList.set j { es[j] with key := tuV x, val := v }).map (·.born) = es.toList.map (·.born) := by
        rw [List.map_set]
        refine List.ext_getElem? (fun i => ?_)
        rw [List.getElem?_set]
        split
        · rename_i e
          subst e
          rw [if_pos (by simpa using hje)]
          simp [hje]
        · rfl
      refine ⟨?_, ?_, ?_, hkeys⟩
      · rw [hlist, List.map_set, List.map_set, hE.same]; rfl
      · rw [hlist, hborn]; exact hE.born
      · intro e he
        rw [hlist] at he
        have hm : e.born ∈ (es.toList.set j { es[j] with key := tuV x, val := v }).map (·.born) := List.mem_map_of_mem he
        rw [hborn] at hm
        obtain ⟨e', he', h1⟩ := List.mem_map.1 hm
        rw [← h1]
        exact hE.old e' he'
theorem run_entry {w : World} {b : Nat} {L : List (Tup × Value)} (h : MapAt w b L) {t e : TypeId} (ht : Tryz.prog.underlying t = some (.map 34 e)) {z : Value} (hz : ∀ w, (zeroValue e).run Tryz.prog w = .ok z w) (x : Tup) :
    ∃ (w1 : World) (st : Nat), (Instr.mapEntry t (.map (some b)) (tuV x)).run Tryz.prog w = .ok (.tuple #[(lookK L x).getD z, goInt st]) w1 ∧ w.grownBy w1 (some b) ∧ w1.heap.size = w.heap.size ∧ (∃ L1, MapAt w1 b L1 ∧ (lookK L1 x).getD z = (lookK L x).getD z) ∧
      ∀ (w2 : World) (v : Value), w2.heap[b]? = w1.heap[b]? → ∃ w3, (Instr.entryStore t (.map (some b)) (goInt st) v).run Tryz.prog w2 = .ok () w3 ∧ MapAt w3 b (putK L x v) ∧ w2.grownBy w3 (some b) ∧ w3.heap.size = w2.heap.size := by
  have hput := fun v => run_put h ht x v
  have hL := h
  obtain ⟨es, clock, hb, hE⟩ := h
  have hf := run_find w x es.toList L hE.same
  have hc := node_check w false x
  have hs := node_stays w x
  have hlt : b < w.heap.size := (Array.getElem?_eq_some_iff.1 hb).1
  have hgrow : ∀ (u : World) (o : Obj), u.grownBy (setBlock u b o) (some b) := fun u o => ⟨rfl, rfl, rfl, by simp [setBlock], fun i _ hi => by
    show (u.heap.setIfInBounds b o)[i]? = _
    rw [Array.getElem?_setIfInBounds, if_neg (fun e => hi (by rw [e]))]⟩
  have hsz : ∀ (u : World) (o : Obj), (setBlock u b o).heap.size = u.heap.size := fun u o => by simp [setBlock]
  have hat : ∀ (u : World) (o : Obj), b < u.heap.size → (setBlock u b o).heap[b]? = some o := fun u o hu => by
    show (u.heap.setIfInBounds b o)[b]? = _
    rw [Array.getElem?_setIfInBounds, if_pos rfl, if_pos hu]
  have fin : ∀ (v : Value) (es' : Array MapEntry) (clock' : Nat), (Instr.mapUpdate t (.map (some b)) (tuV x) v).run Tryz.prog w = .ok () (setBlock w b (.map es' clock')) → ∀ w2 : World, b < w2.heap.size → MapAt (setBlock w2 b (.map es' clock')) b (putK L x v) := by
    intro v es' clock' hrun w2 hb2
    obtain ⟨w', hrun', ⟨es2, clock2, hm, hE2⟩, _, _⟩ := hput v
    rw [hrun] at hrun'
    injection hrun' with _ hw
    rw [← hw, hat w _ hlt] at hm
    injection hm with hm
    injection hm with h1 h2
    subst h1 h2
    exact ⟨_, _, hat w2 _ hb2, hE2⟩
  cases hq : findAt L x 0 with
  | none =>
    have hl : (lookK L x).getD z = z := by unfold lookK; rw [hq]; rfl
    rw [hl]
    refine ⟨setBlock w b (.map (es.push ⟨tuV x, z, clock⟩) (clock + 1)), clock, ?_, hgrow _ _, hsz _ _, ⟨putK L x z, fin z _ _ ?_ w hlt, by rw [lookK_put hL.keys, if_pos rfl]; rfl⟩, fun w2 v hw2 => ?_⟩
    · simp [Instr.mapEntry, run_underlying ht, MapKept.run_getObj_map hb, hc, hf, hq, hz, MapKept.run_setObj_map _ hb, Result.andThen, setBlock]
    · simp [Instr.mapUpdate, run_underlying ht, MapKept.run_getObj_map hb, hc, hf, hq, MapKept.run_setObj_map _ hb, Result.andThen, setBlock]
    · rw [hat w _ hlt] at hw2
      have hb2 : b < w2.heap.size := (Array.getElem?_eq_some_iff.1 hw2).1
      refine ⟨setBlock w2 b (.map (es.push ⟨tuV x, v, clock⟩) (clock + 1)), ?_, fin v _ _ ?_ w2 hb2, hgrow _ _, hsz _ _⟩
      · have hidx : (es.push ⟨tuV x, z, clock⟩).findIdx? (fun e => ((e.born : Nat) : Int) == ((clock : Nat) : Int)) = some es.size := by
          rw [Go.WideElems.findIdx_arr]
          have := Go.WideElems.findIdx_born (l := (es.push ⟨tuV x, z, clock⟩).toList) (j := es.size) (e0 := ⟨tuV x, z, clock⟩) (by
            simp only [Array.toList_push, List.map_append, List.map_cons, List.map_nil]
            refine List.nodup_append.2 ⟨hE.born, by simp, fun a ha c hc e1 => ?_⟩
            simp only [List.mem_singleton] at hc
            obtain ⟨y, hy, rfl⟩ := List.mem_map.1 ha
            have := hE.old y hy
            omega) (by simp)
          exact this
        have hmod : (es.push ⟨tuV x, z, clock⟩).modify es.size (fun e => { e with val := v }) = es.push ⟨tuV x, v, clock⟩ := by
          apply Array.ext'
          rw [Array.toList_modify, Array.toList_push, Array.toList_push, ← Array.length_toList, Go.WideElems.modify_last]
        simp [Instr.entryStore, MapKept.run_getObj_map hw2, asInt, asIntOf, goInt, hidx, hmod, MapKept.run_setObj_map _ hw2, Result.andThen, setBlock]
      · simp [Instr.mapUpdate, run_underlying ht, MapKept.run_getObj_map hb, hc, hf, hq, MapKept.run_setObj_map _ hb, Result.andThen, setBlock]
  | some q =>
    obtain ⟨j, u⟩ := q
    have hj := (findAt_some hq).2
    rw [Nat.sub_zero] at hj
    have hlen : es.toList.length = L.length := by have := congrArg List.length hE.same; simpa using this
    have hjl : j < L.length := (List.getElem?_eq_some_iff.1 hj).1
    have hje : j < es.size := by rw [← Array.length_toList]; omega
    have hLj : L[j] = (x, u) := (List.getElem?_eq_some_iff.1 hj).2
    have hkv : kvT es[j] = pvT (x, u) := by
      have h1 : (es.toList.map kvT)[j]'(by simpa using hje) = (L.map pvT)[j]'(by simpa using hjl) := by simp only [hE.same]
      rw [List.getElem_map, List.getElem_map, hLj] at h1
      exact h1
    have hkey : es[j].key = tuV x := by unfold kvT pvT at hkv; injection hkv
    have hval : es[j].val = u := by unfold kvT pvT at hkv; injection hkv
    have h2 : es.toList[j]? = some es[j] := by simp [hje]
    have hj3 : es[j]? = some es[j] := Array.getElem?_eq_getElem hje
    have hl : (lookK L x).getD z = u := by unfold lookK; rw [hq]; rfl
    rw [hl]
    generalize es[j] = e0 at *
    have hsame : es.modify j (fun e => { e with key := tuV x }) = es := by
      apply Array.ext'
      rw [Array.toList_modify, Go.ChangeMaps.modify_eq_set _ _ _ _ h2]
      have : ({ e0 with key := tuV x } : MapEntry) = e0 := by rw [← hkey]
      rw [this]
      exact Go.WideElems.set_self _ _ _ h2
    refine ⟨setBlock w b (.map es clock), e0.born, ?_, hgrow _ _, hsz _ _, ⟨L, ⟨es, clock, hat w _ hlt, hE⟩, hl⟩, fun w2 v hw2 => ?_⟩
    · simp [Instr.mapEntry, run_underlying ht, MapKept.run_getObj_map hb, hc, hf, hq, hj3, hkey, hs, hsame, MapKept.run_setObj_map _ hb, Result.andThen, setBlock]
    · rw [hat w _ hlt] at hw2
      have hb2 : b < w2.heap.size := (Array.getElem?_eq_some_iff.1 hw2).1
      refine ⟨setBlock w2 b (.map (es.modify j (fun e' => { e' with key := tuV x, val := v })) clock), ?_, fin v _ _ ?_ w2 hb2, hgrow _ _, hsz _ _⟩
      · have hidx : es.findIdx? (fun e => ((e.born : Nat) : Int) == ((e0.born : Nat) : Int)) = some j := by
          rw [Go.WideElems.findIdx_arr]
          exact Go.WideElems.findIdx_born hE.born h2
        have hmod : es.modify j (fun e => { e with val := v }) = es.modify j (fun e' => { e' with key := tuV x, val := v }) := by
          apply Array.ext'
          rw [Array.toList_modify, Array.toList_modify, Go.ChangeMaps.modify_eq_set _ _ _ _ h2, Go.ChangeMaps.modify_eq_set _ _ _ _ h2, ← hkey]
        simp [Instr.entryStore, MapKept.run_getObj_map hw2, asInt, asIntOf, goInt, hidx, hmod, MapKept.run_setObj_map _ hw2, Result.andThen, setBlock]
      · simp [Instr.mapUpdate, run_underlying ht, MapKept.run_getObj_map hb, hc, hf, hq, hj3, hkey, hs, MapKept.run_setObj_map _ hb, Result.andThen, setBlock]
end Go.Proofs.YtehabjiacgibpaaGreat
