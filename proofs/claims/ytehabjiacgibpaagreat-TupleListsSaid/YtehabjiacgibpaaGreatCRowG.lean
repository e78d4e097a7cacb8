/-
  Lists in order, of any order that is strict and decides: one more, many more, some less; a list in order is told by what is in it.
  The document's Has and In, the law's Lists. Conditions: the rows are there.
  'append(l, x)' of a struct just laid, as a step of a statement whose order is drawn. No program is named.
  The document's Remove and Of. Conditions: the rows are there; at most 1,000,000 tuples.
  Rows of structs of the call's own whose cells lead to other memory: kept where other blocks turn, grown by one, and as a row that lies outside some blocks. No program is named.
-/
import Derived.Test.YtehabjiacgibpaaGreatCFlat
import Derived.Test.YtehabjiacgibpaaGreatCTuE
import Derived.Deep.RegionHeldLaw
import Derived.Deep.QuietTactic
import Derived.BigQuiet
import Derived.Deep.AppendLies
namespace Go.Proofs.YtehabjiacgibpaaGreat
namespace Ord
variable {α : Type}
structure Is (lt : α → α → Bool) : Prop where
  self : ∀ x, lt x x = false
  asymm : ∀ {x y}, lt x y = true → lt y x = false
  eq : ∀ {x y}, lt x y = false → lt y x = false → x = y
  trans : ∀ {x y z}, lt x y = true → lt y z = true → lt x z = true
def Srt (lt : α → α → Bool) (l : List α) : Prop := l.Pairwise (fun a b => lt a b = true)
def headN (lt : α → α → Bool) (t : α) (l : List α) : Nat := (l.takeWhile (lt · t)).length
def ins [DecidableEq α] (lt : α → α → Bool) (l : List α) (t : α) : List α := if t ∈ l then l else l.take (headN lt t l) ++ t :: l.drop (headN lt t l)
def insAll [DecidableEq α] (lt : α → α → Bool) (l more : List α) : List α := more.foldl (ins lt) l
def rem [DecidableEq α] (l gone : List α) : List α := l.filter (fun t => decide (t ∉ gone))
theorem headN_ahead (lt : α → α → Bool) (t : α) : ∀ (l : List α) (x : α), x ∈ l.take (headN lt t l) → lt x t = true
  | [], _, h => by simp at h
  | y :: l, x, h => by
    unfold headN at h
    rw [List.takeWhile_cons] at h
    split at h
    · rename_i hy
      rw [List.length_cons, List.take_succ_cons] at h
      rcases List.mem_cons.1 h with rfl | h
      · exact hy
      · exact headN_ahead lt t l x h
    · simp at h
theorem headN_not (lt : α → α → Bool) (t : α) : ∀ (l : List α) (h : headN lt t l < l.length), lt (l[headN lt t l]) t = false
  | [], h => by simp at h
  | y :: l, h => by
    by_cases hy : lt y t = true
    · have e : headN lt t (y :: l) = headN lt t l + 1 := by
        unfold headN
        rw [List.takeWhile_cons, if_pos hy, List.length_cons]
      have h2 : headN lt t l < l.length := by rw [e, List.length_cons] at h; omega
      have := headN_not lt t l h2
      simp only [e, List.getElem_cons_succ]
      exact this
    · have e : headN lt t (y :: l) = 0 := by
        unfold headN
        rw [List.takeWhile_cons, if_neg hy]; rfl
      simp only [e, List.getElem_cons_zero]
      exact eq_false_of_ne_true hy
theorem mem_ins [DecidableEq α] {lt : α → α → Bool} {l : List α} {t x : α} : x ∈ ins lt l t ↔ x ∈ l ∨ x = t := by
  unfold ins
  split
  · rename_i h
    exact ⟨.inl, fun h2 => h2.elim id (fun e => e ▸ h)⟩
  · rw [List.mem_append, List.mem_cons]
    have e : x ∈ l ↔ x ∈ l.take (headN lt t l) ∨ x ∈ l.drop (headN lt t l) := by
      rw [← List.mem_append, List.take_append_drop]
    rw [e]
    constructor
    · rintro (h | h | h)
      · exact .inl (.inl h)
      · exact .inr h
      · exact .inl (.inr h)
    · rintro ((h | h) | h)
      · exact .inl h
      · exact .inr (.inr h)
      · exact .inr (.inl h)
theorem Srt.ins [DecidableEq α] {lt : α → α → Bool} (o : Is lt) {l : List α} (h : Srt lt l) (t : α) : Srt lt (ins lt l t) := by
  unfold Ord.ins
  split
  · exact h
  · rename_i hn
    have hs : Srt lt (l.take (headN lt t l) ++ l.drop (headN lt t l)) := by rw [List.take_append_drop]; exact h
    obtain ⟨h1, h2, h3⟩ := List.pairwise_append.1 hs
    have hb : ∀ y ∈ l.drop (headN lt t l), lt t y = true := fun y hy => by
      have hlt : headN lt t l < l.length := by
        have := List.length_pos_of_mem hy
        rw [List.length_drop] at this; omega
      have h0 := headN_not lt t l hlt
      have hz : lt t l[headN lt t l] = true := by
        cases e : lt t l[headN lt t l]
        · exact absurd (o.eq h0 e ▸ List.getElem_mem hlt) hn
        · rfl
      rw [List.drop_eq_getElem_cons hlt] at hy h2
      rcases List.mem_cons.1 hy with rfl | hy
      · exact hz
      · exact o.trans hz ((List.pairwise_cons.1 h2).1 y hy)
    refine List.pairwise_append.2 ⟨h1, List.pairwise_cons.2 ⟨hb, h2⟩, fun a ha b hb' => ?_⟩
    have ha' := headN_ahead lt t l a ha
    rcases List.mem_cons.1 hb' with rfl | hb'
    · exact ha'
    · exact h3 a ha b hb'
theorem mem_insAll [DecidableEq α] {lt : α → α → Bool} : ∀ {more l : List α} {x : α}, x ∈ insAll lt l more ↔ x ∈ l ∨ x ∈ more
  | [], l, x => by simp [insAll]
  | t :: more, l, x => by
    have h := mem_insAll (lt := lt) (more := more) (l := Ord.ins lt l t) (x := x)
    unfold insAll at h ⊢
    rw [List.foldl_cons, h, mem_ins, List.mem_cons, or_assoc]
theorem Srt.insAll [DecidableEq α] {lt : α → α → Bool} (o : Is lt) : ∀ {more l : List α}, Srt lt l → Srt lt (insAll lt l more)
  | [], _, h => h
  | t :: more, l, h => by
    have h2 := Srt.insAll o (more := more) (Srt.ins o h t)
    unfold Ord.insAll at h2 ⊢
    rw [List.foldl_cons]
    exact h2
theorem mem_rem [DecidableEq α] {l gone : List α} {x : α} : x ∈ rem l gone ↔ x ∈ l ∧ x ∉ gone := by
  unfold rem
  rw [List.mem_filter, decide_eq_true_iff]
theorem Srt.rem [DecidableEq α] {lt : α → α → Bool} {l : List α} (h : Srt lt l) (gone : List α) : Srt lt (rem l gone) := List.Pairwise.filter _ h
theorem Srt.filter {lt : α → α → Bool} {l : List α} (h : Srt lt l) (p : α → Bool) : Srt lt (l.filter p) := List.Pairwise.filter _ h
theorem Srt.unique {lt : α → α → Bool} (o : Is lt) : ∀ {l m : List α}, Srt lt l → Srt lt m → (∀ x, x ∈ l ↔ x ∈ m) → l = m
  | [], [], _, _, _ => rfl
  | [], y :: m, _, _, h => absurd ((h y).2 (List.mem_cons_self ..)) List.not_mem_nil
  | x :: l, [], _, _, h => absurd ((h x).1 (List.mem_cons_self ..)) List.not_mem_nil
  | x :: l, y :: m, h1, h2, h => by
    obtain ⟨a1, b1⟩ := List.pairwise_cons.1 h1
    obtain ⟨a2, b2⟩ := List.pairwise_cons.1 h2
    have e : x = y := by
      rcases List.mem_cons.1 ((h x).1 (List.mem_cons_self ..)) with e | hx
      · exact e
      · rcases List.mem_cons.1 ((h y).2 (List.mem_cons_self ..)) with e | hy
        · exact e.symm
        · have := o.asymm (a2 x hx)
          rw [a1 y hy] at this
          cases this
    subst e
    have hl : ∀ z, z ∈ l ↔ z ∈ m := fun z => by
      have hz := h z
      rw [List.mem_cons, List.mem_cons] at hz
      constructor
      · intro h3
        rcases hz.1 (.inr h3) with rfl | h4
        · have := a1 z h3; rw [o.self] at this; cases this
        · exact h4
      · intro h3
        rcases hz.2 (.inr h3) with rfl | h4
        · have := a2 z h3; rw [o.self] at this; cases this
        · exact h4
    rw [Srt.unique o b1 b2 hl]
theorem Srt.next {lt : α → α → Bool} {l : List α} (h : Srt lt l) (i : Nat) (hi : i + 1 < l.length) : lt l[i] l[i + 1] = true := List.pairwise_iff_getElem.1 h i (i + 1) (by omega) hi (by omega)
theorem goes_in [DecidableEq α] (lt : α → α → Bool) (o : Is lt) {l more : List α} (h : Srt lt l) : rem (insAll lt l more) more = rem l more := by
  refine Srt.unique o ((Srt.insAll o h).rem more) (h.rem more) (fun x => ?_)
  rw [mem_rem, mem_rem, mem_insAll]
  constructor
  · rintro ⟨h1 | h1, h2⟩
    · exact ⟨h1, h2⟩
    · exact absurd h1 h2
  · rintro ⟨h1, h2⟩
    exact ⟨.inl h1, h2⟩
theorem goes_out [DecidableEq α] (lt : α → α → Bool) (o : Is lt) {l more : List α} (h : Srt lt l) : insAll lt (rem l more) more = insAll lt l more := by
  refine Srt.unique o (Srt.insAll o (h.rem more)) (Srt.insAll o h) (fun x => ?_)
  rw [mem_insAll, mem_insAll, mem_rem]
  constructor
  · rintro (⟨h1, _⟩ | h1)
    · exact .inl h1
    · exact .inr h1
  · rintro (h1 | h1)
    · by_cases h2 : x ∈ more
      · exact .inr h2
      · exact .inl ⟨h1, h2⟩
    · exact .inr h1
end Ord
end Go.Proofs.YtehabjiacgibpaaGreat
namespace Go.Proofs.YtehabjiacgibpaaGreat
open Go.RowKit
theorem tup_eql (a b c d e f a' b' c' d' e' f' : Txt) (w : World) : (binOp .eql 34 (.agg #[strV a, strV b, strV c, strV d, strV e, strV f]) (.agg #[strV a', strV b', strV c', strV d', strV e', strV f'])).run Tryz.prog w = .ok (.bool (decide ((a, b, c, d, e, f) = (a', b', c', d', e', f')))) w := by
  simp [go_sem]
  by_cases h1 : a = a'
  · by_cases h2 : b = b'
    · by_cases h3 : c = c'
      · by_cases h4 : d = d'
        · by_cases h5 : e = e'
          · by_cases h6 : f = f' <;> simp [h1, h2, h3, h4, h5, h6]
          · simp [h1, h2, h3, h4, h5]
        · simp [h1, h2, h3, h4]
      · simp [h1, h2, h3]
    · simp [h1, h2]
  · simp [h1]
theorem tup_neq (a b c d e f a' b' c' d' e' f' : Txt) (w : World) : (binOp .neq 34 (.agg #[strV a, strV b, strV c, strV d, strV e, strV f]) (.agg #[strV a', strV b', strV c', strV d', strV e', strV f'])).run Tryz.prog w = .ok (.bool (!decide ((a, b, c, d, e, f) = (a', b', c', d', e', f')))) w := by
  simp [go_sem]
  by_cases h1 : a = a'
  · by_cases h2 : b = b'
    · by_cases h3 : c = c'
      · by_cases h4 : d = d'
        · by_cases h5 : e = e'
          · by_cases h6 : f = f' <;> simp [h1, h2, h3, h4, h5, h6]
          · simp [h1, h2, h3, h4, h5]
        · simp [h1, h2, h3, h4]
      · simp [h1, h2, h3]
    · simp [h1, h2]
  · simp [h1]
theorem mem_drop {l : List Tup} {j : Nat} (h : j < l.length) (t : Tup) : decide (t ∈ l.drop j) = (decide (l[j] = t) || decide (t ∈ l.drop (j + 1))) := by
  rw [List.drop_eq_getElem_cons h, Bool.eq_iff_iff]
  simp only [List.mem_cons, Bool.or_eq_true, decide_eq_true_eq]
  constructor
  · rintro (h | h)
    · exact .inl h.symm
    · exact .inr h
  · rintro (h | h)
    · exact .inl h.symm
    · exact .inr h
set_option maxRecDepth 100000 in
set_option maxHeartbeats 4000000 in
theorem has_any (l : List Tup) (p0 p1 p2 p3 p4 p5 : Txt) (A : Option Addr) (c : Nat) (W : World) (h : TuR W A l) (hl : l.length ≤ 9223372036854775807) :
    Calls Tryz.prog 15 #[.slice A l.length c, .agg #[strV p0, strV p1, strV p2, strV p3, strV p4, strV p5]] W fun e w' => e = .returned (.bool (decide ((p0, p1, p2, p3, p4, p5) ∈ l))) ∧ Below W.heap.size W w' := by
  obtain ⟨v, hv⟩ : ∃ v, v = decide ((p0, p1, p2, p3, p4, p5) ∈ l) := ⟨_, rfl⟩
  rw [← hv]
  obtain ⟨W1, hW⟩ : ∃ W1, W1 = W.alloc (.cells #[strV p0, strV p1, strV p2, strV p3, strV p4, strV p5] 34) := ⟨_, rfl⟩
  have hKT : Blk W1 W.heap.size [strV p0, strV p1, strV p2, strV p3, strV p4, strV p5] 34 := by rw [hW]; exact Blk.new _ _ _
  have HB0 : Hid (Below W.heap.size W W1) := by rw [hW]; exact Lib.hid ((Below.refl _ _).alloc (Nat.le_refl _) _)
  have HW := Lib.hid hW
  have HY : Hid (∀ w, Below W1.heap.size W1 w → SixAt W.heap.size 0 p0 p1 p2 p3 p4 p5 w) := Lib.hid (fun w hw => by
    have h2 := hKT.below hw hKT.lt
    exact ⟨h2.cell (i := 0) (by simp), h2.cell (i := 1) (by simp), h2.cell (i := 2) (by simp), h2.cell (i := 3) (by simp), h2.cell (i := 4) (by simp), h2.cell (i := 5) (by simp)⟩)
  have HR := Lib.hid h
  have HV := Lib.hid hv
  clear h hv hW hKT
  go_enter Tryz.func15, Tryz.ntmps15
  go_wp2_with fail
  show Code.wp _ _ _ _ (W.alloc (.cells #[strV p0, strV p1, strV p2, strV p3, strV p4, strV p5] 34))
  rw [← HW.out]
  go_loopw [5] (fun i wr => ∃ j : Nat, j ≤ l.length ∧ i = .int .i64 j ∧ Hid (v = decide ((p0, p1, p2, p3, p4, p5) ∈ l.drop j)) ∧ Hid (Below W1.heap.size W1 wr)) (fun i _ => l.length - (intOf i).toNat)
  case atStart => exact ⟨0, by omega, rfl, Lib.hid (by rw [List.drop_zero]; exact HV.out), Lib.hid (Below.refl _ _)⟩
  case round =>
    obtain ⟨j, hj, rfl, H, BW⟩ := hrel
    obtain ⟨y0, y1, y2, y3, y4, y5⟩ := HY.out wr BW.out
    have HBW := Lib.hid (HB0.out.trans (BW.out.mono HB0.out.size))
    by_cases hlt : j < l.length
    · have HD := Lib.hid (mem_drop hlt (p0, p1, p2, p3, p4, p5))
      obtain ⟨b, off, q0, q1, q2, q3, q4, q5, rfl, hq, hc⟩ := HR.out.at hlt
      obtain ⟨z0, z1, z2, z3, z4, z5⟩ := hc wr HBW.out
      have e1 : ∀ w, _ := tup_eql q0 q1 q2 q3 q4 q5 p0 p1 p2 p3 p4 p5
      rw [hq] at HD
      clear hc hq
      by_cases e : (q0, q1, q2, q3, q4, q5) = (p0, p1, p2, p3, p4, p5)
      · have HN : Hid (v = true) := Lib.hid (by rw [H.out, HD.out, decide_eq_true e]; rfl)
        rw [decide_eq_true e] at e1
        clear e HD H
        go_wp2_with fail
        go_quiet (fail)
        go_wp2_with fail
        go_ret
        exact ⟨by rw [HN.out]; rfl, below_drewN HBW.out _⟩
      · have HN : Hid (v = decide ((p0, p1, p2, p3, p4, p5) ∈ l.drop (j + 1))) := Lib.hid (by rw [H.out, HD.out, decide_eq_false e, Bool.false_or])
        rw [decide_eq_false e] at e1
        clear e HD H
        go_wp2_with fail
        go_quiet (fail)
        go_wp2_with fail
        go_roundw
        case rel => exact ⟨j + 1, by omega, by go_num, HN, Lib.hid (below_drewN BW.out _)⟩
        case measure => simp [intOf]; omega
    · have HN : Hid (v = false) := Lib.hid (by rw [H.out, List.drop_of_length_le (by omega)]; rfl)
      go_wp2_with fail
      go_ret
      exact ⟨by rw [HN.out]; rfl, HBW.out⟩
set_option maxRecDepth 100000 in
set_option maxHeartbeats 4000000 in
theorem lists_same (l : List Tup) (A B : Option Addr) (c d : Nat) (W : World) (h : TuR W A l) (h' : TuR W B l) (hl : l.length ≤ 9223372036854775807) :
    Calls Tryz.prog 8 #[.slice A l.length c, .slice B l.length d] W fun e w' => e = .returned (.bool true) ∧ Below W.heap.size W w' := by
  have HR := Lib.hid h
  have HR' := Lib.hid h'
  clear h h'
  have hd : ((l.length : Int) != (l.length : Int)) = false := by simp
  have hd2 : ((l.length : Int) == (l.length : Int)) = true := by simp
  go_enter Tryz.func8, Tryz.ntmps8
  go_wp2_with fail
  go_loopw [5] (fun i wr => ∃ j : Nat, j ≤ l.length ∧ i = .int .i64 j ∧ Hid (Below W.heap.size W wr)) (fun i _ => l.length - (intOf i).toNat)
  case atStart => exact ⟨0, by omega, rfl, Lib.hid (Below.refl _ _)⟩
  case round =>
    obtain ⟨j, hj, rfl, BW⟩ := hrel
    by_cases hlt : j < l.length
    · obtain ⟨b, off, q0, q1, q2, q3, q4, q5, rfl, hq, hc⟩ := HR.out.at hlt
      obtain ⟨b', off', p0, p1, p2, p3, p4, p5, rfl, hp, hc'⟩ := HR'.out.at hlt
      rw [hq] at hp
      simp only [Prod.mk.injEq] at hp
      obtain ⟨rfl, rfl, rfl, rfl, rfl, rfl⟩ := hp
      obtain ⟨z0, z1, z2, z3, z4, z5⟩ := hc wr BW.out
      obtain ⟨y0, y1, y2, y3, y4, y5⟩ := hc' wr BW.out
      have e1 : ∀ w, _ := tup_neq q0 q1 q2 q3 q4 q5 q0 q1 q2 q3 q4 q5
      rw [decide_eq_true rfl] at e1
      have hji : (j : Int) < (l.length : Int) := by omega
      clear hc hq hc'
      go_wp2_with fail
      go_quiet (fail)
      go_wp2_with fail
      go_roundw
      case rel => exact ⟨j + 1, by omega, by go_num, Lib.hid (below_drewN BW.out _)⟩
      case measure => simp [intOf]; omega
    · go_wp2_with fail
      go_ret
      exact ⟨rfl, BW.out⟩
set_option maxRecDepth 100000 in
set_option maxHeartbeats 4000000 in
theorem in_any (l : List Tup) (A : Option Addr) (c : Nat) (W : World) (h : TuR W A l) (hl : l.length ≤ 1000000) (ho : Ord.Srt lessT l) :
    Calls Tryz.prog 14 #[.slice A l.length c] W fun e w' => e = .returned (.bool true) ∧ Below W.heap.size W w' := by
  have HR := Lib.hid h
  have HO := Lib.hid ho
  clear h ho
  go_enter Tryz.func14, Tryz.ntmps14
  go_wp2_with fail
  go_loopw [3] (fun i wr => ∃ k : Nat, k ≤ l.length ∧ i = .int .i64 ((k : Int) + 1) ∧ Hid (Below W.heap.size W wr)) (fun i _ => l.length + 1 - (intOf i).toNat)
  case atStart => exact ⟨0, by omega, rfl, Lib.hid (Below.refl _ _)⟩
  case round =>
    obtain ⟨k, hk, rfl, BW⟩ := hrel
    by_cases hlt : k + 1 < l.length
    · have hz : (k : Int) + 1 < (l.length : Int) := by omega
      have hz0 : (k : Int) < (l.length : Int) := by omega
      have hs1 : IntKind.i64.wrap ((k : Int) + 1 - 1) = (k : Int) := by rw [IntKind.wrap_i64]; omega
      have hs2 : (k : Int) + 1 - 1 = (k : Int) := by omega
      have hs3 : ¬ ((k : Int) + 1 < 0) := by omega
      have hs4 : ((k : Int) + 1).toNat = k + 1 := by omega
      have hs5 : IntKind.i64.wrap (k : Int) = (k : Int) := by rw [IntKind.wrap_i64]; omega
      have hs6 : 0 ≤ (k : Int) + 1 := by omega
      have hL := HO.out.next k hlt
      obtain ⟨b, off, hA, hat⟩ := HR.out.addr (by omega)
      obtain ⟨q0, q1, q2, q3, q4, q5, hq, hc⟩ := hat k (by omega)
      obtain ⟨p0, p1, p2, p3, p4, p5, hp, hc'⟩ := hat (k + 1) hlt
      subst hA
      rw [hq, hp] at hL
      have HL : Hid (∀ w, Calls Tryz.prog 20 #[.agg #[strV q0, strV q1, strV q2, strV q3, strV q4, strV q5], .agg #[strV p0, strV p1, strV p2, strV p3, strV p4, strV p5]] w fun e w' => e = .returned (.bool true) ∧ Below w.heap.size w w') := Lib.hid (fun w => by
        have h := refLess_any q0 q1 q2 q3 q4 q5 p0 p1 p2 p3 p4 p5 w
        rw [show lessF [q0, q1, q2, q3, q4, q5] [p0, p1, p2, p3, p4, p5] = true from hL] at h
        exact h)
      have B1 := BW.out
      have y0 : ∀ w, Below W.heap.size W w → w.cell? ⟨b, off + k * 6, none⟩ = some (strV q0) := fun w hw => (hc w hw).1
      have y1 : ∀ w, Below W.heap.size W w → w.cell? ⟨b, off + k * 6 + 1, none⟩ = some (strV q1) := fun w hw => (hc w hw).2.1
      have y2 : ∀ w, Below W.heap.size W w → w.cell? ⟨b, off + k * 6 + 2, none⟩ = some (strV q2) := fun w hw => (hc w hw).2.2.1
      have y3 : ∀ w, Below W.heap.size W w → w.cell? ⟨b, off + k * 6 + 3, none⟩ = some (strV q3) := fun w hw => (hc w hw).2.2.2.1
      have y4 : ∀ w, Below W.heap.size W w → w.cell? ⟨b, off + k * 6 + 4, none⟩ = some (strV q4) := fun w hw => (hc w hw).2.2.2.2.1
      have y5 : ∀ w, Below W.heap.size W w → w.cell? ⟨b, off + k * 6 + 5, none⟩ = some (strV q5) := fun w hw => (hc w hw).2.2.2.2.2
      have u0 : ∀ w, Below W.heap.size W w → w.cell? ⟨b, off + (k + 1) * 6, none⟩ = some (strV p0) := fun w hw => (hc' w hw).1
      have u1 : ∀ w, Below W.heap.size W w → w.cell? ⟨b, off + (k + 1) * 6 + 1, none⟩ = some (strV p1) := fun w hw => (hc' w hw).2.1
      have u2 : ∀ w, Below W.heap.size W w → w.cell? ⟨b, off + (k + 1) * 6 + 2, none⟩ = some (strV p2) := fun w hw => (hc' w hw).2.2.1
      have u3 : ∀ w, Below W.heap.size W w → w.cell? ⟨b, off + (k + 1) * 6 + 3, none⟩ = some (strV p3) := fun w hw => (hc' w hw).2.2.2.1
      have u4 : ∀ w, Below W.heap.size W w → w.cell? ⟨b, off + (k + 1) * 6 + 4, none⟩ = some (strV p4) := fun w hw => (hc' w hw).2.2.2.2.1
      have u5 : ∀ w, Below W.heap.size W w → w.cell? ⟨b, off + (k + 1) * 6 + 5, none⟩ = some (strV p5) := fun w hw => (hc' w hw).2.2.2.2.2
      clear hc hc' hat hq hp hL
      go_wp2_with fail
      go_region_held_law (fun w' => Below W.heap.size W w') (first | exact B1.drew | exact B1 | assumption)
        (first
          | (go_at_call 20; refine (HL.out _).mono ?_; rintro e w3 ⟨rfl, hb3⟩; have B3 : Below W.heap.size W w3 := hop B1.drew hb3; clear hb3))
      go_wp2_with fail
      go_roundw
      case rel => exact ⟨k + 1, by omega, by go_num, Lib.hid B3⟩
      case measure => simp [intOf]; omega
    · have hz : ¬ ((k : Int) + 1 < (l.length : Int)) := by omega
      go_wp2_with fail
      go_ret
      exact ⟨rfl, BW.out⟩
end Go.Proofs.YtehabjiacgibpaaGreat
namespace Go.Proofs.YtehabjiacgibpaaGreat
open Go.RowKit
theorem step_append_struct {P : Program} (w : World) {ops : Array Oper} {o : Oper} {a : Act} {K : Act → World → Prop} {Q : Exit → Act → World → Prop} {E : Prop} (hgd : o.guard = none) (s x : Operand) (t : TypeId)
    (ho : o.op = .call { callee := .builtin .append, args := #[s, x], argTypes := #[t, t] })
    {e : TypeId} {k b : Nat} {i : TypeInfo} {z : Value} (R : RowT P t e k b i z) (hk : 0 < k) (hb64 : b ≤ 128)
    (base : Nat) (A : Option Addr) (n c : Nat) (xs : List Value) (L : List Value) (hL : L.length = k) (hs : a.eval s = .slice A n c) (hx : a.eval x = .slice (some ⟨w.heap.size, 0, none⟩) 1 1)
    (hbase : base ≤ w.heap.size) (h : w.ownsRow base e k (.slice A n c) n xs) (hone : ∀ u ∈ L, u.oneCell' = true) (hn : n ≤ 1000000)
    (K0 : ∀ A' c' w', w'.ownsRow base e k (.slice A' (n + 1) c') (n + 1) (xs ++ L) → (w.alloc (.cells L.toArray e)).grownBy w' (Value.slice A n c).ownBlock → K (a.put o.dst (.slice A' (n + 1) c')) w') :
    if Region.wanted o (yielded ops a.tmps) = true then Oper.wp P o a (w.alloc (.cells L.toArray e)) K Q else E := by
  have hw : Region.wanted o (yielded ops a.tmps) = true := by simp [Region.wanted, hgd]
  rw [if_pos hw]
  have hlist : (w.alloc (.cells L.toArray e)).ownsRow base e k (.slice A n c) n xs := h.alloc _
  obtain ⟨v', w', hr, h2, h3, _, _⟩ := run_append_own_at (P := P) (w.alloc (.cells L.toArray e)) base t o.type e i z k b R.ht R.hi R.hz R.hs R.hb R.zs hk _ n xs hlist ⟨w.heap.size, 0, none⟩ 1 1 L (by rw [hL, Nat.one_mul]) (cells_new _ _ _) hone (by unfold maxLen; omega) (Nat.le_trans (Nat.mul_le_mul_left _ hb64) (by omega)) (by rw [World.size_alloc]; omega)
  obtain ⟨A', c', rfl⟩ := ownrow_shape h2
  unfold Oper.wp execOp
  simp only [ho, resolve, invoke, builtin, Sem.run_bind, Sem.run_pure, Result.andThen_ok, List.map_toArray, List.map_cons, List.map_nil, hs, hx, hr]
  exact K0 A' c' w' h2 h3
theorem wpList_append_at {P : Program} (w : World) {ops : Array Oper} {rest : List Oper} {o : Oper} {ac : Act} {Q : Exit → Act → World → Prop} (hgd : o.guard = none) (s x : Operand) (t : TypeId)
    (ho : o.op = .call { callee := .builtin .append, args := #[s, x], argTypes := #[t, t] })
    {e : TypeId} {k b : Nat} {i : TypeInfo} {z : Value} (R : RowT P t e k b i z) (hk : 0 < k) (hb64 : b ≤ 128)
    (base : Nat) (A : Option Addr) (n c : Nat) (xs : List Value) (L : List Value) (hL : L.length = k) (hs : ac.eval s = .slice A n c) (hx : ac.eval x = .slice (some ⟨w.heap.size, 0, none⟩) 1 1)
    (hbase : base ≤ w.heap.size) (h : w.ownsRow base e k (.slice A n c) n xs) (hone : ∀ u ∈ L, u.oneCell' = true) (hn : n ≤ 1000000)
    (K : ∀ A' c' w', w'.ownsRow base e k (.slice A' (n + 1) c') (n + 1) (xs ++ L) → Below base w w' → wpList P ops Q rest (ac.put o.dst (.slice A' (n + 1) c')) w') :
    wpList P ops Q (o :: rest) ac (w.alloc (.cells L.toArray e)) := by
  have hB : base ≤ (w.alloc (.cells L.toArray e)).heap.size := by simp; omega
  have hlist : (w.alloc (.cells L.toArray e)).ownsRow base e k (.slice A n c) n xs := h.alloc _
  refine wpList_append_own_at (w.alloc (.cells L.toArray e)) hgd s x t ho base e i z k b R.ht R.hi R.hz R.hs R.hb R.zs hk _ n _ hs hlist ⟨w.heap.size, 0, none⟩ 1 1 L hx (by rw [hL, Nat.one_mul]) (cells_new _ _ _) hone (by unfold maxLen; omega) (Nat.le_trans (Nat.mul_le_mul_left _ hb64) (by omega)) hB ?_
  intro v' w' hown hg _ hat
  obtain ⟨A', c', rfl⟩ := ownrow_shape hown
  exact K A' c' w' hown (below_grown ((Below.refl base w).alloc hbase _) hB hlist hg)
end Go.Proofs.YtehabjiacgibpaaGreat
namespace Go.Proofs.YtehabjiacgibpaaGreat
open Go.RowKit
theorem rowTu : ∃ i z, RowT Tryz.prog 22 34 6 96 i z := by
  have hf : (Tryz.prog.info? 34).map (fun i => (i.zero, i.size, i.bytes)) = some (some (.agg #[.string ⟨#[]⟩, .string ⟨#[]⟩, .string ⟨#[]⟩, .string ⟨#[]⟩, .string ⟨#[]⟩, .string ⟨#[]⟩]), 6, 96) := by kernel_rfl
  obtain ⟨i, hi, hz, hs, hb⟩ := info_parts hf
  exact ⟨i, _, Tryz.underlying22, hi, hz, hs, hb, rfl⟩
def TupsP (W : World) (r : List Tup) (e : Ending) (w' : World) : Prop := ∃ A n c, e = .returned (.slice A n c) ∧ n = r.length ∧ TuR w' A r ∧ Below W.heap.size W w'
theorem has_tup (l : List Tup) (t : Tup) {q0 q1 q2 q3 q4 q5 : Txt} (hq : t = (q0, q1, q2, q3, q4, q5)) (A : Option Addr) (c : Nat) (W : World) (h : TuR W A l) (hl : l.length ≤ 9223372036854775807) {v : Bool} (hv : decide (t ∈ l) = v) :
    Calls Tryz.prog 15 #[.slice A l.length c, .agg #[strV q0, strV q1, strV q2, strV q3, strV q4, strV q5]] W fun e w' => e = .returned (.bool v) ∧ Below W.heap.size W w' := by
  have := has_any l q0 q1 q2 q3 q4 q5 A c W h hl
  rw [← hq, hv] at this
  exact this
theorem rem_is (l gone : List Tup) : l.filter (fun t => decide (t ∉ gone)) = Ord.rem l gone := by
  unfold Ord.rem
  congr 1
  funext t
  exact decide_eq_decide.2 Iff.rfl
set_option maxRecDepth 100000 in
set_option maxHeartbeats 4000000 in
theorem refRemove_any (l gone : List Tup) (A B : Option Addr) (c d : Nat) (W : World) (h : TuR W A l) (h' : TuR W B gone) (hl : l.length ≤ 1000000) (hg : gone.length ≤ 1000000) :
    Calls Tryz.prog 11 #[.slice A l.length c, .slice B gone.length d] W (TupsP W (Ord.rem l gone)) := by
  obtain ⟨iT, zT, hRW⟩ := rowTu
  have HRW := Lib.hid hRW
  have HR := Lib.hid h
  have HG := Lib.hid h'
  obtain ⟨g, hgl⟩ : ∃ g, g = gone.length := ⟨_, rfl⟩
  have HGL := Lib.hid hgl
  rw [← hgl]
  clear h h' hRW hgl
  go_enter Tryz.func11, Tryz.ntmps11
  go_wp2_with fail
  go_loopw [5, 6] (fun o i wr => ∃ (j : Nat) (A' : Option Addr) (n c' : Nat), j ≤ l.length ∧ i = .int .i64 j ∧ o = .slice A' n c' ∧ Hid (PickAt W 34 l (fun t => decide (t ∉ gone)) j A' n c' wr)) (fun _ i _ => l.length - (intOf i).toNat)
  case atStart => exact ⟨0, none, 0, 0, by omega, rfl, rfl, Lib.hid (.start _ _ _ _ _ (Below.refl _ _))⟩
  case round =>
    obtain ⟨j, A', n, c', hj, rfl, rfl, HP⟩ := hrel
    by_cases hlt : j < l.length
    · obtain ⟨b, off, hA, hat⟩ := HR.out.addr (by omega)
      obtain ⟨q0, q1, q2, q3, q4, q5, hq, hc⟩ := hat j hlt
      have HAT := Lib.hid hc
      obtain ⟨v, hv⟩ : ∃ v, decide (l[j] ∈ gone) = v := ⟨_, rfl⟩
      have HH : Hid (∀ w, Below W.heap.size W w → Calls Tryz.prog 15 #[.slice B g d, .agg #[strV q0, strV q1, strV q2, strV q3, strV q4, strV q5]] w fun e w' => e = .returned (.bool v) ∧ Below w.heap.size w w') := Lib.hid (fun w hw => by
        rw [HGL.out]
        exact has_tup gone l[j] hq B d w (HG.out.below hw) (by omega) hv)
      have HQ := Lib.hid hq
      have HVV := Lib.hid hv
      subst hA
      obtain ⟨z0, z1, z2, z3, z4, z5⟩ := hc wr HP.out.below
      clear hc hq hv hat
      go_wp2_with fail
      refine (HH.out wr HP.out.below).mono ?_
      rintro e w2 ⟨rfl, hb2⟩
      have HP2 := Lib.hid (HP.out.keep hb2)
      clear z0 z1 z2 z3 z4 z5 hb2
      cases v with
      | true =>
        go_wp2_with fail
        go_roundw
        case rel => exact ⟨j + 1, A', n, c', by omega, by go_num, rfl, Lib.hid (HP2.out.skip hlt (by show decide (l[j] ∉ gone) = false; exact decide_eq_false (fun h => h (of_decide_eq_true HVV.out))))⟩
        case measure => simp [intOf]; omega
      | false =>
        obtain ⟨z0, z1, z2, z3, z4, z5⟩ := HAT.out w2 HP2.out.below
        have HLN : Hid (n ≤ 1000000) := Lib.hid (by have := HP2.out.most; omega)
        go_wp2_with (at_builtin; refine wpList_append_at w2 rfl (.tmp 22) (.tmp 27) 22 rfl HRW.out (by decide) (by decide) W.heap.size A' n c' _ [strV q0, strV q1, strV q2, strV q3, strV q4, strV q5] rfl rfl rfl HP2.out.below.size HP2.out.own (encT_one (q0, q1, q2, q3, q4, q5)) HLN.out ?_; intro A2 c2 w5 hown hbel)
        go_roundw
        case rel =>
          refine ⟨j + 1, A2, n + 1, c2, by omega, by go_num, rfl, Lib.hid (HP2.out.push hlt (by show decide (l[j] ∉ gone) = true; exact decide_eq_true (of_decide_eq_false HVV.out)) ?_ (HP2.out.below.trans hbel))⟩
          rw [HQ.out]
          exact hown
        case measure => simp [intOf]; omega
    · obtain rfl : j = l.length := by omega
      go_wp2_with fail
      go_ret
      obtain ⟨h1, h2⟩ := HP.out.row (fun t ht => HR.out.ok ht)
      rw [rem_is] at h1 h2
      exact ⟨_, _, _, rfl, h1, h2, HP.out.below⟩
def ofB (o1 o2 rel : Txt) (t : Tup) : Bool := decide (t.1 = o1) && decide (t.2.1 = o2) && decide (t.2.2.1 = rel)
set_option maxRecDepth 100000 in
set_option maxHeartbeats 4000000 in
theorem refOf_any (l : List Tup) (o1 o2 rel : Txt) (A : Option Addr) (c : Nat) (W : World) (h : TuR W A l) (hl : l.length ≤ 1000000) :
    Calls Tryz.prog 13 #[.slice A l.length c, .agg #[strV o1, strV o2], strV rel] W (TupsP W (l.filter (ofB o1 o2 rel))) := by
  obtain ⟨iT, zT, hRW⟩ := rowTu
  have HRW := Lib.hid hRW
  obtain ⟨W1, hW⟩ : ∃ W1, W1 = W.alloc (.cells #[strV o1, strV o2] 24) := ⟨_, rfl⟩
  have hKT : Blk W1 W.heap.size [strV o1, strV o2] 24 := by rw [hW]; exact Blk.new _ _ _
  have HB0 : Hid (Below W.heap.size W W1) := by rw [hW]; exact Lib.hid ((Below.refl _ _).alloc (Nat.le_refl _) _)
  have HR := Lib.hid (h.below HB0.out)
  have HW := Lib.hid hW
  have HY : Hid (∀ w, Below W1.heap.size W1 w → w.cell? ⟨W.heap.size, 0, none⟩ = some (strV o1) ∧ w.cell? ⟨W.heap.size, 1, none⟩ = some (strV o2)) := Lib.hid (fun w hw => by
    have h2 := hKT.below hw hKT.lt
    exact ⟨h2.cell (i := 0) (by simp), h2.cell (i := 1) (by simp)⟩)
  clear h hRW hW hKT
  go_enter Tryz.func13, Tryz.ntmps13
  go_wp2_with fail
  show Code.wp _ _ _ _ (W.alloc (.cells #[strV o1, strV o2] 24))
  rw [← HW.out]
  go_loopw [7, 8] (fun o i wr => ∃ (j : Nat) (A' : Option Addr) (n c' : Nat), j ≤ l.length ∧ i = .int .i64 j ∧ o = .slice A' n c' ∧ Hid (PickAt W1 34 l (ofB o1 o2 rel) j A' n c' wr)) (fun _ i _ => l.length - (intOf i).toNat)
  case atStart => exact ⟨0, none, 0, 0, by omega, rfl, rfl, Lib.hid (.start _ _ _ _ _ (Below.refl _ _))⟩
  case round =>
    obtain ⟨j, A', n, c', hj, rfl, rfl, HP⟩ := hrel
    by_cases hlt : j < l.length
    · obtain ⟨b, off, hA, hat⟩ := HR.out.addr (by omega)
      obtain ⟨q0, q1, q2, q3, q4, q5, hq, hc⟩ := hat j hlt
      have HAT := Lib.hid hc
      have HQ := Lib.hid hq
      have HLN : Hid (n ≤ 1000000) := Lib.hid (by have := HP.out.most; omega)
      subst hA
      obtain ⟨z0, z1, z2, z3, z4, z5⟩ := hc wr HP.out.below
      obtain ⟨y0, y1⟩ := HY.out wr HP.out.below
      clear hc hq hat
      have HZ : Hid (∀ k, SixAt b (off + j * 6) q0 q1 q2 q3 q4 q5 (wr.drewN k)) := Lib.hid (fun k => HAT.out _ (below_drewN HP.out.below k))
      have HPD : Hid (∀ k, PickAt W1 34 l (ofB o1 o2 rel) j A' n c' (wr.drewN k)) := Lib.hid (fun k => HP.out.keep (below_drewN (Below.refl _ _) k))
      have key : Hid ((ofB o1 o2 rel l[j] = true ∧ ((q0 = o1 ∧ q1 = o2) ∧ q2 = rel)) ∨ (ofB o1 o2 rel l[j] = false ∧ ((q0 = o1 ∧ q1 = o2) ∧ q2 ≠ rel)) ∨ (ofB o1 o2 rel l[j] = false ∧ (q0 = o1 ∧ q1 ≠ o2)) ∨ (ofB o1 o2 rel l[j] = false ∧ q0 ≠ o1)) := Lib.hid (by
        rw [HQ.out]
        unfold ofB
        by_cases e0 : q0 = o1
        · by_cases e1 : q1 = o2
          · by_cases e2 : q2 = rel
            · exact .inl ⟨by simp [e0, e1, e2], ⟨e0, e1⟩, e2⟩
            · exact .inr (.inl ⟨by simp [e0, e1, e2], ⟨e0, e1⟩, e2⟩)
          · exact .inr (.inr (.inl ⟨by simp [e0, e1], e0, e1⟩))
        · exact .inr (.inr (.inr ⟨by simp [e0], e0⟩)))
      rcases key.out with ⟨hp, ⟨e0, e1⟩, e2⟩ | ⟨hp, ⟨e0, e1⟩, e2⟩ | ⟨hp, e0, e1⟩ | ⟨hp, e0⟩
      · have g0 : (q0 == o1) = true := beq_iff_eq.2 e0
        have g1 : (q1 == o2) = true := beq_iff_eq.2 e1
        have g2 : (q2 == rel) = true := beq_iff_eq.2 e2
        have HPP := Lib.hid hp
        clear e0 e1 e2 hp
        go_wp2_with fail
        go_quiet (fail)
        clear z0 z1 z2 z3 z4 z5 y0 y1
        obtain ⟨z0, z1, z2, z3, z4, z5⟩ := HZ.out nq
        have HP2 := Lib.hid (HPD.out nq)
        generalize wr.drewN nq = w2 at *
        go_wp2_with (at_builtin; refine wpList_append_at w2 rfl (.tmp 31) (.tmp 36) 22 rfl HRW.out (by decide) (by decide) W1.heap.size A' n c' _ [strV q0, strV q1, strV q2, strV q3, strV q4, strV q5] rfl rfl rfl HP2.out.below.size HP2.out.own (encT_one (q0, q1, q2, q3, q4, q5)) HLN.out ?_; intro A2 c2 w5 hown hbel)
        go_roundw
        case rel =>
          refine ⟨j + 1, A2, n + 1, c2, by omega, by go_num, rfl, Lib.hid (HP2.out.push hlt HPP.out ?_ (HP2.out.below.trans hbel))⟩
          rw [HQ.out]
          exact hown
        case measure => simp [intOf]; omega
      · have g0 : (q0 == o1) = true := beq_iff_eq.2 e0
        have g1 : (q1 == o2) = true := beq_iff_eq.2 e1
        have g2 : (q2 == rel) = false := beq_eq_false_iff_ne.2 e2
        clear e0 e1 e2
        have HPP := Lib.hid hp
        clear hp
        go_wp2_with fail
        go_quiet (fail)
        go_wp2_with fail
        go_roundw
        case rel => exact ⟨j + 1, A', n, c', by omega, by go_num, rfl, Lib.hid ((HPD.out nq).skip hlt HPP.out)⟩
        case measure => simp [intOf]; omega
      · have g0 : (q0 == o1) = true := beq_iff_eq.2 e0
        have g1 : (q1 == o2) = false := beq_eq_false_iff_ne.2 e1
        clear e0 e1
        have HPP := Lib.hid hp
        clear hp
        go_wp2_with fail
        go_quiet (fail)
        go_wp2_with fail
        go_roundw
        case rel => exact ⟨j + 1, A', n, c', by omega, by go_num, rfl, Lib.hid ((HPD.out nq).skip hlt HPP.out)⟩
        case measure => simp [intOf]; omega
      · have g0 : (q0 == o1) = false := beq_eq_false_iff_ne.2 e0
        clear e0
        have HPP := Lib.hid hp
        clear hp
        go_wp2_with fail
        go_quiet (fail)
        go_wp2_with fail
        go_roundw
        case rel => exact ⟨j + 1, A', n, c', by omega, by go_num, rfl, Lib.hid ((HPD.out nq).skip hlt HPP.out)⟩
        case measure => simp [intOf]; omega
    · obtain rfl : j = l.length := by omega
      go_wp2_with fail
      go_ret
      obtain ⟨h1, h2⟩ := HP.out.row (fun t ht => HR.out.ok ht)
      exact ⟨_, _, _, rfl, h1, h2, HB0.out.trans (HP.out.below.mono HB0.out.size)⟩
end Go.Proofs.YtehabjiacgibpaaGreat
namespace Go.Proofs.YtehabjiacgibpaaGreat
open Go.RowKit
def Keeps {α : Type} (R : World → (Nat → Prop) → α → List Value → Prop) : Prop := ∀ (W W' : World) (F G : Nat → Prop), Spared W W' F → (∀ i, G i → F i ∨ W.heap.size ≤ i) → ∀ x cs, R W F x cs → R W' G x cs
theorem keeps_rl : Keeps RlAt := fun _ _ _ _ hs hG _ _ h => h.moved hs hG
theorem keeps_ty : Keeps TyAt := fun _ _ _ _ hs hG _ _ h => h.moved hs hG
abbrev offR (g base : Nat) (v : Value) : Nat → Prop := fun b => b = g ∨ b < base ∨ some b = v.ownBlock
structure RowOf {α : Type} (R : World → (Nat → Prop) → α → List Value → Prop) (w : World) (base : Nat) (e : TypeId) (s g : Nat) (A : Option Addr) (n c : Nat) (ps : List (α × List Value)) : Prop where
  own : w.ownsRow base e s (.slice A n c) n (ps.flatMap (·.2))
  len : n = ps.length
  each : ∀ p ∈ ps, p.2.length = s ∧ R w (offR g base (.slice A n c)) p.1 p.2
section
variable {α : Type} {R : World → (Nat → Prop) → α → List Value → Prop} {w w' : World} {base : Nat} {e : TypeId} {s g : Nat} {A A' : Option Addr} {n c c' : Nat} {ps : List (α × List Value)}
theorem RowOf.nil (w : World) (base : Nat) (e : TypeId) (s g : Nat) : RowOf R w base e s g none 0 0 [] := ⟨World.ownsRow_nil _ _ _ _, rfl, fun p hp => by cases hp⟩
theorem RowOf.spared (hK : Keeps R) (h : RowOf R w base e s g A n c ps) (hg : g < base) (hs : Spared w w' (fun b => b = g ∨ b < base)) : RowOf R w' base e s g A n c ps := by
  refine ⟨own_spared h.own hs (fun i hi => by rcases hi with hi | hi <;> omega), h.len, fun p hp => ⟨(h.each p hp).1, hK _ _ _ _ (hs.mono (G := offR g base (.slice A n c)) (fun b hb => hb.elim .inl (fun h => .inr (.inl h)))) (fun _ h => .inl h) _ _ (h.each p hp).2⟩⟩
theorem RowOf.push (hK : Keeps R) (h : RowOf R w base e s g A n c ps) {x : α} {cs : List Value} (hl : cs.length = s) (hx : R w (offR g base (.slice A n c)) x cs)
    (ho : w'.ownsRow base e s (.slice A' (n + 1) c') (n + 1) (ps.flatMap (·.2) ++ cs)) (hg : (w.alloc (.cells cs.toArray e)).grownBy w' (Value.slice A n c).ownBlock) (hat : (Value.slice A' (n + 1) c').ownBlock = (Value.slice A n c).ownBlock ∨ (Value.slice A' (n + 1) c').ownBlock = some (w.heap.size + 1)) :
    RowOf R w' base e s g A' (n + 1) c' (ps ++ [(x, cs)]) := by
  have hmv : ∀ y ds, R w (offR g base (.slice A n c)) y ds → R w' (offR g base (.slice A' (n + 1) c')) y ds := fun y ds hy => by
    refine hK (w.alloc (.cells cs.toArray e)) w' (offR g base (.slice A n c)) _ (Spared.of_grown hg (fun k hk _ => .inr (.inr hk.symm))) (fun i hi => ?_) _ _ (hK w _ _ _ (Spared.of_below ((Below.refl w.heap.size w).alloc (Nat.le_refl _) _) _) (fun _ h => .inl h) _ _ hy)
    rcases hi with hi | hi | hi
    · exact .inl (.inl hi)
    · exact .inl (.inr (.inl hi))
    · rcases hat with e1 | e1
      · exact .inl (.inr (.inr (hi.trans e1)))
      · rw [e1] at hi
        injection hi with hi
        exact .inr (by rw [World.size_alloc]; omega)
  refine ⟨by simpa [List.flatMap_append] using ho, by have := h.len; simp; omega, fun p hp => ?_⟩
  rcases List.mem_append.1 hp with hp | hp
  · exact ⟨(h.each p hp).1, hmv _ _ (h.each p hp).2⟩
  · rw [List.mem_singleton.1 hp]
    exact ⟨hl, hmv _ _ hx⟩
theorem pairs_at : ∀ (l : List (α × List Value)) (_ : ∀ p ∈ l, p.2.length = s) (j : Nat) (h : j < l.length) (i : Nat), i < s → (l.flatMap (·.2))[j * s + i]? = (l[j]).2[i]?
  | x :: r, hf, 0, _, i, hi => by
    simp only [List.flatMap_cons, Nat.zero_mul, Nat.zero_add, List.getElem_cons_zero]
    rw [List.getElem?_append_left (by rw [hf x List.mem_cons_self]; exact hi)]
  | x :: r, hf, j + 1, h, i, hi => by
    have hx := hf x List.mem_cons_self
    simp only [List.flatMap_cons, List.getElem_cons_succ]
    rw [List.getElem?_append_right (by rw [hx, Nat.succ_mul]; omega), hx, show (j + 1) * s + i - s = j * s + i by rw [Nat.succ_mul]; omega]
    exact pairs_at r (fun p hp => hf p (List.mem_cons_of_mem _ hp)) j (by simpa using h) i hi
theorem RowOf.row (hK : Keeps R) (h : RowOf R w base e s g A n c ps) (hg : g < base) {G : Nat → Prop} (hG : ∀ i, G i → i = g ∨ i < base) : RowAt s R w G A (ps.map (·.1)) := by
  obtain ⟨⟨hl, ho⟩, rfl, he⟩ := h
  rcases ho with ⟨_, h0⟩ | ⟨b, cap, cur, hv, hb, hh, hnc, _, hsz, htake⟩
  · left
    rw [List.length_eq_zero_iff.1 h0]; rfl
  · injection hv with hA _ _
    refine .inr ⟨b, 0, hA, ?_, fun hf => by rcases hG b hf with h | h <;> omega, fun j hj => ?_⟩
    · rcases Nat.lt_or_ge b w.heap.size with hlt | hge
      · exact hlt
      · rw [Array.getElem?_eq_none hge] at hh; cases hh
    rw [List.length_map] at hj
    have hm := List.getElem_mem hj
    refine ⟨(ps[j]).2, ?_, fun i hi => ?_⟩
    · rw [List.getElem_map]
      exact hK _ _ _ _ (Spared.refl w (offR g base (.slice A ps.length c))) (fun i hi => .inl ((hG i hi).elim .inl (fun h => .inr (.inl h)))) _ _ (he _ hm).2
    · rw [Nat.zero_add, cell_of_row w b _ cur e (0, 0) hh, ← pairs_at ps (fun p hp => (he p hp).1) j hj i hi, ← htake]
      have hlt : j * s + i < ps.length * s := by
        have : (j + 1) * s ≤ ps.length * s := Nat.mul_le_mul_right s hj
        rw [Nat.succ_mul] at this
        omega
      rw [List.getElem?_take, if_pos hlt]
      simp
end
theorem step_append_row {P : Program} (w : World) {ops : Array Oper} {o : Oper} {a : Act} {K : Act → World → Prop} {Q : Exit → Act → World → Prop} {E : Prop} (hgd : o.guard = none) (s x : Operand) (t : TypeId)
    (ho : o.op = .call { callee := .builtin .append, args := #[s, x], argTypes := #[t, t] })
    {e : TypeId} {k b : Nat} {i : TypeInfo} {z : Value} (R : RowT P t e k b i z) (hk : 0 < k) (hb64 : b ≤ 128)
    (base : Nat) (A : Option Addr) (n c : Nat) (xs : List Value) (L : List Value) (hL : L.length = k) (hs : a.eval s = .slice A n c) (hx : a.eval x = .slice (some ⟨w.heap.size, 0, none⟩) 1 1)
    (hbase : base ≤ w.heap.size) (h : w.ownsRow base e k (.slice A n c) n xs) (hone : ∀ u ∈ L, u.oneCell' = true) (hn : n ≤ 1000000)
    (K0 : ∀ A' c' w', w'.ownsRow base e k (.slice A' (n + 1) c') (n + 1) (xs ++ L) → (w.alloc (.cells L.toArray e)).grownBy w' (Value.slice A n c).ownBlock →
      ((Value.slice A' (n + 1) c').ownBlock = (Value.slice A n c).ownBlock ∨ (Value.slice A' (n + 1) c').ownBlock = some (w.heap.size + 1)) → K (a.put o.dst (.slice A' (n + 1) c')) w') :
    if Region.wanted o (yielded ops a.tmps) = true then Oper.wp P o a (w.alloc (.cells L.toArray e)) K Q else E := by
  have hw : Region.wanted o (yielded ops a.tmps) = true := by simp [Region.wanted, hgd]
  rw [if_pos hw]
  have hlist : (w.alloc (.cells L.toArray e)).ownsRow base e k (.slice A n c) n xs := h.alloc _
  obtain ⟨v', w', hr, h2, h3, _, h5⟩ := run_append_own_at (P := P) (w.alloc (.cells L.toArray e)) base t o.type e i z k b R.ht R.hi R.hz R.hs R.hb R.zs hk _ n xs hlist ⟨w.heap.size, 0, none⟩ 1 1 L (by rw [hL, Nat.one_mul]) (cells_new _ _ _) hone (by unfold maxLen; omega) (Nat.le_trans (Nat.mul_le_mul_left _ hb64) (by omega)) (by rw [World.size_alloc]; omega)
  obtain ⟨A', c', rfl⟩ := ownrow_shape h2
  rw [World.size_alloc] at h5
  unfold Oper.wp execOp
  simp only [ho, resolve, invoke, builtin, Sem.run_bind, Sem.run_pure, Result.andThen_ok, List.map_toArray, List.map_cons, List.map_nil, hs, hx, hr]
  exact K0 A' c' w' h2 h3 h5
end Go.Proofs.YtehabjiacgibpaaGreat
