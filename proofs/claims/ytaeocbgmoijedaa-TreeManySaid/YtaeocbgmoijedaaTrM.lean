/-
  Pages as they lie in memory: pairs, pages of pairs, pages that refer to pages; the pairs that are reached through them. No program's function is named here.
-/
import Derived.Test.YtaeocbgmoijedaaFlat
import Derived.Test.YtaeocbgmoijedaaGather
import Derived.Test.YtaeocbgmoijedaaTrO
namespace Go.Proofs.Ytaeocbgmoijedaa
open Go.RowKit

/-- A slice that begins at A shows the cells C, in a block that is none of F. -/
def Cells (w : World) (F : Nat → Prop) (A : Option Addr) (C : List Value) : Prop :=
  C = [] ∨ ∃ b off, A = some ⟨b, off, none⟩ ∧ b < w.heap.size ∧ ¬ F b ∧ ∀ j (h : j < C.length), w.cell? ⟨b, off + j, none⟩ = some C[j]
section
variable {w w' : World} {F G : Nat → Prop} {A : Option Addr} {C : List Value}
theorem Cells.moved (h : Cells w F A C) (hs : Spared w w' F) (hG : ∀ i, G i → F i ∨ w.heap.size ≤ i) : Cells w' G A C := by
  rcases h with rfl | ⟨b, off, rfl, hb, hn, hc⟩
  · exact .inl rfl
  · refine .inr ⟨b, off, rfl, Nat.lt_of_lt_of_le hb hs.size, fun hg => (hG b hg).elim hn (fun h => by omega), fun j hj => ?_⟩
    exact (World.cell?_of_block (a := ⟨b, off + j, none⟩) (hs.block b hb hn)).trans (hc j hj)
theorem Cells.take (h : Cells w F A C) (m : Nat) : Cells w F A (C.take m) := by
  rcases h with rfl | ⟨b, off, rfl, hb, hn, hc⟩
  · exact .inl (by simp)
  · refine .inr ⟨b, off, rfl, hb, hn, fun j hj => ?_⟩
    rw [List.length_take] at hj
    rw [List.getElem_take]
    exact hc j (by omega)
theorem Cells.drop (h : Cells w F A C) (m s c : Nat) (hc : C.length ≤ c * s) : Cells w F (if c = m then A else A.map (·.add (m * s))) (C.drop (m * s)) := by
  by_cases hm : C.length ≤ m * s
  · exact .inl (List.drop_eq_nil_of_le hm)
  · rcases h with rfl | ⟨b, off, rfl, hb, hn, hc'⟩
    · simp at hm
    · have hne : ¬ c = m := fun e => by rw [e] at hc; exact hm hc
      rw [if_neg hne]
      refine .inr ⟨b, off + m * s, ?_, hb, hn, fun j hj => ?_⟩
      · show some (Addr.add _ _) = _; rw [add_plain]
      · rw [List.length_drop] at hj
        rw [Nat.add_assoc, hc' (m * s + j) (by omega), List.getElem_drop]
theorem Cells.none_ (w : World) (F : Nat → Prop) (A : Option Addr) : Cells w F A [] := .inl rfl
theorem Cells.at_ (h : Cells w F A C) (k : Nat) (hk : k < C.length) : ∃ b off, A = some ⟨b, off, none⟩ ∧ b < w.heap.size ∧ ¬ F b ∧ ∀ j (h : j < C.length), w.cell? ⟨b, off + j, none⟩ = some C[j] := by
  rcases h with rfl | h
  · simp at hk
  · exact h
end

/-- a page: its first key's slice; where what it has lies; what it has; the room of that slice -/
structure PG (α : Type) where
  first : Piece
  at_ : Option Addr
  els : List α
  cap : Nat
/-- what a page may have at a height: pairs at 0, pages of one less above -/
def El : Nat → Type
  | 0 => Piece × Piece
  | h + 1 => PG (El h)
abbrev Pg (h : Nat) : Type := PG (El h)
def ecells : (h : Nat) → El h → List Value
  | 0, (q : Piece × Piece) => [pv q.1, pv q.2]
  | 1, (p : PG (El 0)) => [pv p.first, .slice p.at_ p.els.length p.cap, .slice none 0 0]
  | _ + 2, (p : PG (El (_ + 1))) => [pv p.first, .slice none 0 0, .slice p.at_ p.els.length p.cap]
def esize : Nat → Nat
  | 0 => 2
  | _ + 1 => 3
theorem ecells_length : (h : Nat) → (x : El h) → (ecells h x).length = esize h
  | 0, _ => rfl
  | 1, _ => rfl
  | _ + 2, _ => rfl
def rowCells (h : Nat) (l : List (El h)) : List Value := (l.map (ecells h)).flatten
theorem rowCells_length (h : Nat) (l : List (El h)) : (rowCells h l).length = l.length * esize h := by
  unfold rowCells
  rw [flat_length (m := esize h) _ (fun r hr => by obtain ⟨x, _, rfl⟩ := List.mem_map.1 hr; exact ecells_length h x), List.length_map]
theorem rowCells_append (h : Nat) (a b : List (El h)) : rowCells h (a ++ b) = rowCells h a ++ rowCells h b := by simp [rowCells]
theorem rowCells_take (h : Nat) (l : List (El h)) (m : Nat) : (rowCells h l).take (m * esize h) = rowCells h (l.take m) := by
  induction l generalizing m with
  | nil => simp [rowCells]
  | cons x l ih =>
    cases m with
    | zero => simp [rowCells]
    | succ m =>
      have e : rowCells h (x :: l) = ecells h x ++ rowCells h l := by simp [rowCells]
      have e2 : rowCells h (x :: l.take m) = ecells h x ++ rowCells h (l.take m) := by simp [rowCells]
      rw [List.take_succ_cons, e, e2, ← ih m, show (m + 1) * esize h = (ecells h x).length + m * esize h by rw [ecells_length, Nat.succ_mul]; omega, List.take_length_add_append]
theorem rowCells_drop (h : Nat) (l : List (El h)) (m : Nat) : (rowCells h l).drop (m * esize h) = rowCells h (l.drop m) := by
  induction l generalizing m with
  | nil => simp [rowCells]
  | cons x l ih =>
    cases m with
    | zero => simp [rowCells]
    | succ m =>
      have e : rowCells h (x :: l) = ecells h x ++ rowCells h l := by simp [rowCells]
      rw [List.drop_succ_cons, e, ← ih m, show (m + 1) * esize h = (ecells h x).length + m * esize h by rw [ecells_length, Nat.succ_mul]; omega, List.drop_length_add_append]
theorem Cells.elem {w : World} {F : Nat → Prop} {A : Option Addr} {h : Nat} {l : List (El h)} (hc : Cells w F A (rowCells h l)) (i : Nat) (hi : i < l.length) :
    ∃ b off, A = some ⟨b, off, none⟩ ∧ b < w.heap.size ∧ ¬ F b ∧ ∀ j, j < esize h → w.cell? ⟨b, off + i * esize h + j, none⟩ = (ecells h l[i])[j]? := by
  have hr : ∀ r ∈ l.map (ecells h), r.length = esize h := fun r hr => by obtain ⟨x, _, rfl⟩ := List.mem_map.1 hr; exact ecells_length h x
  have hs : 0 < esize h := by cases h with | zero => decide | succ n => exact Nat.zero_lt_succ 2
  have hlt : i * esize h < (rowCells h l).length := by rw [rowCells_length]; exact Nat.mul_lt_mul_of_pos_right hi hs
  obtain ⟨b, off, rfl, hb, hn, hcell⟩ := hc.at_ _ hlt
  refine ⟨b, off, rfl, hb, hn, fun j hj => ?_⟩
  have hf := flat_at (l.map (ecells h)) i j (by simpa using hi) hr (by simp [ecells_length]; exact hj)
  obtain ⟨h1, h2⟩ := List.getElem?_eq_some_iff.1 hf
  rw [Nat.add_assoc, hcell _ h1]
  show some ((rowCells h l)[_]) = _
  unfold rowCells
  rw [h2]
  simp

/-- A slice that begins at A shows the bytes l, in a block that is none of F, and that may be written. -/
def AwayW (w : World) (F : Nat → Prop) (A : Option Addr) (l : List UInt8) : Prop :=
  l = [] ∨ ∃ b off, A = some ⟨b, off, none⟩ ∧ b < w.heap.size ∧ ¬ F b ∧ (∀ j (h : j < l.length), w.cell? ⟨b, off + j, none⟩ = some (.int .u8 (l[j].toNat : Int))) ∧ ∃ C t, w.heap[b]? = some (.cells C t (0, 0))
section
variable {w w' : World} {F G : Nat → Prop} {A : Option Addr} {l : List UInt8}
theorem AwayW.away (h : AwayW w F A l) : Away w F A l := by
  rcases h with rfl | ⟨b, off, rfl, hb, hn, hc, _⟩
  · exact .inl rfl
  · exact .inr ⟨b, off, rfl, hb, hn, hc⟩
theorem AwayW.seen (h : AwayW w F A l) : Seen w A l := h.away.seen
theorem AwayW.moved (h : AwayW w F A l) (hs : Spared w w' F) (hG : ∀ i, G i → F i ∨ w.heap.size ≤ i) : AwayW w' G A l := by
  rcases h with rfl | ⟨b, off, rfl, hb, hn, hc, C, t, hf⟩
  · exact .inl rfl
  · refine .inr ⟨b, off, rfl, Nat.lt_of_lt_of_le hb hs.size, fun hg => (hG b hg).elim hn (fun h => by omega), fun j hj => ?_, C, t, (hs.block b hb hn).trans hf⟩
    exact (World.cell?_of_block (a := ⟨b, off + j, none⟩) (hs.block b hb hn)).trans (hc j hj)
end
/-- bytes that lie in no block of F -/
def PieceIn (w : World) (F : Nat → Prop) (q : Piece) : Prop := AwayW w F q.1 q.2.1 ∧ q.2.1.length ≤ q.2.2 ∧ q.2.1.length ≤ 1000000000
theorem PieceIn.moved {w w' : World} {F G : Nat → Prop} {q : Piece} (h : PieceIn w F q) (hs : Spared w w' F) (hG : ∀ i, G i → F i ∨ w.heap.size ≤ i) : PieceIn w' G q := ⟨h.1.moved hs hG, h.2⟩
/-- what lies in no block of F -/
def EOk (w : World) (F : Nat → Prop) : (h : Nat) → El h → Prop
  | 0, (q : Piece × Piece) => PieceIn w F q.1 ∧ PieceIn w F q.2
  | h + 1, (p : PG (El h)) => PieceIn w F p.first ∧ Cells w F p.at_ (rowCells h p.els) ∧ p.els.length ≤ p.cap ∧ ∀ x ∈ p.els, EOk w F h x
theorem EOk.moved {w w' : World} {F G : Nat → Prop} (hs : Spared w w' F) (hG : ∀ i, G i → F i ∨ w.heap.size ≤ i) : (h : Nat) → (x : El h) → EOk w F h x → EOk w' G h x
  | 0, _, hx => ⟨hx.1.moved hs hG, hx.2.moved hs hG⟩
  | h + 1, p, hx => by
    obtain ⟨h1, h2, h3, h4⟩ := hx
    exact ⟨h1.moved hs hG, h2.moved hs hG, h3, fun x hx => EOk.moved hs hG h x (h4 x hx)⟩
theorem EOk.below {w w' : World} {F : Nat → Prop} {h : Nat} {x : El h} (hx : EOk w F h x) (hb : Below w.heap.size w w') : EOk w' F h x := EOk.moved (.of_below hb F) (fun _ h => .inl h) h x hx
theorem Cells.below {w w' : World} {F : Nat → Prop} {A : Option Addr} {C : List Value} (hx : Cells w F A C) (hb : Below w.heap.size w w') : Cells w' F A C := hx.moved (.of_below hb F) (fun _ h => .inl h)
theorem PieceIn.below {w w' : World} {F : Nat → Prop} {q : Piece} (hx : PieceIn w F q) (hb : Below w.heap.size w w') : PieceIn w' F q := hx.moved (.of_below hb F) (fun _ h => .inl h)
/-- F, and what was laid between two worlds -/
def Wider (w w2 : World) (F : Nat → Prop) (b : Nat) : Prop := F b ∨ (w.heap.size ≤ b ∧ b < w2.heap.size)
theorem Wider.lt {w w2 : World} {F : Nat → Prop} (hF : ∀ b, F b → b < w.heap.size) (hb : w.heap.size ≤ w2.heap.size) : ∀ b, Wider w w2 F b → b < w2.heap.size := fun b h => h.elim (fun h => Nat.lt_of_lt_of_le (hF b h) hb) (fun h => h.2)
theorem Wider.new {w w2 : World} {F : Nat → Prop} : ∀ i, Wider w w2 F i → F i ∨ w.heap.size ≤ i := fun _ h => h.imp id (fun h => h.1)
theorem EOk.wider {w w2 : World} {F : Nat → Prop} {h : Nat} {x : El h} (hx : EOk w F h x) (hb : Below w.heap.size w w2) : EOk w2 (Wider w w2 F) h x := EOk.moved (.of_below hb F) Wider.new h x hx
theorem EOk.narrow {w w2 w3 w4 : World} {F : Nat → Prop} {h : Nat} {x : El h} (hx : EOk w3 (Wider w w2 F) h x) (hs : Spared w3 w4 (fun b => w.heap.size ≤ b ∧ b < w2.heap.size)) : EOk w4 F h x := EOk.moved (hs.mono (fun _ h => .inr h)) (fun _ h => .inl (.inl h)) h x hx
/-- all of a list -/
def AllOk (w : World) (F : Nat → Prop) (h : Nat) (l : List (El h)) : Prop := ∀ x ∈ l, EOk w F h x
theorem AllOk.below {w w' : World} {F : Nat → Prop} {h : Nat} {l : List (El h)} (hx : AllOk w F h l) (hb : Below w.heap.size w w') : AllOk w' F h l := fun x h => (hx x h).below hb
theorem AllOk.append {w : World} {F : Nat → Prop} {h : Nat} {a b : List (El h)} (ha : AllOk w F h a) (hb : AllOk w F h b) : AllOk w F h (a ++ b) := fun x hx => (List.mem_append.1 hx).elim (ha x) (hb x)
theorem AllOk.take {w : World} {F : Nat → Prop} {h : Nat} {a : List (El h)} (ha : AllOk w F h a) (m : Nat) : AllOk w F h (a.take m) := fun x hx => ha x (List.mem_of_mem_take hx)
theorem AllOk.drop {w : World} {F : Nat → Prop} {h : Nat} {a : List (El h)} (ha : AllOk w F h a) (m : Nat) : AllOk w F h (a.drop m) := fun x hx => ha x (List.mem_of_mem_drop hx)

/-! the pairs of a page, its shape -/
def eflat : (h : Nat) → El h → List Kv
  | 0, (q : Piece × Piece) => [(q.1.2.1, q.2.2.1)]
  | h + 1, (p : PG (El h)) => p.els.flatMap (eflat h)
def flats (h : Nat) (l : List (El h)) : List Kv := l.flatMap (eflat h)
theorem flats_append (h : Nat) (a b : List (El h)) : flats h (a ++ b) = flats h a ++ flats h b := by simp [flats]
theorem flats_cons (h : Nat) (x : El h) (b : List (El h)) : flats h (x :: b) = eflat h x ++ flats h b := by simp [flats]
theorem flats_nil (h : Nat) : flats h [] = [] := rfl
theorem flats_single (h : Nat) (x : El h) : flats h [x] = eflat h x := by simp [flats]
theorem flats_two (h : Nat) (x y : El h) : flats h [x, y] = eflat h x ++ eflat h y := by simp [flats]
theorem eflat_succ (h : Nat) (p : Pg h) : eflat (h + 1) p = flats h p.els := rfl
def epiece : (h : Nat) → El h → Piece
  | 0, (q : Piece × Piece) => q.1
  | _ + 1, (p : PG (El _)) => p.first
def ecount : (h : Nat) → El h → Nat
  | 0, _ => 4
  | _ + 1, (p : PG (El _)) => p.els.length
def headKey : List Kv → Key
  | [] => []
  | x :: _ => x.1
/-- all pages below are at least half full, and at most full; the first keys are so -/
def Inner : (h : Nat) → El h → Prop
  | 0, _ => True
  | h + 1, (p : PG (El h)) => (∀ x ∈ p.els, (4 ≤ ecount h x ∧ ecount h x ≤ 8) ∧ Inner h x) ∧ p.first.2.1 = headKey (flats h p.els)
/-- a page that may stand below another one -/
def Full (h : Nat) (x : El h) : Prop := (4 ≤ ecount h x ∧ ecount h x ≤ 8) ∧ Inner h x
theorem Full.ne : (h : Nat) → (x : El h) → 1 ≤ ecount h x → Inner h x → eflat h x ≠ []
  | 0, _, _, _ => by intro e; cases e
  | h + 1, p, h1, h2 => by
    obtain ⟨f, a, els, c⟩ := p
    cases els with
    | nil => exact absurd h1 (by decide : ¬ 1 ≤ 0)
    | cons x els =>
      have hx := h2.1 x (List.mem_cons_self ..)
      rw [eflat_succ]
      show flats h (x :: els) ≠ []
      rw [flats_cons]
      intro e
      exact Full.ne h x (by have := hx.1.1; omega) hx.2 (List.append_eq_nil_iff.1 e).1
theorem headKey_append {a b : List Kv} (h : a ≠ []) : headKey (a ++ b) = headKey a := by
  cases a with
  | nil => exact absurd rfl h
  | cons x a => rfl
theorem Full.key (h : Nat) (x : El h) (h1 : 1 ≤ ecount h x) (h2 : Inner h x) : (epiece h x).2.1 = headKey (eflat h x) := by
  cases h with
  | zero => rfl
  | succ h => exact h2.2
/-- the page of a row -/
def mkPg (h : Nat) (A : Option Addr) (l : List (El h)) (c : Nat) : Pg h := ⟨match l with | [] => (none, [], 0) | x :: _ => epiece h x, A, l, c⟩
theorem mkPg_inner (h : Nat) (A : Option Addr) (l : List (El h)) (c : Nat) (hl : ∀ x ∈ l, Full h x) : Inner (h + 1) (mkPg h A l c) := by
  refine ⟨hl, ?_⟩
  show (mkPg h A l c).first.2.1 = headKey (flats h l)
  cases l with
  | nil => rfl
  | cons x l =>
    have hx := hl x (List.mem_cons_self ..)
    have h1 : 1 ≤ ecount h x := by have := hx.1.1; omega
    rw [flats_cons, headKey_append (Full.ne h x h1 hx.2)]
    exact Full.key h x h1 hx.2
theorem epiece_ok {w : World} {F : Nat → Prop} : (h : Nat) → (x : El h) → EOk w F h x → PieceIn w F (epiece h x)
  | 0, _, hx => hx.1
  | _ + 1, _, hx => hx.1
theorem mkPg_ok {w : World} {F : Nat → Prop} (h : Nat) (A : Option Addr) (l : List (El h)) (c : Nat) (h1 : Cells w F A (rowCells h l)) (h2 : AllOk w F h l) (h3 : l.length ≤ c) : EOk w F (h + 1) (mkPg h A l c) := by
  refine ⟨?_, h1, h3, h2⟩
  cases l with
  | nil => exact ⟨.inl rfl, Nat.le_refl _, Nat.zero_le _⟩
  | cons x l => exact epiece_ok h x (h2 x (List.mem_cons_self ..))
theorem Inner.full {h : Nat} {p : Pg h} (hp : Inner (h + 1) p) {x : El h} (hx : x ∈ p.els) : Full h x := hp.1 x hx
/-- a page half full has so many pairs -/
theorem Full.many : (h : Nat) → (x : El h) → Full h x → 4 ^ h ≤ (eflat h x).length
  | 0, _, _ => Nat.le_refl _
  | h + 1, p, hx => by
    have h1 := hx.1.1
    have hall : ∀ (l : List (El h)), (∀ x ∈ l, Full h x) → l.length * 4 ^ h ≤ (flats h l).length := by
      intro l
      induction l with
      | nil => intro _; simp [flats]
      | cons y l ih =>
        intro hl
        have i1 := ih (fun x hx => hl x (List.mem_cons_of_mem _ hx))
        have i2 := Full.many h y (hl y (List.mem_cons_self ..))
        rw [flats_cons, List.length_append, List.length_cons, Nat.succ_mul]
        omega
    have := hall p.els (fun x hx' => hx.2.1 x hx')
    have h4 : 4 * 4 ^ h ≤ p.els.length * 4 ^ h := Nat.mul_le_mul_right _ h1
    show 4 ^ (h + 1) ≤ (flats h p.els).length
    rw [Nat.pow_succ, Nat.mul_comm]
    omega
end Go.Proofs.Ytaeocbgmoijedaa
