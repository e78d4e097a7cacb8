/-
  Names as lists of bytes: what a name is, a thing's own name, and where a text is cut. No program is named.
-/
import Derived.Test.YtnbghhdbpjgcjaaChecked
import Derived.Test.YtnbghhdbpjgcjaaMem
namespace Go.Proofs.Ytnbghhdbpjgcjaa
open Go.RowKit

def lowB (c : UInt8) : Bool := decide (97 ≤ c.toNat) && decide (c.toNat ≤ 122)
def uppB (c : UInt8) : Bool := decide (65 ≤ c.toNat) && decide (c.toNat ≤ 90)
def numB (c : UInt8) : Bool := decide (48 ≤ c.toNat) && decide (c.toNat ≤ 57)
/-- what may stand in a name, and in a thing's own name -/
def nmB (c : UInt8) : Bool := lowB c || (decide (c.toNat = 95) || numB c)
def idB (c : UInt8) : Bool := lowB c || (uppB c || (numB c || (decide (c.toNat = 95) || (decide (c.toNat = 46) || decide (c.toNat = 45)))))
def typeW : List UInt8 := [116, 121, 112, 101]
def relW : List UInt8 := [114, 101, 108, 97, 116, 105, 111, 110]
def defW : List UInt8 := [100, 101, 102, 105, 110, 101]
def nameBad (l : List UInt8) : Prop := l.length = 0 ∨ 16 < l.length ∨ l = typeW ∨ l = relW ∨ l = defW
instance (l : List UInt8) : Decidable (nameBad l) := by unfold nameBad; infer_instance
def nameL (l : List UInt8) : Bool := !decide (nameBad l) && (lowB (l.getD 0 0) && l.all nmB)
def idL (l : List UInt8) : Bool := !decide (l.length = 0 ∨ 24 < l.length) && l.all idB

theorem toList_data (s : ByteArray) : s.toList = s.data.toList := by
  rw [ByteArray.toList_eq]
theorem empty_iff (s : ByteArray) : s = ByteArray.empty ↔ s.data.toList.length = 0 := by
  constructor
  · rintro rfl; rfl
  · intro h
    apply ByteArray.ext
    apply Array.eq_empty_of_size_eq_zero
    simpa using h
theorem size_list (s : ByteArray) : s.data.toList.length = s.size := by simp
theorem getD_list (s : ByteArray) (k : Nat) (h : k < s.size) : s.data.toList.getD k 0 = s[k] := by
  have h' : k < s.data.toList.length := by simpa using h
  rw [List.getD_eq_getElem?_getD, List.getElem?_eq_getElem h']; rfl
theorem take_list (s : ByteArray) (k : Nat) (h : k < s.size) : s.data.toList.take (k + 1) = s.data.toList.take k ++ [s[k]] := by
  have h' : k < s.data.toList.length := by simpa using h
  rw [List.take_succ_eq_append_getElem h']; rfl
theorem all_next {p : UInt8 → Bool} (s : ByteArray) (k : Nat) (h : k < s.size) (ha : (s.data.toList.take k).all p = true) :
    (p s[k] = true → (s.data.toList.take (k + 1)).all p = true) ∧ (p s[k] = false → s.data.toList.all p = false) := by
  refine ⟨fun hp => by rw [take_list s k h, List.all_append, ha]; simp [hp], fun hp => ?_⟩
  cases hq : s.data.toList.all p
  · rfl
  · have h' : k < s.data.toList.length := by simpa using h
    have := List.all_eq_true.1 hq s[k] (List.getElem_mem h')
    rw [hp] at this; cases this
theorem all_end {p : UInt8 → Bool} (s : ByteArray) (k : Nat) (h : ¬ k < s.size) (ha : (s.data.toList.take k).all p = true) : s.data.toList.all p = true := by
  rwa [List.take_of_length_le (by simp; omega)] at ha
/-- so far a name -/
def NmTo (s : ByteArray) (k : Nat) : Prop := (s.data.toList.take k).all nmB = true ∧ (0 < k → lowB (s.data.toList.getD 0 0) = true)
theorem NmTo.zero (s : ByteArray) : NmTo s 0 := ⟨rfl, fun h => absurd h (by omega)⟩
theorem NmTo.low {s : ByteArray} {k : Nat} (H : NmTo s k) (h : k < s.size) (h1 : 97 ≤ s[k].toNat) (h2 : s[k].toNat ≤ 122) : NmTo s (k + 1) := by
  have hl : lowB s[k] = true := by simp [lowB, h1, h2]
  refine ⟨(all_next s k h H.1).1 (by simp [nmB, hl]), fun _ => ?_⟩
  by_cases h0 : 0 < k
  · exact H.2 h0
  · obtain rfl : k = 0 := by omega
    rw [getD_list s 0 h]; exact hl
theorem NmTo.more {s : ByteArray} {k : Nat} (H : NmTo s k) (h : k < s.size) (h0 : 0 < k) (h1 : s[k].toNat = 95 ∨ (48 ≤ s[k].toNat ∧ s[k].toNat ≤ 57)) : NmTo s (k + 1) := by
  refine ⟨(all_next s k h H.1).1 ?_, fun _ => H.2 h0⟩
  rcases h1 with h1 | ⟨h1, h2⟩
  · simp [nmB, h1]
  · simp [nmB, numB, h1, h2]
theorem NmTo.first {s : ByteArray} (h : 0 < s.size) (h1 : ¬ (97 ≤ s[0].toNat ∧ s[0].toNat ≤ 122)) : nameL s.data.toList = false := by
  have : lowB s[0] = false := by simp [lowB]; omega
  rw [nameL, getD_list s 0 h, this]; simp
theorem NmTo.other {s : ByteArray} {k : Nat} (H : NmTo s k) (h : k < s.size) (h1 : ¬ (97 ≤ s[k].toNat ∧ s[k].toNat ≤ 122)) (h2 : s[k].toNat ≠ 95) (h3 : ¬ (48 ≤ s[k].toNat ∧ s[k].toNat ≤ 57)) : nameL s.data.toList = false := by
  have hp : nmB s[k] = false := by simp [nmB, lowB, numB]; omega
  rw [nameL, (all_next s k h H.1).2 hp]; simp
theorem NmTo.done {s : ByteArray} {k : Nat} (H : NmTo s k) (h : ¬ k < s.size) (hk : 0 < k) (hb : ¬ nameBad s.data.toList) : nameL s.data.toList = true := by
  rw [nameL, H.2 hk, all_end s k h H.1]; simp [hb]
theorem name_bad {s : ByteArray} (hb : nameBad s.data.toList) : nameL s.data.toList = false := by
  rw [nameL]; simp [hb]
/-- what the walk asks of a text that is too short, too long, or a word of the language -/
theorem name_parts (s : ByteArray) (hb : nameBad s.data.toList) : s = ByteArray.empty ∨ (¬ s = ByteArray.empty ∧ 16 < s.size) ∨
    (¬ s = ByteArray.empty ∧ s.size ≤ 16 ∧ s.toList = [116, 121, 112, 101]) ∨
    (¬ s = ByteArray.empty ∧ s.size ≤ 16 ∧ ¬ s.toList = [116, 121, 112, 101] ∧ s.toList = [114, 101, 108, 97, 116, 105, 111, 110]) ∨
    (¬ s = ByteArray.empty ∧ s.size ≤ 16 ∧ ¬ s.toList = [116, 121, 112, 101] ∧ ¬ s.toList = [114, 101, 108, 97, 116, 105, 111, 110] ∧ s.toList = [100, 101, 102, 105, 110, 101]) := by
  by_cases h0 : s = ByteArray.empty
  · exact .inl h0
  · by_cases h1 : 16 < s.size
    · exact .inr (.inl ⟨h0, h1⟩)
    · have h16 : s.size ≤ 16 := by omega
      rw [toList_data]
      rcases hb with h | h | h | h | h
      · exact absurd ((empty_iff s).2 h) h0
      · rw [size_list] at h; exact absurd h h1
      · exact .inr (.inr (.inl ⟨h0, h16, h⟩))
      · exact .inr (.inr (.inr (.inl ⟨h0, h16, by rw [h]; decide, h⟩)))
      · exact .inr (.inr (.inr (.inr ⟨h0, h16, by rw [h]; decide, by rw [h]; decide, h⟩)))
theorem name_fine (s : ByteArray) (hb : ¬ nameBad s.data.toList) : ((s.size : Int) == 0) = false ∧ 0 < s.size ∧ s.size ≤ 16 ∧ (s.toList == [116, 121, 112, 101]) = false ∧ (s.toList == [114, 101, 108, 97, 116, 105, 111, 110]) = false ∧ (s.toList == [100, 101, 102, 105, 110, 101]) = false := by
  simp only [toList_data, beq_eq_false_iff_ne]
  unfold nameBad at hb
  rw [size_list] at hb
  refine ⟨by omega, by omega, by omega, fun h => hb (.inr (.inr (.inl h))), fun h => hb (.inr (.inr (.inr (.inl h)))), fun h => hb (.inr (.inr (.inr (.inr h))))⟩
theorem id_class (c : Nat) : (97 ≤ c ∧ c ≤ 122) ∨ (65 ≤ c ∧ c ≤ 90) ∨ (48 ≤ c ∧ c ≤ 57) ∨ (c : Int) = 95 ∨ (c : Int) = 46 ∨ (c : Int) = 45 ∨
    ((c < 48 ∨ (48 ≤ c ∧ 57 < c ∧ c < 65 ∧ decide ((c : Int) ≤ 57) = false) ∨ (48 ≤ c ∧ 57 < c ∧ 65 ≤ c ∧ 90 < c ∧ c < 97 ∧ decide ((c : Int) ≤ 57) = false ∧ decide ((c : Int) ≤ 90) = false) ∨
      (48 ≤ c ∧ 57 < c ∧ 65 ≤ c ∧ 90 < c ∧ 97 ≤ c ∧ 122 < c ∧ decide ((c : Int) ≤ 57) = false ∧ decide ((c : Int) ≤ 90) = false ∧ decide ((c : Int) ≤ 122) = false)) ∧
     (¬ (c : Int) = 95 ∧ ((c : Int) != 95) = true) ∧ (¬ (c : Int) = 46 ∧ ((c : Int) != 46) = true) ∧ (¬ (c : Int) = 45 ∧ ((c : Int) != 45) = true)) := by
  simp only [decide_eq_false_iff_not, bne_iff_ne, ne_eq]
  omega
theorem id_yes {c : UInt8} (h : (97 ≤ c.toNat ∧ c.toNat ≤ 122) ∨ (65 ≤ c.toNat ∧ c.toNat ≤ 90) ∨ (48 ≤ c.toNat ∧ c.toNat ≤ 57) ∨ (c.toNat : Int) = 95 ∨ (c.toNat : Int) = 46 ∨ (c.toNat : Int) = 45) : idB c = true := by
  simp only [idB, lowB, uppB, numB, Bool.or_eq_true, Bool.and_eq_true, decide_eq_true_eq]; omega
theorem id_no {c : UInt8} (h : c.toNat < 48 ∨ (57 < c.toNat ∧ c.toNat < 65) ∨ (90 < c.toNat ∧ c.toNat < 97) ∨ 122 < c.toNat) (h1 : ¬ (c.toNat : Int) = 95) (h2 : ¬ (c.toNat : Int) = 46) (h3 : ¬ (c.toNat : Int) = 45) : idB c = false := by
  cases hc : idB c
  · rfl
  · simp only [idB, lowB, uppB, numB, Bool.or_eq_true, Bool.and_eq_true, decide_eq_true_eq] at hc; omega
theorem id_fine (s : ByteArray) (hb : ¬ (s.data.toList.length = 0 ∨ 24 < s.data.toList.length)) : ((s.size : Int) == 0) = false ∧ 0 < s.size ∧ s.size ≤ 24 ∧ decide (24 < (s.size : Int)) = false := by
  simp only [beq_eq_false_iff_ne, decide_eq_false_iff_not]
  rw [size_list] at hb
  omega
theorem id_bad {s : ByteArray} (hb : s.data.toList.length = 0 ∨ 24 < s.data.toList.length) : idL s.data.toList = false := by
  rw [idL]; simp only [decide_eq_true hb]; rfl
theorem id_done {s : ByteArray} {k : Nat} (H : (s.data.toList.take k).all idB = true) (h : ¬ k < s.size) (hb : ¬ (s.data.toList.length = 0 ∨ 24 < s.data.toList.length)) : idL s.data.toList = true := by
  rw [idL, all_end s k h H, decide_eq_false hb]; rfl
theorem id_other {s : ByteArray} {k : Nat} (H : (s.data.toList.take k).all idB = true) (h : k < s.size) (hp : idB s[k] = false) : idL s.data.toList = false := by
  rw [idL, (all_next s k h H).2 hp]; simp
/-- what is ahead of the first such sign, what is behind it, and whether there is one -/
def cutL : List UInt8 → UInt8 → List UInt8 × List UInt8 × Bool
  | [], _ => ([], [], false)
  | x :: r, c => if x = c then ([], r, true) else (x :: (cutL r c).1, (cutL r c).2.1, (cutL r c).2.2)
theorem cutL_at (l : List UInt8) (c : UInt8) : ∀ k (h : k < l.length), l[k] = c → (∀ j (hj : j < k), l[j]'(by omega) ≠ c) → cutL l c = (l.take k, l.drop (k + 1), true) := by
  induction l with
  | nil => intro k h; exact absurd h (by simp)
  | cons x r ih =>
    intro k h hc hn
    cases k with
    | zero => simp only [List.getElem_cons_zero] at hc; simp [cutL, hc]
    | succ k =>
      have h0 := hn 0 (by omega)
      simp only [List.getElem_cons_zero] at h0
      have e := ih k (by simpa using h) (by simpa using hc) (fun j hj => by have := hn (j + 1) (by omega); simpa using this)
      simp [cutL, h0, e]
theorem cutL_none (l : List UInt8) (c : UInt8) : (∀ j (hj : j < l.length), l[j] ≠ c) → cutL l c = (l, [], false) := by
  induction l with
  | nil => intro _; rfl
  | cons x r ih =>
    intro hn
    have h0 := hn 0 (by simp)
    simp only [List.getElem_cons_zero] at h0
    have e := ih (fun j hj => by have := hn (j + 1) (by simpa using hj); simpa using this)
    simp [cutL, h0, e]
theorem cutL_true {l a b : List UInt8} {c : UInt8} (h : cutL l c = (a, b, true)) : l = a ++ c :: b ∧ c ∉ a := by
  induction l generalizing a b with
  | nil => simp [cutL] at h
  | cons x r ih =>
    unfold cutL at h
    by_cases hx : x = c
    · rw [if_pos hx] at h
      simp only [Prod.mk.injEq, and_true] at h
      obtain ⟨rfl, rfl⟩ := h
      simp [hx]
    · rw [if_neg hx] at h
      simp only [Prod.mk.injEq] at h
      obtain ⟨rfl, rfl, h3⟩ := h
      obtain ⟨e1, e2⟩ := ih (a := (cutL r c).1) (b := (cutL r c).2.1) (by rw [← h3])
      refine ⟨?_, ?_⟩
      · rw [List.cons_append, ← e1]
      · simp only [List.mem_cons, not_or]; exact ⟨fun h => hx h.symm, e2⟩
theorem cutL_false {l a b : List UInt8} {c : UInt8} (h : cutL l c = (a, b, false)) : a = l ∧ b = [] ∧ c ∉ l := by
  induction l generalizing a b with
  | nil => simp [cutL] at h; simp [h.1, h.2]
  | cons x r ih =>
    unfold cutL at h
    by_cases hx : x = c
    · rw [if_pos hx] at h; simp at h
    · rw [if_neg hx] at h
      simp only [Prod.mk.injEq] at h
      obtain ⟨rfl, rfl, h3⟩ := h
      obtain ⟨e1, e2, e3⟩ := ih (a := (cutL r c).1) (b := (cutL r c).2.1) (by rw [← h3])
      refine ⟨by rw [e1], e2, ?_⟩
      simp only [List.mem_cons, not_or]; exact ⟨fun h => hx h.symm, e3⟩
theorem cutL_app (a b : List UInt8) (c : UInt8) (h : c ∉ a) : cutL (a ++ c :: b) c = (a, b, true) := by
  induction a with
  | nil => simp [cutL]
  | cons x r ih =>
    simp only [List.mem_cons, not_or] at h
    have e := ih h.2
    have hx : ¬ x = c := fun e => h.1 e.symm
    simp [cutL, hx, e]
theorem extract_list (s : ByteArray) (a b : Nat) : s.extract a b = ⟨((s.data.toList.take b).drop a).toArray⟩ := by
  apply ByteArray.ext
  rw [ByteArray.data_extract]
  apply Array.toList_inj.1
  rw [Array.toList_extract]
  simp [List.extract, List.drop_take]
theorem of_list (s : ByteArray) : s = ⟨s.data.toList.toArray⟩ := by simp
end Go.Proofs.Ytnbghhdbpjgcjaa
