/-
  The order of keys, and lists of pairs that rise by it: putting, taking out, finding, scanning. No program is named here.
-/
import Derived.Test.YtnbghhdbpjgcjaaMem
import Derived.Lib.Bytealg
namespace Go.Proofs.Ytnbghhdbpjgcjaa
open Go.RowKit

abbrev Key := List UInt8
abbrev Kv := List UInt8 × List UInt8
/-- the order of keys -/
def ltK (a b : Key) : Bool := Op.bytesLess a b

theorem bytesLess_list : ∀ (x y : List UInt8), Op.bytesLess x y = decide (x < y)
  | [], [] => by simp [Op.bytesLess]
  | _ :: _, [] => by simp [Op.bytesLess]
  | [], _ :: _ => by simp [Op.bytesLess]
  | a :: x, b :: y => by
    rw [Op.bytesLess, bytesLess_list x y]
    simp only [List.cons_lt_cons_iff]
    by_cases h1 : a < b <;> by_cases h2 : a = b <;> by_cases h3 : x < y <;> simp [h1, h2, h3]
theorem ltK_iff (a b : Key) : ltK a b = true ↔ a < b := by unfold ltK; rw [bytesLess_list]; simp
theorem ltK_self (a : Key) : ltK a a = false := by
  rw [Bool.eq_false_iff]; intro h; rw [ltK_iff] at h; exact List.lt_irrefl a h
theorem ltK_trans {a b c : Key} (h1 : ltK a b = true) (h2 : ltK b c = true) : ltK a c = true := by
  rw [ltK_iff] at h1 h2 ⊢; exact List.lt_trans h1 h2
theorem ltK_asymm {a b : Key} (h : ltK a b = true) : ltK b a = false := by
  rw [Bool.eq_false_iff]; intro h2; have := ltK_trans h h2; rw [ltK_self] at this; cases this
theorem ltK_eq {a b : Key} (h1 : ltK a b = false) (h2 : ltK b a = false) : a = b := by
  have h1' : ¬ a < b := fun h => by rw [(ltK_iff a b).2 h] at h1; cases h1
  have h2' : ¬ b < a := fun h => by rw [(ltK_iff b a).2 h] at h2; cases h2
  exact List.le_antisymm (List.not_lt.1 h2') (List.not_lt.1 h1')
theorem ltK_ne {a b : Key} (h : ltK a b = true) : a ≠ b := fun e => by rw [e, ltK_self] at h; cases h
theorem ltK_nil (a : Key) : ltK a [] = false := by cases a <;> rfl
theorem ltK_of_ne {a b : Key} (h : a ≠ b) (h1 : ltK a b = false) : ltK b a = true := by
  cases h2 : ltK b a
  · exact absurd (ltK_eq h1 h2) h
  · rfl
theorem ltK_le_trans {a b c : Key} (h1 : ltK a b = true) (h2 : ltK c b = false) : ltK a c = true := by
  cases h : ltK b c
  · rw [← ltK_eq h h2]; exact h1
  · exact ltK_trans h1 h
theorem ltK_trans_le {a b c : Key} (h1 : ltK b a = false) (h2 : ltK b c = true) : ltK a c = true := by
  cases h : ltK a b
  · rw [ltK_eq h h1]; exact h2
  · exact ltK_trans h h2

/-- bytes.Compare and the order -/
theorem compare_spec : ∀ (a b : Key), (Lib.compareBytes a b < 0 ↔ ltK a b = true) ∧ (0 < Lib.compareBytes a b ↔ ltK b a = true)
  | [], [] => by simp [Lib.compareBytes, ltK, Op.bytesLess]
  | [], _ :: _ => by simp [Lib.compareBytes, ltK, Op.bytesLess]
  | _ :: _, [] => by simp [Lib.compareBytes, ltK, Op.bytesLess]
  | x :: a, y :: b => by
    have ih := compare_spec a b
    unfold ltK at ih ⊢
    unfold Lib.compareBytes
    simp only [Op.bytesLess]
    by_cases h1 : x < y
    · have h2 : ¬ y < x := fun h => absurd (UInt8.lt_trans h1 h) (UInt8.lt_irrefl _)
      have h3 : ¬ y = x := fun e => by rw [e] at h1; exact UInt8.lt_irrefl _ h1
      simp [h1, h2, h3]
    · by_cases h2 : y < x
      · have h3 : ¬ x = y := fun e => by rw [e] at h2; exact UInt8.lt_irrefl _ h2
        simp [h1, h2, h3]
      · have h3 : x = y := UInt8.le_antisymm (UInt8.not_lt.1 h2) (UInt8.not_lt.1 h1)
        subst h3
        simpa [UInt8.lt_irrefl] using ih
theorem compare_lt {a b : Key} (h : ltK a b = true) : Lib.compareBytes a b < 0 := (compare_spec a b).1.2 h
theorem compare_ge {a b : Key} (h : ltK a b = false) : 0 ≤ Lib.compareBytes a b := by
  have := (compare_spec a b).1
  rcases Int.lt_or_le (Lib.compareBytes a b) 0 with h' | h'
  · rw [this.1 h'] at h; cases h
  · exact h'
theorem compare_gt {a b : Key} (h : ltK b a = true) : 0 < Lib.compareBytes a b := (compare_spec a b).2.2 h
theorem compare_le {a b : Key} (h : ltK b a = false) : Lib.compareBytes a b ≤ 0 := by
  have := (compare_spec a b).2
  rcases Int.lt_or_le 0 (Lib.compareBytes a b) with h' | h'
  · rw [this.1 h'] at h; cases h
  · exact h'

/-! lists of pairs -/
/-- pairs whose keys rise -/
def Srt (l : List Kv) : Prop := l.Pairwise fun a b => ltK a.1 b.1 = true
/-- those below a key, and those above it -/
def low (k : Key) (l : List Kv) : List Kv := l.filter fun x => ltK x.1 k
def high (k : Key) (l : List Kv) : List Kv := l.filter fun x => ltK k x.1
/-- from a key on -/
def since (k : Key) (l : List Kv) : List Kv := l.filter fun x => !ltK x.1 k
def putT (k v : Key) (l : List Kv) : List Kv := low k l ++ (k, v) :: high k l
def delL (k : Key) (l : List Kv) : List Kv := low k l ++ high k l
def hasL (k : Key) (l : List Kv) : Bool := l.any fun x => x.1 == k
def getT (k : Key) (l : List Kv) : List UInt8 := match l.find? fun x => x.1 == k with | some x => x.2 | none => []
/-- bytes of all keys and values -/
def sizeT (l : List Kv) : Nat := (l.map fun x => x.1.length + x.2.length).sum

theorem low_append (k : Key) (a b : List Kv) : low k (a ++ b) = low k a ++ low k b := List.filter_append ..
theorem high_append (k : Key) (a b : List Kv) : high k (a ++ b) = high k a ++ high k b := List.filter_append ..
theorem since_append (k : Key) (a b : List Kv) : since k (a ++ b) = since k a ++ since k b := List.filter_append ..
theorem low_all {k : Key} {l : List Kv} (h : ∀ x ∈ l, ltK x.1 k = true) : low k l = l := List.filter_eq_self.2 h
theorem low_none {k : Key} {l : List Kv} (h : ∀ x ∈ l, ltK x.1 k = false) : low k l = [] := List.filter_eq_nil_iff.2 fun x hx => by rw [h x hx]; decide
theorem high_all {k : Key} {l : List Kv} (h : ∀ x ∈ l, ltK k x.1 = true) : high k l = l := List.filter_eq_self.2 h
theorem high_none {k : Key} {l : List Kv} (h : ∀ x ∈ l, ltK k x.1 = false) : high k l = [] := List.filter_eq_nil_iff.2 fun x hx => by rw [h x hx]; decide
theorem since_all {k : Key} {l : List Kv} (h : ∀ x ∈ l, ltK x.1 k = false) : since k l = l := List.filter_eq_self.2 fun x hx => by rw [h x hx]; rfl
theorem since_none {k : Key} {l : List Kv} (h : ∀ x ∈ l, ltK x.1 k = true) : since k l = [] := List.filter_eq_nil_iff.2 fun x hx => by rw [h x hx]; decide
theorem Srt.nil : Srt [] := List.Pairwise.nil
theorem Srt.append {a b : List Kv} : Srt (a ++ b) ↔ Srt a ∧ Srt b ∧ ∀ x ∈ a, ∀ y ∈ b, ltK x.1 y.1 = true := List.pairwise_append
theorem Srt.cons {x : Kv} {l : List Kv} : Srt (x :: l) ↔ (∀ y ∈ l, ltK x.1 y.1 = true) ∧ Srt l := List.pairwise_cons

/-- a rising list, cut where a key stands or would stand -/
theorem Srt.cut {l : List Kv} (h : Srt l) (k : Key) : (hasL k l = true ∧ l = low k l ++ (k, getT k l) :: high k l ∧ since k l = (k, getT k l) :: high k l) ∨ (hasL k l = false ∧ l = low k l ++ high k l ∧ since k l = high k l) := by
  induction l with
  | nil => right; exact ⟨rfl, rfl, rfl⟩
  | cons x l ih =>
    rw [Srt.cons] at h
    have ih := ih h.2
    cases h1 : ltK x.1 k
    · -- not below: nothing is below
      have hl : ∀ y ∈ l, ltK k y.1 = true := fun y hy => ltK_trans_le h1 (h.1 y hy)
      have hl2 : ∀ y ∈ l, ltK y.1 k = false := fun y hy => ltK_asymm (hl y hy)
      have e1 : low k l = [] := low_none hl2
      have e2 : high k l = l := high_all hl
      have e3 : since k l = l := since_all hl2
      have e4 : hasL k l = false := by
        unfold hasL
        rw [List.any_eq_false]
        intro y hy
        have := ltK_ne (hl y hy)
        simp [Ne.symm this]
      by_cases hk : x.1 = k
      · left
        obtain ⟨a, b⟩ := x
        dsimp at hk h1
        subst hk
        refine ⟨by simp [hasL], ?_, ?_⟩
        · simp only [low, high, List.filter_cons, h1, Bool.false_eq_true, if_false]
          unfold low at e1; unfold high at e2
          rw [e1, e2]; simp [getT]
        · unfold since high; unfold since at e3; unfold high at e2
          simp only [List.filter_cons, h1, Bool.false_eq_true, if_false, Bool.not_false, if_true]
          rw [e3, e2]; simp [getT]
      · right
        have h2 : ltK k x.1 = true := ltK_of_ne hk h1
        refine ⟨?_, ?_, ?_⟩
        · unfold hasL at e4 ⊢
          rw [List.any_cons, e4]
          simp [hk]
        · simp only [low, high, List.filter_cons, h1, h2, Bool.false_eq_true, if_false, if_true]
          unfold low at e1; unfold high at e2
          rw [e1, e2]; rfl
        · simp only [since, high, List.filter_cons, h1, h2, if_true, Bool.not_false]
          unfold since at e3; unfold high at e2
          rw [e3, e2]
    · have h2 : ltK k x.1 = false := ltK_asymm h1
      have hne : x.1 ≠ k := ltK_ne h1
      have hb : (x.1 == k) = false := by simp [hne]
      have eg : getT k (x :: l) = getT k l := by unfold getT; rw [List.find?_cons, hb]
      have eh : hasL k (x :: l) = hasL k l := by unfold hasL; rw [List.any_cons]; simp [hne]
      have el : low k (x :: l) = x :: low k l := by simp [low, h1]
      have ei : high k (x :: l) = high k l := by simp [high, h2]
      have es : since k (x :: l) = since k l := by simp [since, h1]
      rw [eg, eh, el, ei, es]
      rcases ih with ⟨i1, i2, i3⟩ | ⟨i1, i2, i3⟩
      · exact .inl ⟨i1, by rw [List.cons_append, ← i2], i3⟩
      · exact .inr ⟨i1, by rw [List.cons_append, ← i2], i3⟩
theorem low_lt {k : Key} {l : List Kv} {x : Kv} (h : x ∈ low k l) : x ∈ l ∧ ltK x.1 k = true := by simpa [low, List.mem_filter] using h
theorem high_lt {k : Key} {l : List Kv} {x : Kv} (h : x ∈ high k l) : x ∈ l ∧ ltK k x.1 = true := by simpa [high, List.mem_filter] using h
theorem Srt.filter {l : List Kv} (h : Srt l) (p : Kv → Bool) : Srt (l.filter p) := List.Pairwise.filter p h
theorem Srt.low {l : List Kv} (h : Srt l) (k : Key) : Srt (low k l) := h.filter _
theorem Srt.high {l : List Kv} (h : Srt l) (k : Key) : Srt (high k l) := h.filter _
theorem Srt.put {l : List Kv} (h : Srt l) (k v : Key) : Srt (putT k v l) := by
  unfold putT
  rw [Srt.append, Srt.cons]
  refine ⟨h.low k, ⟨fun y hy => (high_lt hy).2, h.high k⟩, fun x hx y hy => ?_⟩
  rcases List.mem_cons.1 hy with rfl | hy
  · exact (low_lt hx).2
  · exact ltK_trans (low_lt hx).2 (high_lt hy).2
theorem Srt.del {l : List Kv} (h : Srt l) (k : Key) : Srt (delL k l) := by
  unfold delL
  rw [Srt.append]
  exact ⟨h.low k, h.high k, fun x hx y hy => ltK_trans (low_lt hx).2 (high_lt hy).2⟩
theorem sizeL_append (a b : List Kv) : sizeT (a ++ b) = sizeT a + sizeT b := by simp [sizeT]
theorem sizeL_cons (x : Kv) (l : List Kv) : sizeT (x :: l) = x.1.length + x.2.length + sizeT l := by simp [sizeT]
theorem sizeL_has {l : List Kv} (h : Srt l) {k : Key} (hk : hasL k l = true) : sizeT l = sizeT (delL k l) + (k.length + (getT k l).length) ∧ l.length = (delL k l).length + 1 := by
  rcases h.cut k with ⟨_, h2, _⟩ | ⟨h1, _⟩
  · unfold delL
    constructor
    · conv => lhs; rw [h2]
      rw [sizeL_append, sizeL_cons, sizeL_append]; dsimp only; omega
    · conv => lhs; rw [h2]
      simp; omega
  · rw [h1] at hk; cases hk
theorem delL_not {l : List Kv} (h : Srt l) {k : Key} (hk : hasL k l = false) : delL k l = l := by
  rcases h.cut k with ⟨h1, _⟩ | ⟨_, h2, _⟩
  · rw [h1] at hk; cases hk
  · exact h2.symm
theorem sizeL_put (k v : Key) (l : List Kv) : sizeT (putT k v l) = sizeT (delL k l) + (k.length + v.length) ∧ (putT k v l).length = (delL k l).length + 1 := by
  unfold putT delL
  rw [sizeL_append, sizeL_append, sizeL_cons]
  constructor
  · dsimp only; omega
  · simp; omega
theorem hasL_append (k : Key) (a b : List Kv) : hasL k (a ++ b) = (hasL k a || hasL k b) := List.any_append ..
theorem hasL_none {k : Key} {l : List Kv} (h : ∀ x ∈ l, x.1 ≠ k) : hasL k l = false := by
  unfold hasL; rw [List.any_eq_false]; intro x hx; simp [h x hx]
theorem hasL_mem {k : Key} {l : List Kv} (h : hasL k l = true) : (k, getT k l) ∈ l := by
  unfold hasL at h
  unfold getT
  induction l with
  | nil => simp at h
  | cons x l ih =>
    rw [List.find?_cons]
    by_cases hx : x.1 = k
    · subst hx; simp
    · have : (x.1 == k) = false := by simp [hx]
      rw [List.any_cons, this, Bool.false_or] at h
      rw [this]
      exact List.mem_cons_of_mem _ (ih h)
theorem getL_append_right {k : Key} {a b : List Kv} (h : ∀ x ∈ a, x.1 ≠ k) : getT k (a ++ b) = getT k b := by
  unfold getT
  rw [List.find?_append, List.find?_eq_none.2 (fun x hx => by simp [h x hx])]
  rfl
theorem getL_append_left {k : Key} {a b : List Kv} (h : ∀ x ∈ b, x.1 ≠ k) : getT k (a ++ b) = getT k a := by
  unfold getT
  rw [List.find?_append, List.find?_eq_none.2 (fun x hx => by simp [h x hx] : ∀ x ∈ b, ¬ (x.1 == k) = true)]
  cases List.find? (fun x => x.1 == k) a <;> rfl

/-- a list in three, the key's place in the middle one -/
theorem mid_low {k : Key} {a b c : List Kv} (ha : ∀ x ∈ a, ltK x.1 k = true) (hc : ∀ x ∈ c, ltK k x.1 = true) : low k (a ++ b ++ c) = a ++ low k b := by
  rw [low_append, low_append, low_all ha, low_none (fun x hx => ltK_asymm (hc x hx)), List.append_nil]
theorem mid_high {k : Key} {a b c : List Kv} (ha : ∀ x ∈ a, ltK x.1 k = true) (hc : ∀ x ∈ c, ltK k x.1 = true) : high k (a ++ b ++ c) = high k b ++ c := by
  rw [high_append, high_append, high_none (fun x hx => ltK_asymm (ha x hx)), high_all hc, List.nil_append]
theorem mid_put {k v : Key} {a b c : List Kv} (ha : ∀ x ∈ a, ltK x.1 k = true) (hc : ∀ x ∈ c, ltK k x.1 = true) : putT k v (a ++ b ++ c) = a ++ putT k v b ++ c := by
  unfold putT; rw [mid_low ha hc, mid_high ha hc]; simp
theorem mid_del {k : Key} {a b c : List Kv} (ha : ∀ x ∈ a, ltK x.1 k = true) (hc : ∀ x ∈ c, ltK k x.1 = true) : delL k (a ++ b ++ c) = a ++ delL k b ++ c := by
  unfold delL; rw [mid_low ha hc, mid_high ha hc]; simp
theorem mid_since {k : Key} {a b c : List Kv} (ha : ∀ x ∈ a, ltK x.1 k = true) (hc : ∀ x ∈ c, ltK k x.1 = true) : since k (a ++ b ++ c) = since k b ++ c := by
  rw [since_append, since_append, since_none ha, since_all (fun x hx => ltK_asymm (hc x hx)), List.nil_append]
theorem mid_has {k : Key} {a b c : List Kv} (ha : ∀ x ∈ a, ltK x.1 k = true) (hc : ∀ x ∈ c, ltK k x.1 = true) : hasL k (a ++ b ++ c) = hasL k b := by
  rw [hasL_append, hasL_append, hasL_none (fun x hx => ltK_ne (ha x hx)), hasL_none (fun x hx => Ne.symm (ltK_ne (hc x hx)))]; simp
theorem mid_get {k : Key} {a b c : List Kv} (ha : ∀ x ∈ a, ltK x.1 k = true) (hc : ∀ x ∈ c, ltK k x.1 = true) : getT k (a ++ b ++ c) = getT k b := by
  rw [getL_append_left (fun x hx => Ne.symm (ltK_ne (hc x hx))), getL_append_right (fun x hx => ltK_ne (ha x hx))]
end Go.Proofs.Ytnbghhdbpjgcjaa
