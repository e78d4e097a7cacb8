/-
  Lists of pairs: what two scans find, one behind the other; pairs that are put in two orders. No conditions.
-/
import Derived.Test.YtaeocbgmoijedaaTrLaw
namespace Go.Proofs.Ytaeocbgmoijedaa
open Go.RowKit

/-- two parts of a list in order, of which the one lies ahead of the other -/
theorem filter_two {p q : Kv → Bool} : ∀ (l : List Kv), l.Pairwise (fun x y => q x = true → p y = false) → (∀ x ∈ l, q x = true → p x = false) → l.filter p ++ l.filter q = l.filter (fun x => p x || q x) := by
  intro l
  induction l with
  | nil => intro _ _; rfl
  | cons x l ih =>
    intro hp hd
    rw [List.pairwise_cons] at hp
    have i1 := ih hp.2 (fun y hy => hd y (List.mem_cons_of_mem _ hy))
    cases hq : q x
    · cases hpx : p x
      · rw [List.filter_cons_of_neg (by simp [hpx]), List.filter_cons_of_neg (by simp [hq]), List.filter_cons_of_neg (by simp [hpx, hq])]
        exact i1
      · rw [List.filter_cons_of_pos hpx, List.filter_cons_of_neg (by simp [hq]), List.filter_cons_of_pos (by simp [hpx]), List.cons_append, i1]
    · have hpx := hd x (List.mem_cons_self ..) hq
      have hnone : l.filter p = [] := List.filter_eq_nil_iff.2 (fun y hy => by rw [hp.1 y hy hq]; simp)
      rw [hnone, List.nil_append] at i1
      rw [List.filter_cons_of_neg (by simp [hpx]), hnone, List.nil_append, List.filter_cons_of_pos hq, List.filter_cons_of_pos (by simp [hq]), i1]

/-- what a scan with room for all finds, up to a key -/
def upTo (to : Key) (x : Kv) : Bool := to.isEmpty || ltK x.1 to
theorem visit_upTo (to : Key) (mo : Int) : ∀ (l acc : List Kv), Srt l → (acc.length : Int) + (l.length : Int) ≤ mo → (visit to mo acc l).1 = acc ++ l.filter (upTo to) := by
  intro l
  induction l with
  | nil => intro acc _ _; rw [List.filter_nil, List.append_nil]; rfl
  | cons x r ih =>
    intro acc hs h
    rw [List.length_cons] at h
    rw [Srt.cons] at hs
    by_cases hx : upTo to x = true
    · have hsee : see to mo acc x = (acc ++ [x], decide ((acc.length : Int) + 1 < mo)) := by
        unfold see
        rw [if_neg]
        rintro ⟨h1, h2⟩
        unfold upTo at hx
        rw [h2, Bool.or_false, List.isEmpty_iff] at hx
        exact h1 hx
      rw [visit, hsee, List.filter_cons_of_pos hx]
      by_cases hlt : (acc.length : Int) + 1 < mo
      · rw [if_pos (decide_eq_true hlt), ih _ hs.2 (by rw [List.length_append, List.length_singleton]; omega), List.append_assoc]; rfl
      · rw [if_neg (by rw [decide_eq_false hlt]; simp)]
        have : r = [] := List.eq_nil_of_length_eq_zero (by omega)
        rw [this]; rfl
    · have hx2 : to ≠ [] ∧ ltK x.1 to = false := by
        unfold upTo at hx
        rw [Bool.not_eq_true, Bool.or_eq_false_iff] at hx
        exact ⟨fun e => by rw [e] at hx; simp at hx, hx.2⟩
      have hsee : see to mo acc x = (acc, false) := by unfold see; rw [if_pos hx2]
      rw [visit, hsee, List.filter_cons_of_neg hx]
      have hnone : r.filter (upTo to) = [] := List.filter_eq_nil_iff.2 (fun y hy => by
        unfold upTo
        rw [Bool.not_eq_true, Bool.or_eq_false_iff]
        refine ⟨by simpa using hx2.1, ?_⟩
        cases hyt : ltK y.1 to
        · rfl
        · rw [ltK_trans (hs.1 y hy) hyt] at hx2
          exact absurd hx2.2 (by simp))
      rw [hnone, List.append_nil, if_neg (by simp)]
theorem scan_upTo (fr to : Key) (mo : Int) (L : List Kv) (hs : Srt L) (h : (L.length : Int) ≤ mo) (h1 : 1 ≤ mo) : scanL fr to mo L = L.filter (fun x => upTo to x && !ltK x.1 fr) := by
  unfold scanL
  have hle : (since fr L).length ≤ L.length := since_length fr L
  rw [if_neg (by omega), visit_upTo to mo (since fr L) [] (hs.filter _) (by simp; omega), List.nil_append]
  unfold since
  rw [List.filter_filter]
/-- What is scanned from one key on, and from another one on behind it, is what is scanned at once. -/
theorem scan_parts (fr mid to : Key) (mo : Int) (L : List Kv) (hs : Srt L) (h : (L.length : Int) ≤ mo) (h1 : 1 ≤ mo) (hfm : ltK mid fr = false) (hmt : to = [] ∨ ltK to mid = false) (hm : mid ≠ []) :
    scanL fr mid mo L ++ scanL mid to mo L = scanL fr to mo L := by
  rw [scan_upTo fr mid mo L hs h h1, scan_upTo mid to mo L hs h h1, scan_upTo fr to mo L hs h h1]
  have um : ∀ x : Kv, upTo mid x = ltK x.1 mid := fun x => by
    unfold upTo
    have : mid.isEmpty = false := by simpa using hm
    rw [this, Bool.false_or]
  have hdis : ∀ x y : Kv, (x = y ∨ ltK x.1 y.1 = true) → (upTo to x && !ltK x.1 mid) = true → (upTo mid y && !ltK y.1 fr) = false := fun x y hxy hq => by
    rw [Bool.and_eq_true, Bool.not_eq_true'] at hq
    have : ltK y.1 mid = false := by
      rcases hxy with rfl | hxy
      · exact hq.2
      · cases hy : ltK y.1 mid
        · rfl
        · rw [ltK_trans hxy hy] at hq; exact absurd hq.2 (by simp)
    rw [um, this, Bool.false_and]
  rw [filter_two L (List.Pairwise.imp (R := fun x y : Kv => ltK x.1 y.1 = true) (fun {a b} h2 hq => hdis a b (.inr h2) hq) hs) (fun x _ hq => hdis x x (.inl rfl) hq)]
  refine List.filter_congr fun x _ => ?_
  rw [um]
  cases h3 : ltK x.1 mid
  · have h4 : ltK x.1 fr = false := by
      cases h5 : ltK x.1 fr
      · rfl
      · rw [ltK_le_trans h5 hfm] at h3; cases h3
    simp [h4]
  · have h4 : upTo to x = true := by
      unfold upTo
      rcases hmt with rfl | hmt
      · simp
      · rw [ltK_le_trans h3 hmt]; simp
    simp [h4]

/-- lists in order with the same pairs -/
theorem srt_ext : ∀ (a b : List Kv), Srt a → Srt b → (∀ x, x ∈ a ↔ x ∈ b) → a = b := by
  intro a
  induction a with
  | nil =>
    intro b _ _ h
    cases b with
    | nil => rfl
    | cons y b => exact absurd ((h y).2 (List.mem_cons_self ..)) (by simp)
  | cons x a ih =>
    intro b ha hb h
    cases b with
    | nil => exact absurd ((h x).1 (List.mem_cons_self ..)) (by simp)
    | cons y b =>
      rw [Srt.cons] at ha hb
      have hxy : x = y := by
        rcases List.mem_cons.1 ((h x).1 (List.mem_cons_self ..)) with e | hx
        · exact e
        · rcases List.mem_cons.1 ((h y).2 (List.mem_cons_self ..)) with e | hy
          · exact e.symm
          · have h1 := hb.1 x hx
            have h2 := ha.1 y hy
            rw [ltK_asymm h1] at h2
            cases h2
      subst hxy
      have hno : ∀ l : List Kv, (∀ z ∈ l, ltK x.1 z.1 = true) → x ∉ l := fun l hl hx => by
        have := hl x hx
        rw [ltK_self] at this
        cases this
      rw [ih b ha.2 hb.2 (fun z => ?_)]
      constructor
      · intro hz
        rcases List.mem_cons.1 ((h z).1 (List.mem_cons_of_mem _ hz)) with e | hz2
        · exact absurd (e ▸ hz) (hno a ha.1)
        · exact hz2
      · intro hz
        rcases List.mem_cons.1 ((h z).2 (List.mem_cons_of_mem _ hz)) with e | hz2
        · exact absurd (e ▸ hz) (hno b hb.1)
        · exact hz2
/-- what is found of a list with one pair more -/
theorem hasL_putL (k v : Key) (L : List Kv) : hasL k (putL k v L) = true := by
  unfold putL
  rw [hasL_append]
  have : hasL k ((k, v) :: high k L) = true := by unfold hasL; simp
  rw [this, Bool.or_true]
theorem getL_putL (k v : Key) (L : List Kv) : getL k (putL k v L) = v := by
  unfold putL
  rw [getL_append_right (fun x hx => ltK_ne (low_lt hx).2)]
  unfold getL
  simp
theorem mem_putL (k v : Key) (L : List Kv) (hs : Srt L) (x : Kv) : x ∈ putL k v L ↔ x = (k, v) ∨ (x ∈ L ∧ x.1 ≠ k) := by
  unfold putL
  rw [List.mem_append, List.mem_cons]
  constructor
  · rintro (h | h | h)
    · exact .inr ⟨(low_lt h).1, ltK_ne (low_lt h).2⟩
    · exact .inl h
    · exact .inr ⟨(high_lt h).1, fun e => ltK_ne (high_lt h).2 e.symm⟩
  · rintro (h | ⟨h, hne⟩)
    · exact .inr (.inl h)
    · rcases hs.cut k with ⟨_, h2, _⟩ | ⟨_, h2, _⟩
      · rw [h2, List.mem_append, List.mem_cons] at h
        rcases h with h | h | h
        · exact .inl h
        · exact absurd (by rw [h]) hne
        · exact .inr (.inr h)
      · rw [h2, List.mem_append] at h
        exact h.imp id .inr
/-- keys that are put one behind the other, each its own value -/
def putAll (l : List Key) (L : List Kv) : List Kv := l.foldl (fun L k => putL k k L) L
theorem putAll_mem : ∀ (l : List Key) (L : List Kv), Srt L → (∀ x ∈ L, x.1 = x.2) → Srt (putAll l L) ∧ ∀ x, x ∈ putAll l L ↔ x ∈ L ∨ ∃ k ∈ l, x = (k, k) := by
  intro l
  induction l with
  | nil => intro L hs _; exact ⟨hs, fun x => ⟨.inl, fun h => h.elim id (fun ⟨k, hk, _⟩ => by cases hk)⟩⟩
  | cons k l ih =>
    intro L hs hd
    have hm := mem_putL k k L hs
    have hd2 : ∀ x ∈ putL k k L, x.1 = x.2 := fun x hx => by
      rcases (hm x).1 hx with rfl | h
      · rfl
      · exact hd x h.1
    obtain ⟨i1, i2⟩ := ih (putL k k L) (hs.put k k) hd2
    refine ⟨i1, fun x => (i2 x).trans ?_⟩
    rw [hm x]
    constructor
    · rintro ((rfl | h) | ⟨j, hj, rfl⟩)
      · exact .inr ⟨k, List.mem_cons_self .., rfl⟩
      · exact .inl h.1
      · exact .inr ⟨j, List.mem_cons_of_mem _ hj, rfl⟩
    · rintro (h | ⟨j, hj, rfl⟩)
      · by_cases hx : x.1 = k
        · exact .inl (.inl (by rw [← hx]; exact Prod.ext rfl (hd x h).symm))
        · exact .inl (.inr ⟨h, hx⟩)
      · rcases List.mem_cons.1 hj with rfl | hj
        · exact .inl (.inl rfl)
        · exact .inr ⟨j, hj, rfl⟩
/-- keys that are put in two orders -/
theorem putAll_order (a b : List Key) (h : ∀ k, k ∈ a ↔ k ∈ b) : putAll a [] = putAll b [] := by
  have ha := putAll_mem a [] Srt.nil (fun x hx => by cases hx)
  have hb := putAll_mem b [] Srt.nil (fun x hx => by cases hx)
  refine srt_ext _ _ ha.1 hb.1 (fun x => ?_)
  rw [ha.2, hb.2]
  constructor
  · rintro (h1 | ⟨k, hk, rfl⟩)
    · cases h1
    · exact .inr ⟨k, (h k).1 hk, rfl⟩
  · rintro (h1 | ⟨k, hk, rfl⟩)
    · cases h1
    · exact .inr ⟨k, (h k).2 hk, rfl⟩
end Go.Proofs.Ytaeocbgmoijedaa
