/-
  What the index of a schema has: its nodes, and what stands under each. No condition.
-/
import Derived.Test.YtdnhbledndgbcaaGreatCRoEc
namespace Go.Proofs.YtdnhbledndgbcaaGreat
open Go.RowKit
def nodesT (t : Ty) : List Nk := (t.name, []) :: t.rels.map (fun r => (t.name, r.name))
def nodesS (s : Sc) : List Nk := s.flatMap nodesT
theorem knU_some {f : Kn} {x y : Nk} {r q : Rl} (h : knU f x r y = some q) : (y = x ∧ q = r) ∨ f y = some q := by
  unfold knU at h
  split at h
  · rename_i e
    injection h with h
    exact .inl ⟨e, h.symm⟩
  · exact .inr h
theorem knU_is {f : Kn} {x y : Nk} {r : Rl} : (knU f x r y).isSome = true ↔ y = x ∨ (f y).isSome = true := by
  unfold knU
  split
  · rename_i e; simp [e]
  · rename_i e; simp [e]
theorem knRels_some {n : Txt} : ∀ (rs : List Rl) (f : Kn) {y : Nk} {q : Rl}, knRels n rs f y = some q → (∃ r ∈ rs, y = (n, r.name) ∧ q = r) ∨ f y = some q
  | [], _, _, _, h => .inr h
  | r :: rs, f, y, q, h => by
    rcases knRels_some (n := n) rs (knU f (n, r.name) r) h with ⟨r', h1, h2⟩ | h1
    · exact .inl ⟨r', List.mem_cons_of_mem _ h1, h2⟩
    · rcases knU_some h1 with h2 | h2
      · exact .inl ⟨r, List.mem_cons_self .., h2⟩
      · exact .inr h2
theorem knRels_is {n : Txt} : ∀ (rs : List Rl) (f : Kn) {y : Nk}, (knRels n rs f y).isSome = true ↔ (∃ r ∈ rs, y = (n, r.name)) ∨ (f y).isSome = true
  | [], f, y => by
    show (f y).isSome = true ↔ _
    simp
  | r :: rs, f, y => by
    show (knRels n rs (knU f (n, r.name) r) y).isSome = true ↔ _
    rw [knRels_is rs, knU_is]
    constructor
    · rintro (⟨r', h1, h2⟩ | h | h)
      · exact .inl ⟨r', List.mem_cons_of_mem _ h1, h2⟩
      · exact .inl ⟨r, List.mem_cons_self .., h⟩
      · exact .inr h
    · rintro (⟨r', h1, h2⟩ | h)
      · rcases List.mem_cons.1 h1 with rfl | h1
        · exact .inr (.inl h2)
        · exact .inl ⟨r', h1, h2⟩
      · exact .inr (.inr h)
theorem knTys_some : ∀ (s : Sc) (f : Kn) {y : Nk} {q : Rl}, s.foldl knTy f y = some q → (∃ t ∈ s, (y = (t.name, []) ∧ q = noRel) ∨ ∃ r ∈ t.rels, y = (t.name, r.name) ∧ q = r) ∨ f y = some q
  | [], _, _, _, h => .inr h
  | t :: s, f, y, q, h => by
    rcases knTys_some s (knTy f t) h with ⟨t', h1, h2⟩ | h1
    · exact .inl ⟨t', List.mem_cons_of_mem _ h1, h2⟩
    · unfold knTy at h1
      rcases knRels_some _ _ h1 with h2 | h2
      · exact .inl ⟨t, List.mem_cons_self .., .inr h2⟩
      · rcases knU_some h2 with h3 | h3
        · exact .inl ⟨t, List.mem_cons_self .., .inl h3⟩
        · exact .inr h3
theorem knS_some {s : Sc} {y : Nk} {q : Rl} (h : knS s y = some q) : ∃ t ∈ s, (y = (t.name, []) ∧ q = noRel) ∨ ∃ r ∈ t.rels, y = (t.name, r.name) ∧ q = r := by
  rcases knTys_some s _ h with h | h
  · exact h
  · cases h
theorem knTys_is : ∀ (s : Sc) (f : Kn) {y : Nk}, (s.foldl knTy f y).isSome = true ↔ y ∈ nodesS s ∨ (f y).isSome = true
  | [], f, y => by
    show (f y).isSome = true ↔ _
    simp [nodesS]
  | t :: s, f, y => by
    show (s.foldl knTy (knTy f t) y).isSome = true ↔ _
    rw [knTys_is s]
    unfold knTy
    rw [knRels_is, knU_is]
    unfold nodesS
    rw [List.flatMap_cons, List.mem_append]
    unfold nodesT
    rw [List.mem_cons, List.mem_map]
    constructor
    · rintro (h | ⟨r, h1, h2⟩ | h | h)
      · exact .inl (.inr h)
      · exact .inl (.inl (.inr ⟨r, h1, h2.symm⟩))
      · exact .inl (.inl (.inl h))
      · exact .inr h
    · rintro (((h | ⟨r, h1, h2⟩) | h) | h)
      · exact .inr (.inr (.inl h))
      · exact .inr (.inl ⟨r, h1, h2.symm⟩)
      · exact .inl h
      · exact .inr (.inr (.inr h))
theorem knS_is {s : Sc} {y : Nk} : (knS s y).isSome = true ↔ y ∈ nodesS s := by
  unfold knS
  rw [knTys_is]
  simp
theorem nodup_le {α : Type} [DecidableEq α] : ∀ (l1 l2 : List α), l1.Nodup → (∀ x ∈ l1, x ∈ l2) → l1.length ≤ l2.length
  | [], _, _, _ => Nat.zero_le _
  | x :: r, l2, hn, h => by
    obtain ⟨h1, h2⟩ := List.nodup_cons.1 hn
    have hx := h x (List.mem_cons_self ..)
    have h3 := nodup_le r (l2.erase x) h2 (fun y hy => (List.mem_erase_of_ne (fun e => h1 (by rw [← e]; exact hy))).2 (h y (List.mem_cons_of_mem _ hy)))
    have h4 := List.length_erase_of_mem hx
    have h5 := List.length_pos_of_mem hx
    rw [List.length_cons]
    omega
theorem KnAt.keys_is {W : World} {F : Nat → Prop} {b : Nat} {L : List (Nk × Value)} {kn : Kn} (h : KnAt W F b L kn) (x : Nk) : x ∈ L.map (·.1) ↔ (kn x).isSome = true := by
  constructor
  · intro hx
    cases hk : kn x with
    | some r => rfl
    | none =>
      have := h.no x hk
      exact absurd hx (lookK_none.1 this)
  · intro hx
    cases hk : kn x with
    | none => rw [hk] at hx; cases hx
    | some r =>
      obtain ⟨cs, h1, _⟩ := h.yes x r hk
      exact List.mem_map_of_mem (f := (·.1)) ((lookK_mem h.map.keys).1 h1)
theorem KnAt.len_le {W : World} {F : Nat → Prop} {b : Nat} {L : List (Nk × Value)} {s : Sc} (h : KnAt W F b L (knS s)) : L.length ≤ (nodesS s).length := by
  have := nodup_le (L.map (·.1)) (nodesS s) h.map.keys (fun x hx => knS_is.1 ((h.keys_is x).1 hx))
  rwa [List.length_map] at this
theorem KnAt.len_eq {W : World} {F : Nat → Prop} {b : Nat} {L : List (Nk × Value)} {s : Sc} (h : KnAt W F b L (knS s)) (hn : (nodesS s).Nodup) : L.length = (nodesS s).length := by
  have h1 := h.len_le
  have h2 := nodup_le (nodesS s) (L.map (·.1)) hn (fun x hx => (h.keys_is x).2 (knS_is.2 hx))
  rw [List.length_map] at h2
  omega
theorem nodesS_le : ∀ (s : Sc), (∀ t ∈ s, t.rels.length ≤ 16) → (nodesS s).length ≤ 17 * s.length
  | [], _ => by simp [nodesS]
  | t :: s, h => by
    have h1 := nodesS_le s (fun t ht => h t (List.mem_cons_of_mem _ ht))
    have h2 := h t (List.mem_cons_self ..)
    unfold nodesS at h1 ⊢
    have h3 : (nodesT t).length = t.rels.length + 1 := by simp [nodesT]
    rw [List.flatMap_cons, List.length_append, List.length_cons]
    omega
theorem ftN_ok {f : Nat → Nat} : ∀ (l : Sc) (i : Nat), (ftN f l i).2.2 = 0 → ∀ j, j < l.length → f (i + j) = 0
  | [], _, _, j, hj => absurd hj (by simp)
  | x :: r, i, h, j, hj => by
    unfold ftN at h
    split at h
    · rename_i e; exact absurd h e
    · rename_i e
      cases j with
      | zero => exact Classical.byContradiction e
      | succ j =>
        have := ftN_ok r (i + 1) h j (by simpa using hj)
        rwa [show i + 1 + j = i + (j + 1) by omega] at this
theorem sizes_ok {s : Sc} (h : (sizesN s).2.2 = 0) : s.length ≠ 0 ∧ mayS s = true ∧ s.length ≤ 16 ∧ ∀ t ∈ s, t.rels.length ≤ 16 := by
  unfold sizesN at h
  split at h
  · cases h
  · rename_i h1
    split at h
    · cases h
    · rename_i h2
      refine ⟨fun e => h1 (.inl e), ?_, by omega, fun t ht => ?_⟩
      · cases hm : mayS s
        · exact absurd (.inr hm) h1
        · rfl
      · obtain ⟨i, hi, rfl⟩ := List.mem_iff_getElem.1 ht
        have := ftN_ok s 0 h i hi
        rw [Nat.zero_add] at this
        unfold bigT at this
        rw [ofT_at hi] at this
        split at this
        · cases this
        · omega
theorem knS_refs {s : Sc} {n : Nat} (h : ∀ t ∈ s, ∀ r ∈ t.rels, r.refs.length ≤ n) (x : Nk) : ((knS s x).getD noRel).refs.length ≤ n := by
  cases hk : knS s x with
  | none => exact Nat.zero_le _
  | some q =>
    obtain ⟨t, ht, ⟨_, rfl⟩ | ⟨r, hr, _, rfl⟩⟩ := knS_some hk
    · exact Nat.zero_le _
    · exact h t ht _ hr
end Go.Proofs.YtdnhbledndgbcaaGreat
