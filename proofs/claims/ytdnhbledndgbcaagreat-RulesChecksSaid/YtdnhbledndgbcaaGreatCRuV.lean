/-
  A schema whose names are each of one thing: what its index has, by the document's numbers. No condition.
  The program's faults as the document's lists: names that stand for two things. No condition.
  The program's faults are the document's. No condition.
  Levels as lists, as the document's rules make them: what a relation leans on; levels raised, again and again, as far as they are too low; they are the greatest weights of ways, or above how many relations there are. No program is named.
-/
import Derived.Test.YtdnhbledndgbcaaGreatCRoXm
import Derived.Test.YtdnhbledndgbcaaGreatCRuP
import Derived.Test.YtdnhbledndgbcaaGreatCRuT
namespace Go.Proofs.YtdnhbledndgbcaaGreat
open Go.RowKit
structure Dist (s : Sc) : Prop where
  ty : ∀ i j (hi : i < s.length) (hj : j < s.length), s[i].name = s[j].name → i = j
  rl : ∀ i (hi : i < s.length) j k (hj : j < s[i].rels.length) (hk : k < s[i].rels.length), s[i].rels[j].name = s[i].rels[k].name → j = k
  ne : ∀ i (hi : i < s.length) j (hj : j < s[i].rels.length), s[i].rels[j].name ≠ []
theorem atN_some {α : Type} {p : α → Bool} : ∀ {l : List α} {i : Nat} {k : Int}, atN p l i = k → 0 ≤ k → ∃ j, ∃ h : j < l.length, k = ((i + j : Nat) : Int) ∧ p l[j] = true
  | [], _, _, h, h0 => by
    have h : (-1 : Int) = _ := h
    omega
  | x :: r, i, k, h, h0 => by
    rw [atN] at h
    by_cases hx : p x = true
    · rw [if_pos hx] at h
      exact ⟨0, by simp, by omega, hx⟩
    · rw [if_neg hx] at h
      obtain ⟨j, hj, e1, e2⟩ := atN_some h h0
      exact ⟨j + 1, by simpa using hj, by omega, e2⟩
theorem atN_none {α : Type} {p : α → Bool} {l : List α} {i : Nat} (h : atN p l i < 0) : ∀ x ∈ l, p x = false := by
  intro x hx
  cases hp : p x with
  | false => rfl
  | true =>
    have := (atN_any p l i).2 (List.any_eq_true.2 ⟨x, hx, hp⟩)
    omega
theorem atN_le {α : Type} {p : α → Bool} : ∀ {l : List α} {i j : Nat} (h : j < l.length), p l[j] = true → 0 ≤ atN p l i ∧ atN p l i ≤ ((i + j : Nat) : Int)
  | x :: r, i, 0, _, hp => by
    rw [atN, if_pos (by simpa using hp)]
    omega
  | x :: r, i, j + 1, h, hp => by
    rw [atN]
    split
    · omega
    · have := atN_le (p := p) (l := r) (i := i + 1) (j := j) (by simpa using h) (by simpa using hp)
      omega
theorem typN_some {s : Sc} {n : Txt} (h : 0 ≤ typN s n) : ∃ j, ∃ hj : j < s.length, typN s n = (j : Int) ∧ s[j].name = n := by
  obtain ⟨j, hj, h1, h2⟩ := atN_some (k := typN s n) rfl h
  exact ⟨j, hj, by rw [h1, Nat.zero_add], by simpa using h2⟩
theorem typN_no_mem {s : Sc} {n : Txt} (h : typN s n < 0) : ∀ t ∈ s, t.name ≠ n := fun t ht => by
  have := atN_none (p := fun (t : Ty) => decide (t.name = n)) h t ht
  simpa using this
theorem relsN_some {rs : List Rl} {n : Txt} (h : 0 ≤ relsN rs n) : ∃ j, ∃ hj : j < rs.length, relsN rs n = (j : Int) ∧ rs[j].name = n := by
  obtain ⟨j, hj, h1, h2⟩ := atN_some (k := relsN rs n) rfl h
  exact ⟨j, hj, by rw [h1, Nat.zero_add], by simpa using h2⟩
theorem relsN_no_mem {rs : List Rl} {n : Txt} (h : relsN rs n < 0) : ∀ r ∈ rs, r.name ≠ n := fun r hr => by
  have := atN_none (p := fun (r : Rl) => decide (r.name = n)) h r hr
  simpa using this
theorem relN_some {s : Sc} {n o : Txt} (h : 0 ≤ relN s (typN s n) o) : ∃ i k, ∃ hi : i < s.length, ∃ hk : k < s[i].rels.length, typN s n = (i : Int) ∧ relN s (typN s n) o = (k : Int) ∧ s[i].name = n ∧ s[i].rels[k].name = o := by
  by_cases ht : typN s n < 0
  · unfold relN at h
    rw [ofT_neg ht] at h
    have h : (0 : Int) ≤ -1 := h
    omega
  · obtain ⟨i, hi, h1, h2⟩ := typN_some (s := s) (n := n) (by omega)
    unfold relN at h ⊢
    rw [h1, ofT_at hi] at h ⊢
    obtain ⟨k, hk, h3, h4⟩ := relsN_some h
    exact ⟨i, k, hi, hk, rfl, h3, h2, h4⟩
theorem relN_no {s : Sc} {n o : Txt} (h : relN s (typN s n) o < 0) (hd : Dist s) : ∀ t ∈ s, t.name = n → ∀ r ∈ t.rels, r.name ≠ o := by
  intro t ht hn r hr
  obtain ⟨i, hi, rfl⟩ := List.mem_iff_getElem.1 ht
  have h1 : ¬ typN s n < 0 := fun h1 => typN_no_mem h1 _ ht hn
  obtain ⟨i', hi', h2, h3⟩ := typN_some (s := s) (n := n) (by omega)
  have := hd.ty i i' hi hi' (hn.trans h3.symm)
  subst this
  unfold relN at h
  rw [h2, ofT_at hi] at h
  exact relsN_no_mem h r hr
theorem Dist.typ {s : Sc} (hd : Dist s) {i : Nat} (hi : i < s.length) : typN s s[i].name = (i : Int) := by
  have h1 : ¬ typN s s[i].name < 0 := fun h1 => typN_no_mem h1 _ (List.getElem_mem hi) rfl
  obtain ⟨i', hi', h2, h3⟩ := typN_some (s := s) (n := s[i].name) (by omega)
  have := hd.ty i' i hi' hi h3
  subst this
  exact h2
theorem Dist.rel {s : Sc} (hd : Dist s) {i k : Nat} (hi : i < s.length) (hk : k < s[i].rels.length) : relN s (i : Int) s[i].rels[k].name = (k : Int) := by
  unfold relN
  rw [ofT_at hi]
  have h1 : ¬ relsN s[i].rels s[i].rels[k].name < 0 := fun h1 => relsN_no_mem h1 _ (List.getElem_mem hk) rfl
  obtain ⟨k', hk', h2, h3⟩ := relsN_some (rs := s[i].rels) (n := s[i].rels[k].name) (by omega)
  have := hd.rl i hi k' k hk' hk h3
  subst this
  exact h2
theorem Dist.knT {s : Sc} (hd : Dist s) (n : Txt) : knS s (n, []) = if typN s n < 0 then none else some noRel := by
  split
  · rename_i h
    cases hk : knS s (n, []) with
    | none => rfl
    | some q =>
      obtain ⟨t, ht, h1 | ⟨r, hr, h1⟩⟩ := knS_some hk
      · injection h1.1 with h1
        exact absurd h1.symm (typN_no_mem h t ht)
      · injection h1.1 with h1
        exact absurd h1.symm (typN_no_mem h t ht)
  · rename_i h
    obtain ⟨i, hi, h1, h2⟩ := typN_some (s := s) (n := n) (by omega)
    have h3 : (knS s (n, [])).isSome = true := knS_is.2 (by
      unfold nodesS
      exact List.mem_flatMap.2 ⟨s[i], List.getElem_mem hi, by unfold nodesT; rw [h2]; exact List.mem_cons_self ..⟩)
    cases hk : knS s (n, []) with
    | none => rw [hk] at h3; cases h3
    | some q =>
      obtain ⟨t, ht, h4 | ⟨r, hr, h4⟩⟩ := knS_some hk
      · rw [h4.2]
      · injection h4.1 with _ h5
        obtain ⟨i, hi, rfl⟩ := List.mem_iff_getElem.1 ht
        obtain ⟨k, hk, rfl⟩ := List.mem_iff_getElem.1 hr
        exact absurd h5.symm (hd.ne i hi k hk)
theorem Dist.knR {s : Sc} (hd : Dist s) (n o : Txt) (ho : o ≠ []) : knS s (n, o) = if relN s (typN s n) o < 0 then none else some (relAt s (typN s n) (relN s (typN s n) o)) := by
  split
  · rename_i h
    cases hk : knS s (n, o) with
    | none => rfl
    | some q =>
      obtain ⟨t, ht, h1 | ⟨r, hr, h1⟩⟩ := knS_some hk
      · injection h1.1 with _ h1
        exact absurd h1 ho
      · injection h1.1 with h1 h2
        exact absurd h2.symm (relN_no h hd t ht h1.symm r hr)
  · rename_i h
    obtain ⟨i, k, hi, hk, h1, h2, h3, h4⟩ := relN_some (s := s) (n := n) (o := o) (by omega)
    have h5 : (knS s (n, o)).isSome = true := knS_is.2 (by
      unfold nodesS
      exact List.mem_flatMap.2 ⟨s[i], List.getElem_mem hi, by unfold nodesT; exact List.mem_cons_of_mem _ (List.mem_map.2 ⟨s[i].rels[k], List.getElem_mem hk, by rw [h3, h4]⟩)⟩)
    have h6 : relAt s (typN s n) (relN s (typN s n) o) = s[i].rels[k] := by rw [h2, h1, relAt_at hi hk]
    rw [h6]
    cases hq : knS s (n, o) with
    | none => rw [hq] at h5; cases h5
    | some q =>
      obtain ⟨t, ht, h7 | ⟨r, hr, h7⟩⟩ := knS_some hq
      · injection h7.1 with _ h7
        exact absurd h7 ho
      · obtain ⟨i', hi', rfl⟩ := List.mem_iff_getElem.1 ht
        obtain ⟨k', hk', rfl⟩ := List.mem_iff_getElem.1 hr
        injection h7.1 with h8 h9
        have := hd.ty i i' hi hi' (h3.trans h8)
        subst this
        have := hd.rl i hi k k' hk hk' (h4.trans h9)
        subst this
        rw [h7.2]
theorem Dist.kn {s : Sc} (hd : Dist s) {i k : Nat} (hi : i < s.length) (hk : k < s[i].rels.length) : knS s (s[i].name, s[i].rels[k].name) = some s[i].rels[k] := by
  rw [hd.knR _ _ (hd.ne i hi k hk), hd.typ hi, hd.rel hi hk, if_neg (by omega), relAt_at hi hk]
theorem Dist.nodup {s : Sc} (hd : Dist s) : (nodesS s).Nodup := by
  unfold nodesS
  rw [List.nodup_iff_pairwise_ne, List.pairwise_flatMap]
  refine ⟨fun t ht => ?_, List.pairwise_iff_getElem.2 (fun i j hi hj hij x hx y hy e => ?_)⟩
  · obtain ⟨i, hi, rfl⟩ := List.mem_iff_getElem.1 ht
    unfold nodesT
    refine List.pairwise_cons.2 ⟨fun y hy e => ?_, List.pairwise_map.2 (List.pairwise_iff_getElem.2 (fun j k hj hk hjk e => ?_))⟩
    · obtain ⟨r, hr, rfl⟩ := List.mem_map.1 hy
      obtain ⟨k, hk, rfl⟩ := List.mem_iff_getElem.1 hr
      injection e with _ e
      exact hd.ne i hi k hk e.symm
    · injection e with _ e
      have := hd.rl i hi j k hj hk e
      omega
  · have h1 : ∀ (t : Ty) (z : Nk), z ∈ nodesT t → z.1 = t.name := fun t z hz => by
      unfold nodesT at hz
      rcases List.mem_cons.1 hz with rfl | hz
      · rfl
      · obtain ⟨r, _, rfl⟩ := List.mem_map.1 hz
        rfl
    have := hd.ty i j hi hj ((h1 _ _ hx).symm.trans ((congrArg (·.1) e).trans (h1 _ _ hy)))
    omega
end Go.Proofs.YtdnhbledndgbcaaGreat
namespace Go.Proofs.YtdnhbledndgbcaaGreat
open Go.RowKit
def wfF (z : Fa) : Prop := z = (0, 0, 0) ∨ z.2.2 ≠ 0
theorem ftN_wf {f : Nat → Nat} : ∀ (l : Sc) (i : Nat), wfF (ftN f l i)
  | [], _ => .inl rfl
  | x :: r, i => by
    unfold ftN
    split
    · rename_i h; exact .inr h
    · exact ftN_wf r (i + 1)
theorem frRow_wf {f : Nat → Nat} {t : Nat} : ∀ (rs : List Rl) (k : Nat) (z : Fa), frRow f t rs k = some z → z.2.2 ≠ 0
  | [], _, _, h => nomatch h
  | x :: r, k, z, h => by
    unfold frRow at h
    split at h
    · rename_i e
      injection h with h
      rw [← h]
      exact e
    · exact frRow_wf r (k + 1) z h
theorem frN_wf {f : Nat → Nat → Nat} : ∀ (l : Sc) (t : Nat), wfF (frN f l t)
  | [], _ => .inl rfl
  | x :: r, t => by
    unfold frN
    split
    · rename_i q h; exact .inr (frRow_wf _ _ _ h)
    · exact frN_wf r (t + 1)
theorem orFs_two {a b : Fa} (ha : wfF a) (hb : wfF b) : wfF (orFs [a, b]) ∧ ((orFs [a, b]).2.2 = 0 → a = (0, 0, 0) ∧ b = (0, 0, 0)) := by
  unfold orFs
  split
  · rename_i h
    unfold orFs
    split
    · rename_i h2
      exact ⟨.inl (by unfold orFs; rfl), fun _ => ⟨h, h2⟩⟩
    · rename_i h2
      exact ⟨hb, fun h3 => ⟨h, hb.elim id (fun h4 => absurd h3 h4)⟩⟩
  · rename_i h
    exact ⟨ha, fun h3 => absurd (ha.elim id (fun h4 => absurd h3 h4)) h⟩
theorem frRow_zero {f : Nat → Nat} {t : Nat} : ∀ (rs : List Rl) (k : Nat), frRow f t rs k = none → ∀ b, b < rs.length → f (k + b) = 0
  | [], _, _, b, hb => absurd hb (by simp)
  | x :: r, k, h, b, hb => by
    unfold frRow at h
    split at h
    · cases h
    · rename_i e
      cases b with
      | zero => exact Classical.byContradiction e
      | succ b =>
        have := frRow_zero r (k + 1) h b (by simpa using hb)
        rwa [show k + 1 + b = k + (b + 1) by omega] at this
theorem frN_zero {f : Nat → Nat → Nat} : ∀ (l : Sc) (t : Nat), (frN f l t).2.2 = 0 → ∀ a (ha : a < l.length) b, b < l[a].rels.length → f (t + a) b = 0
  | [], _, _, a, ha, _, _ => absurd ha (by simp)
  | x :: r, t, h, a, ha, b, hb => by
    unfold frN at h
    split at h
    · rename_i q hq; exact absurd h (frRow_wf _ _ _ hq)
    · rename_i hq
      cases a with
      | zero =>
        have := frRow_zero _ _ hq b hb
        rwa [Nat.zero_add] at this
      | succ a =>
        have := frN_zero r (t + 1) h a (by simpa using ha) b (by simpa using hb)
        rwa [show t + 1 + a = t + (a + 1) by omega] at this
theorem any_take {α : Type} {p : α → Bool} {l : List α} {i : Nat} (hi : i < l.length) (hp : p l[i] = true) : (l.take i).any p = decide (atN p l 0 < (i : Int)) := by
  have h0 := atN_le (i := 0) hi hp
  by_cases h : atN p l 0 < (i : Int)
  · rw [decide_eq_true h]
    obtain ⟨j, hj, h1, h2⟩ := atN_some (p := p) (l := l) (i := 0) rfl h0.1
    exact List.any_eq_true.2 ⟨l[j], by rw [List.mem_take_iff_getElem]; exact ⟨j, by omega, rfl⟩, h2⟩
  · rw [decide_eq_false h]
    rw [Bool.eq_false_iff]
    intro hx
    obtain ⟨x, hx, hpx⟩ := List.any_eq_true.1 hx
    rw [List.mem_take_iff_getElem] at hx
    obtain ⟨j, hj, rfl⟩ := hx
    have := atN_le (i := 0) (p := p) (l := l) (j := j) (by omega) hpx
    omega
theorem repT_is {s : Sc} {i : Nat} (hi : i < s.length) : repT s i = if decide (typN s s[i].name < (i : Int)) = true then 7 else 0 := by
  unfold repT
  rw [nameT_at hi, any_take (p := fun (t : Ty) => decide (t.name = s[i].name)) hi (by simp)]
  rfl
theorem repR_is {s : Sc} {i k : Nat} (hi : i < s.length) (hk : k < s[i].rels.length) : repR s i k = if decide (relsN s[i].rels s[i].rels[k].name < (k : Int)) = true then 7 else 0 := by
  unfold repR
  rw [ofT_at hi, nameR_at hk, any_take (p := fun (r : Rl) => decide (r.name = s[i].rels[k].name)) hk (by simp)]
  rfl
theorem dist_of {s : Sc} (h : (repN s).2.2 = 0) (hm : mayS s = true) : Dist s := by
  unfold repN at h
  obtain ⟨_, h2⟩ := orFs_two (ftN_wf (f := repT s) s 0) (frN_wf (f := repR s) s 0)
  obtain ⟨h3, h4⟩ := h2 h
  refine ⟨?_, ?_, fun i hi j hj => ?_⟩
  · have key : ∀ i j (hi : i < s.length) (hj : j < s.length), s[i].name = s[j].name → ¬ i < j := fun i j hi hj e hij => by
      have h5 := ftN_ok s 0 (by rw [h3]) j hj
      rw [Nat.zero_add, repT_is hj] at h5
      have h6 := atN_le (i := 0) (p := fun (t : Ty) => decide (t.name = s[j].name)) hi (by simpa using e)
      have h7 : typN s s[j].name < (j : Int) := by
        show atN _ s 0 < _
        omega
      rw [if_pos (decide_eq_true h7)] at h5
      cases h5
    intro i j hi hj e
    have h1 := key i j hi hj e
    have h2 := key j i hj hi e.symm
    omega
  · have key : ∀ i (hi : i < s.length) j k (hj : j < s[i].rels.length) (hk : k < s[i].rels.length), s[i].rels[j].name = s[i].rels[k].name → ¬ j < k := fun i hi j k hj hk e hjk => by
      have h5 := frN_zero s 0 (by rw [h4]) i hi k hk
      rw [Nat.zero_add, repR_is hi hk] at h5
      have h6 := atN_le (i := 0) (p := fun (r : Rl) => decide (r.name = s[i].rels[k].name)) hj (by simpa using e)
      have h7 : relsN s[i].rels s[i].rels[k].name < (k : Int) := by
        show atN _ s[i].rels 0 < _
        omega
      rw [if_pos (decide_eq_true h7)] at h5
      cases h5
    intro i hi j k hj hk e
    have h1 := key i hi j k hj hk e
    have h2 := key i hi k j hk hj e.symm
    omega
  · have h5 : mayT s[i] = true := List.all_eq_true.1 hm _ (List.getElem_mem hi)
    unfold mayT at h5
    rw [Bool.and_eq_true] at h5
    have h6 : mayR s[i].rels[j] = true := List.all_eq_true.1 h5.2 _ (List.getElem_mem hj)
    unfold mayR at h6
    rw [Bool.and_eq_true] at h6
    intro e
    have := (nameL_len h6.1).1
    rw [e] at this
    simp at this
end Go.Proofs.YtdnhbledndgbcaaGreat
namespace Go.Proofs.YtdnhbledndgbcaaGreat
open Go.RowKit
theorem orEs_append : ∀ (l m : List Nat), orEs (l ++ m) = if orEs l ≠ 0 then orEs l else orEs m
  | [], m => by
    show orEs m = _
    unfold orEs
    simp
  | a :: r, m => by
    rw [List.cons_append, orEs, orEs_append r m]
    by_cases h : a = 0
    · rw [if_pos h]
      have : orEs (a :: r) = orEs r := by rw [orEs, if_pos h]
      rw [this]
    · rw [if_neg h]
      have : orEs (a :: r) = a := by rw [orEs, if_neg h]
      rw [this, if_pos h]
theorem orEs_one (a : Nat) : orEs [a] = a := by
  unfold orEs
  split
  · rename_i h; rw [h]; rfl
  · rfl
theorem nameL_ne {n : Txt} (h : nameL n = true) : n ≠ [] := fun e => by
  have := (nameL_len h).1
  rw [e] at this
  simp at this
theorem overR_is {s : Sc} (hd : Dist s) {o : Txt} (ho : o ≠ []) (r : Rf) : overR (knS s) o r = if decide (r.2 = []) && decide (0 ≤ relN s (typN s r.1) o) then some (r.1, o) else none := by
  unfold overR
  have h1 : (knS s (r.1, o)).isSome = decide (0 ≤ relN s (typN s r.1) o) := by
    rw [hd.knR _ _ ho]
    split
    · rename_i h
      rw [decide_eq_false (by omega)]; rfl
    · rename_i h
      rw [decide_eq_true (by omega)]; rfl
  rw [h1]
  by_cases h2 : r.2 = []
  · by_cases h3 : 0 ≤ relN s (typN s r.1) o
    · rw [if_pos ⟨h2, decide_eq_true h3⟩, if_pos (by rw [decide_eq_true h2, decide_eq_true h3]; rfl)]
    · rw [if_neg (fun h => by have := of_decide_eq_true h.2; exact h3 this), if_neg (by rw [decide_eq_false h3]; simp)]
  · rw [if_neg (fun h => h2 h.1), if_neg (by rw [decide_eq_false h2]; simp)]
theorem filterMap_none {α β : Type} {f : α → Option β} {p : α → Bool} {g : α → β} (h : ∀ x, f x = if p x then some (g x) else none) : ∀ l : List α, ((l.filterMap f).length = 0) ↔ l.any p = false
  | [] => by simp
  | x :: r => by
    rw [List.filterMap_cons, h x, List.any_cons]
    cases hp : p x with
    | true => simp
    | false =>
      have := filterMap_none h r
      simpa using this
theorem leaf_is {s : Sc} (hd : Dist s) {t : Nat} (ht : t < s.length) {k : Int} {n o : Txt} (hk : k = 0 ∨ k = 1) (hn : n ≠ []) (ho : k = 1 → o ≠ []) : leaf3 (knS s) s[t].name k n o = leafN s t k n o := by
  unfold leaf3 leafN
  rw [hd.knR _ _ hn, hd.typ ht]
  dsimp only
  by_cases h : relN s (t : Int) n < 0
  · rw [if_pos h, if_pos h]
  · rw [if_neg h, if_neg h]
    dsimp only
    rcases hk with rfl | rfl
    · rw [if_neg (by decide), if_pos rfl]
    · rw [if_pos rfl, if_neg (show ¬ ((1 : Int) = 0) by decide)]
      by_cases h2 : (relAt s (t : Int) (relN s (t : Int) n)).refs.length = 0
      · rw [if_pos h2, if_pos h2]
      · rw [if_neg h2, if_neg h2]
        have h3 : overK (knS s) (s[t].name, n) o = (relAt s (t : Int) (relN s (t : Int) n)).refs.filterMap (overR (knS s) o) := by
          unfold overK
          rw [hd.knR _ _ hn, hd.typ ht, if_neg h]
          rfl
        rw [h3]
        have h4 := filterMap_none (overR_is hd (ho rfl)) (relAt s (t : Int) (relN s (t : Int) n)).refs
        cases h5 : (relAt s (t : Int) (relN s (t : Int) n)).refs.any (fun r => decide (r.2 = []) && decide (0 ≤ relN s (typN s r.1) o)) with
        | true => rw [if_neg (fun h => by rw [h4.1 h] at h5; cases h5), if_pos rfl]
        | false => rw [if_pos (h4.2 h5), if_neg (by decide)]
theorem chk_is {s : Sc} (hd : Dist s) {t : Nat} (ht : t < s.length) (e : Ex) : ∀ (m : Int) (st : Nat), mayE e m = true → orEs ((lvsE e st).map (fun p => leafK (knS s) s[t].name p.1)) = chkE s t e := by
  refine Ex.all (P := fun e => ∀ (m : Int) (st : Nat), mayE e m = true → orEs ((lvsE e st).map (fun p => leafK (knS s) s[t].name p.1)) = chkE s t e) (fun k n o ks ih m st hm => ?_) e
  unfold mayE at hm
  split at hm
  · cases hm
  · rename_i hk
    unfold lvsE chkE
    split at hm
    · rename_i hk1
      rw [Bool.and_eq_true, Bool.and_eq_true] at hm
      obtain ⟨h1, h2, h3⟩ := hm
      have h2 : ks.length = 0 := by simpa using h2
      have hks : ks = [] := List.length_eq_zero_iff.1 h2
      subst hks
      have hkk : k = 0 ∨ k = 1 := by omega
      rw [if_pos (show ([] : List Ex).length = 0 from rfl)]
      show orEs [leaf3 (knS s) s[t].name k n o] = _
      rw [orEs_one, leaf_is hd ht hkk (nameL_ne h1) (fun e => by
        rw [e] at h3
        exact nameL_ne (by simpa using h3))]
      unfold chkL
      simp
    · rename_i hk1
      rw [Bool.and_eq_true] at hm
      have h2 : ks.length = 2 := of_decide_eq_true hm.1
      rw [if_neg (by omega), if_pos (show 0 < ks.length by omega)]
      have hL : ∀ (l : List Ex), (∀ x ∈ l, x ∈ ks) → ∀ i, mayL l (m - 1) = true → orEs ((lvsL k l i st).map (fun p => leafK (knS s) s[t].name p.1)) = chkL s t l := by
        intro l
        induction l with
        | nil => intro _ _ _; unfold lvsL chkL; rfl
        | cons x r ihr =>
          intro hs i hml
          unfold mayL at hml
          rw [Bool.and_eq_true] at hml
          unfold lvsL chkL
          rw [List.map_append, orEs_append, ih x (hs x (List.mem_cons_self ..)) _ _ hml.1, ihr (fun y hy => hs y (List.mem_cons_of_mem _ hy)) (i + 1) hml.2]
      rw [hL ks (fun _ h => h) 0 hm.2]
      split
      · rfl
      · rename_i h; exact Classical.byContradiction h
theorem any_eq {α : Type} {p q : α → Bool} {l : List α} (h : ∀ x ∈ l, p x = q x) : l.any p = l.any q := by
  induction l with
  | nil => rfl
  | cons x r ih => rw [List.any_cons, List.any_cons, h x (List.mem_cons_self ..), ih (fun y hy => h y (List.mem_cons_of_mem _ hy))]
theorem ref_is {s : Sc} (hd : Dist s) (r : Rf) : unkR (knS s) r = refN s r := by
  obtain ⟨a, c⟩ := r
  unfold unkR refN
  dsimp only
  by_cases hc : c = []
  · subst hc
    rw [hd.knT]
    by_cases h : typN s a < 0
    · rw [if_pos h, decide_eq_true h]; rfl
    · rw [if_neg h, decide_eq_false h]; rfl
  · rw [hd.knR _ _ hc]
    by_cases h : typN s a < 0
    · have h2 : relN s (typN s a) c < 0 := by
        unfold relN
        rw [ofT_neg h]
        show (-1 : Int) < 0
        omega
      rw [if_pos h2, decide_eq_true h]; rfl
    · by_cases h2 : relN s (typN s a) c < 0
      · rw [if_pos h2, decide_eq_true h2, decide_eq_true hc]; simp
      · rw [if_neg h2, decide_eq_false h2, decide_eq_false h]; simp
theorem names_is {s : Sc} (hd : Dist s) {t : Nat} (ht : t < s.length) (x : Rl) (hm : mayR x = true) : unkRel (knS s) s[t].name x = namesN s t x := by
  unfold unkRel namesN
  rw [any_eq (fun r _ => ref_is hd r)]
  by_cases h : x.refs.length = 0
  · have hx : x.refs = [] := List.length_eq_zero_iff.1 h
    rw [if_pos h, if_pos h, hx]
    rw [if_neg (by simp)]
    unfold mayR at hm
    rw [Bool.and_eq_true, Bool.and_eq_true, Bool.or_eq_true] at hm
    rcases hm.2.2 with h1 | h1
    · have := of_decide_eq_true h1
      omega
    · exact chk_is hd ht x.expr 12 0 h1
  · rw [if_neg h, if_neg h]
theorem ftN_first {f : Nat → Nat} {p : Nat → Ty → Bool} {e : Nat} (he : e ≠ 0) : ∀ (l : Sc) (i : Nat), (∀ j (h : j < l.length), f (i + j) = if p (i + j) l[j] then e else 0) → ftN f l i = orF (numF e (firstN p l i)) (0, 0, 0)
  | [], _, _ => rfl
  | x :: r, i, h => by
    have h0 := h 0 (by simp)
    unfold ftN firstN
    cases hp : p i x with
    | true =>
      have h0 : f i = e := by simpa [hp] using h0
      rw [if_pos (by rw [h0]; exact he), h0]
      rfl
    | false =>
      have h0 : f i = 0 := by simpa [hp] using h0
      rw [if_neg (by rw [h0]; simp)]
      rw [ftN_first he r (i + 1) (fun j hj => by
        have := h (j + 1) (by simpa using hj)
        rw [show i + 1 + j = i + (j + 1) by omega]
        simpa using this)]
      rfl
theorem frRow_first {f : Nat → Nat} {t : Nat} {p : Nat → Rl → Bool} {e : Nat} (he : e ≠ 0) : ∀ (l : List Rl) (i : Nat), (∀ j (h : j < l.length), f (i + j) = if p (i + j) l[j] then e else 0) → frRow f t l i = (firstN p l i).map (fun k => ((t : Int), (k : Int), e))
  | [], _, _ => rfl
  | x :: r, i, h => by
    have h0 := h 0 (by simp)
    unfold frRow firstN
    cases hp : p i x with
    | true =>
      have h0 : f i = e := by simpa [hp] using h0
      rw [if_pos (by rw [h0]; exact he), h0]
      rfl
    | false =>
      have h0 : f i = 0 := by simpa [hp] using h0
      rw [if_neg (by rw [h0]; simp)]
      rw [frRow_first he r (i + 1) (fun j hj => by
        have := h (j + 1) (by simpa using hj)
        rw [show i + 1 + j = i + (j + 1) by omega]
        simpa using this)]
      rfl
theorem frN_twice {f : Nat → Nat → Nat} : ∀ (l : Sc) (t : Nat), (∀ a (ha : a < l.length) b (hb : b < l[a].rels.length), f (t + a) b = if decide (relsN l[a].rels l[a].rels[b].name < (b : Int)) = true then 7 else 0) → frN f l t = orF (twiceTs t l) (0, 0, 0)
  | [], _, _ => rfl
  | x :: r, t, h => by
    unfold frN twiceTs
    have h1 : frRow (f t) t x.rels 0 = (twiceR x.rels).map (fun k => ((t : Int), (k : Int), 7)) := by
      unfold twiceR
      refine frRow_first (p := fun k r => decide (relsN x.rels r.name < k)) (by decide) x.rels 0 (fun j hj => ?_)
      have := h 0 (by simp) j hj
      rw [Nat.zero_add]
      simpa using this
    rw [h1]
    cases twiceR x.rels with
    | some k => rfl
    | none => exact frN_twice r (t + 1) (fun a ha b hb => by
        have := h (a + 1) (by simpa using ha) b (by simpa using hb)
        rw [show t + 1 + a = t + (a + 1) by omega]
        simpa using this)
theorem frRow_bad {s : Sc} {f : Nat → Nat} {t : Nat} : ∀ (l : List Rl) (i : Nat), (∀ j (h : j < l.length), f (i + j) = namesN s t l[j]) → frRow f t l i = badR s t l i
  | [], _, _ => rfl
  | x :: r, i, h => by
    have h0 := h 0 (by simp)
    rw [Nat.add_zero] at h0
    simp only [List.getElem_cons_zero] at h0
    unfold frRow badR
    rw [h0, frRow_bad r (i + 1) (fun j hj => by
        have := h (j + 1) (by simpa using hj)
        rw [show i + 1 + j = i + (j + 1) by omega]
        simpa using this)]
theorem frN_bad {s : Sc} {f : Nat → Nat → Nat} : ∀ (l : Sc) (t : Nat), (∀ a (ha : a < l.length) b (hb : b < l[a].rels.length), f (t + a) b = namesN s (t + a) l[a].rels[b]) → frN f l t = orF (badT s l t) (0, 0, 0)
  | [], _, _ => rfl
  | x :: r, t, h => by
    unfold frN badT
    rw [frRow_bad x.rels 0 (s := s) (fun j hj => by
      have := h 0 (by simp) j hj
      rw [Nat.zero_add]
      simpa using this)]
    cases badR s t x.rels 0 with
    | some k => rfl
    | none => exact frN_bad r (t + 1) (fun a ha b hb => by
        have := h (a + 1) (by simpa using ha) b (by simpa using hb)
        rw [show t + 1 + a = t + (a + 1) by omega]
        simpa using this)
theorem sizes_is (s : Sc) : sizesN s = if mayS s = false ∨ s.length = 0 then (0, -1, 1) else if 16 < s.length then (0, -1, 2) else orF (numF 2 (firstN (fun _ (x : Ty) => decide (16 < x.rels.length)) s 0)) (0, 0, 0) := by
  unfold sizesN
  have h1 : (s.length = 0 ∨ mayS s = false) ↔ (mayS s = false ∨ s.length = 0) := Or.comm
  rw [ftN_first (p := fun _ (x : Ty) => decide (16 < x.rels.length)) (e := 2) (by decide) s 0 (fun j hj => by
    unfold bigT
    rw [Nat.zero_add, ofT_at hj]
    by_cases h : 16 < s[j].rels.length <;> simp [h])]
  by_cases h : mayS s = false ∨ s.length = 0
  · rw [if_pos h, if_pos (h1.2 h)]
  · rw [if_neg h, if_neg (fun h2 => h (h1.1 h2))]
theorem rep_is (s : Sc) : repN s = orFs [orF (numF 7 (firstN (fun i (x : Ty) => decide (typN s x.name < i)) s 0)) (0, 0, 0), orF (twiceTs 0 s) (0, 0, 0)] := by
  unfold repN
  rw [ftN_first (p := fun i (x : Ty) => decide (typN s x.name < i)) (e := 7) (by decide) s 0 (fun j hj => by
    rw [Nat.zero_add, repT_is hj]), frN_twice s 0 (fun a ha b hb => by rw [Nat.zero_add, repR_is ha hb])]
theorem unk_is {s : Sc} (hd : Dist s) (hm : mayS s = true) : unkS (knS s) s = orF (badT s s 0) (0, 0, 0) := by
  unfold unkS
  rw [frN_bad s 0 (fun a ha b hb => by
    rw [Nat.zero_add]
    unfold unkF
    rw [nameT_at ha, relAt_at ha hb]
    refine names_is hd ha _ ?_
    have h5 : mayT s[a] = true := List.all_eq_true.1 hm _ (List.getElem_mem ha)
    unfold mayT at h5
    rw [Bool.and_eq_true] at h5
    exact List.all_eq_true.1 h5.2 _ (List.getElem_mem hb))]
theorem orFs_orF {q : Option Fa} (h : ∀ z, q = some z → z.2.2 ≠ 0) (l : List Fa) : orFs (orF q (0, 0, 0) :: l) = orF q (orFs l) := by
  cases q with
  | none => show orFs ((0, 0, 0) :: l) = orFs l; rw [orFs, if_pos rfl]
  | some z =>
    show orFs (z :: l) = z
    rw [orFs, if_neg (fun e => h z rfl (by rw [e]))]
theorem numF_wf {e : Nat} (he : e ≠ 0) (t : Option Nat) : ∀ z, numF e t = some z → z.2.2 ≠ 0 := by
  intro z hz
  unfold numF at hz
  cases t with
  | none => cases hz
  | some k =>
    injection hz with hz
    rw [← hz]
    exact he
theorem twiceTs_wf : ∀ (l : Sc) (t : Nat) (z : Fa), twiceTs t l = some z → z.2.2 ≠ 0
  | [], _, _, h => nomatch h
  | x :: r, t, z, h => by
    unfold twiceTs at h
    split at h
    · injection h with h
      rw [← h]
      show (7 : Nat) ≠ 0
      decide
    · exact twiceTs_wf r (t + 1) z h
theorem badR_wf {s : Sc} {t : Nat} : ∀ (l : List Rl) (k : Nat) (z : Fa), badR s t l k = some z → z.2.2 ≠ 0
  | [], _, _, h => nomatch h
  | x :: r, k, z, h => by
    unfold badR at h
    split at h
    · rename_i e
      injection h with h
      rw [← h]
      exact e
    · exact badR_wf r (k + 1) z h
theorem badT_wf {s : Sc} : ∀ (l : Sc) (t : Nat) (z : Fa), badT s l t = some z → z.2.2 ≠ 0
  | [], _, _, h => nomatch h
  | x :: r, t, z, h => by
    unfold badT at h
    split at h
    · rename_i f hf
      injection h with h
      rw [← h]
      exact badR_wf _ _ _ hf
    · exact badT_wf r (t + 1) z h
theorem plain_is (s : Sc) : plainN s = if (sizesN s).2.2 ≠ 0 then sizesN s else namesF s := by
  rw [plain_eq, sizes_is]
  by_cases h : mayS s = false ∨ s.length = 0
  · rw [if_pos h, if_pos h, if_pos (by decide)]
  · rw [if_neg h, if_neg h]
    by_cases h2 : 16 < s.length
    · rw [if_pos h2, if_pos h2, if_pos (by decide)]
    · rw [if_neg h2, if_neg h2]
      unfold plain1
      have hw := numF_wf (e := 2) (by decide) (firstN (fun _ (x : Ty) => decide (16 < x.rels.length)) s 0)
      cases hq : numF 2 (firstN (fun _ (x : Ty) => decide (16 < x.rels.length)) s 0) with
      | some z =>
        show z = if z.2.2 ≠ 0 then z else _
        rw [if_pos (hw z hq)]
      | none =>
        show plain2 s = if ((0, 0, 0) : Fa).2.2 ≠ 0 then _ else _
        rw [if_neg (by decide)]
        have hm : mayS s = true := by
          cases hm : mayS s with
          | true => rfl
          | false => exact absurd (.inl hm) h
        unfold namesF plain2 plain3 plain4
        have hr := rep_is s
        rw [orFs_orF (numF_wf (by decide) _), orFs_orF (twiceTs_wf s 0)] at hr
        have hnil : orFs [] = (0, 0, 0) := by unfold orFs; rfl
        rw [hnil] at hr
        cases hq2 : numF 7 (firstN (fun i (x : Ty) => decide (typN s x.name < i)) s 0) with
        | some z =>
          rw [hq2] at hr
          have hr : repN s = z := hr
          rw [hr, orFs, if_neg (fun e => numF_wf (e := 7) (by decide) _ z hq2 (by rw [e]))]
          rfl
        | none =>
          rw [hq2] at hr
          have hr : repN s = orF (twiceTs 0 s) (0, 0, 0) := hr
          show orF (twiceTs 0 s) _ = _
          cases hq3 : twiceTs 0 s with
          | some z =>
            rw [hq3] at hr
            have hr : repN s = z := hr
            rw [hr, orFs, if_neg (fun e => twiceTs_wf s 0 z hq3 (by rw [e]))]
            rfl
          | none =>
            rw [hq3] at hr
            have hr : repN s = (0, 0, 0) := hr
            have hd := dist_of (s := s) (by rw [hr]) hm
            rw [hr, unk_is hd hm, orFs, if_pos rfl, orFs_orF (badT_wf s 0), hnil]
            rfl
end Go.Proofs.YtdnhbledndgbcaaGreat
namespace Go.Proofs.YtdnhbledndgbcaaGreat
open Go.RowKit
abbrev Nd := Nat × Nat
abbrev Ln := Nd × Bool
abbrev Lv2 := List (List Nat)
def lvG (l : Lv2) (x : Nd) : Nat := (l.getD x.1 []).getD x.2 0
def lvS (l : Lv2) (x : Nd) (v : Nat) : Lv2 := l.set x.1 ((l.getD x.1 []).set x.2 v)
def lvH (l : Lv2) (x : Nd) : Prop := x.1 < l.length ∧ x.2 < (l.getD x.1 []).length
theorem lvG_set {l : Lv2} {x : Nd} {v : Nat} (h : lvH l x) (y : Nd) : lvG (lvS l x v) y = if y = x then v else lvG l y := by
  obtain ⟨x1, x2⟩ := x
  obtain ⟨y1, y2⟩ := y
  obtain ⟨h1, h2⟩ := h
  dsimp only at h1 h2
  unfold lvG lvS
  dsimp only
  by_cases e1 : y1 = x1
  · subst e1
    have hs : (l.set y1 ((l.getD y1 []).set x2 v)).getD y1 [] = (l.getD y1 []).set x2 v := by
      simp [List.getD_eq_getElem?_getD, h1]
    rw [hs]
    by_cases e2 : y2 = x2
    · subst e2
      rw [if_pos rfl]
      simp only [List.getD_eq_getElem?_getD] at h2 ⊢
      rw [List.getElem?_set_self (by simpa using h2)]; rfl
    · rw [if_neg (by intro e; injection e with _ e; exact e2 e)]
      simp only [List.getD_eq_getElem?_getD]
      rw [List.getElem?_set_ne (Ne.symm e2)]
  · rw [if_neg (by intro e; injection e with e _; exact e1 e)]
    simp only [List.getD_eq_getElem?_getD]
    rw [List.getElem?_set_ne (Ne.symm e1)]
theorem lvH_set {l : Lv2} {x y : Nd} {v : Nat} (h : lvH l y) : lvH (lvS l x v) y := by
  obtain ⟨h1, h2⟩ := h
  refine ⟨by simpa [lvS] using h1, ?_⟩
  unfold lvS
  by_cases e : y.1 = x.1
  · have hs : (l.set x.1 ((l.getD x.1 []).set x.2 v)).getD y.1 [] = (l.getD x.1 []).set x.2 v := by
      rw [e]; simp [List.getD_eq_getElem?_getD, e ▸ h1]
    rw [hs, List.length_set, ← e]; exact h2
  · simp only [List.getD_eq_getElem?_getD] at h2 ⊢
    rw [List.getElem?_set_ne (Ne.symm e)]; exact h2
def leastL (l : Lv2) (c : Ln) : Nat := lvG l c.1 + (if c.2 then 1 else 0)
def raise1 (top : Nat) (x : Nd) (s : Lv2 × Bool) (c : Ln) : Lv2 × Bool := if lvG s.1 x < leastL s.1 c ∧ lvG s.1 x ≤ top then (lvS s.1 x (leastL s.1 c), true) else s
abbrev Rw := Nd × List Ln
def raiseR (top : Nat) (s : Lv2 × Bool) (r : Rw) : Lv2 × Bool := r.2.foldl (raise1 top r.1) s
def raisedL (w : List Rw) (l : Lv2) : Lv2 × Bool := w.foldl (raiseR w.length) (l, false)
def levN (w : List Rw) : Nat → Lv2 → Lv2
  | 0, l => l
  | n + 1, l => if (raisedL w l).2 then levN w n (raisedL w l).1 else (raisedL w l).1
inductive Way (w : List Rw) : Nd → Nat → Prop where
  | nil (x : Nd) : Way w x 0
  | cons {x : Nd} {ls : List Ln} {c : Ln} {n : Nat} (h : (x, ls) ∈ w) (hc : c ∈ ls) (hn : Way w c.1 n) : Way w x (n + (if c.2 then 1 else 0))
def LvOk (w : List Rw) (l : Lv2) : Prop := (∀ r ∈ w, lvH l r.1 ∧ ∀ c ∈ r.2, lvH l c.1) ∧ ∀ x, Way w x (lvG l x)
theorem raise1_ok {w : List Rw} {top : Nat} {r : Rw} {c : Ln} {s : Lv2 × Bool} (hr : r ∈ w) (hc : c ∈ r.2) (h : LvOk w s.1) : LvOk w (raise1 top r.1 s c).1 := by
  unfold raise1
  split
  · refine ⟨fun q hq => ⟨lvH_set (h.1 q hq).1, fun d hd => lvH_set ((h.1 q hq).2 d hd)⟩, fun x => ?_⟩
    rw [lvG_set (h.1 r hr).1]
    split
    · rename_i e
      subst e
      exact Way.cons (ls := r.2) hr hc (h.2 c.1)
    · exact h.2 x
  · exact h
theorem raiseR_ok {w : List Rw} {top : Nat} {r : Rw} (hr : r ∈ w) : ∀ (ls : List Ln) (s : Lv2 × Bool), (∀ c ∈ ls, c ∈ r.2) → LvOk w s.1 → LvOk w (ls.foldl (raise1 top r.1) s).1
  | [], _, _, h => h
  | c :: ls, _, hs, h => raiseR_ok hr ls _ (fun d hd => hs d (List.mem_cons_of_mem _ hd)) (raise1_ok hr (hs c (List.mem_cons_self ..)) h)
theorem raised_ok {w : List Rw} {top : Nat} : ∀ (rs : List Rw) (s : Lv2 × Bool), (∀ r ∈ rs, r ∈ w) → LvOk w s.1 → LvOk w (rs.foldl (raiseR top) s).1
  | [], _, _, h => h
  | r :: rs, s, hs, h => raised_ok rs _ (fun d hd => hs d (List.mem_cons_of_mem _ hd)) (raiseR_ok (hs r (List.mem_cons_self ..)) r.2 s (fun _ h => h) h)
theorem raise1_true (top : Nat) (x : Nd) (c : Ln) (l : Lv2) : (raise1 top x (l, true) c).2 = true := by unfold raise1; split <;> rfl
theorem raiseR_true (top : Nat) (x : Nd) : ∀ (ls : List Ln) (s : Lv2 × Bool), s.2 = true → (ls.foldl (raise1 top x) s).2 = true
  | [], _, h => h
  | c :: ls, s, h => raiseR_true top x ls _ (by obtain ⟨l, b⟩ := s; cases h; exact raise1_true top x c l)
theorem raised_true (top : Nat) : ∀ (rs : List Rw) (s : Lv2 × Bool), s.2 = true → (rs.foldl (raiseR top) s).2 = true
  | [], _, h => h
  | r :: rs, s, h => raised_true top rs _ (raiseR_true top r.1 r.2 s h)
theorem raiseR_still {top : Nat} {x : Nd} : ∀ (ls : List Ln) (l : Lv2), (ls.foldl (raise1 top x) (l, false)).2 = false → ls.foldl (raise1 top x) (l, false) = (l, false) ∧ ∀ c ∈ ls, ¬ (lvG l x < leastL l c ∧ lvG l x ≤ top)
  | [], l, _ => ⟨rfl, fun c hc => by cases hc⟩
  | c :: ls, l, h => by
    rw [List.foldl_cons] at h ⊢
    by_cases hc : lvG l x < leastL l c ∧ lvG l x ≤ top
    · have e : raise1 top x (l, false) c = (lvS l x (leastL l c), true) := if_pos hc
      rw [e, raiseR_true top x ls _ rfl] at h; cases h
    · have e : raise1 top x (l, false) c = (l, false) := if_neg hc
      rw [e] at h ⊢
      obtain ⟨h1, h2⟩ := raiseR_still ls l h
      exact ⟨h1, fun d hd => (List.mem_cons.1 hd).elim (fun e => e ▸ hc) (h2 d)⟩
theorem raised_still {top : Nat} : ∀ (rs : List Rw) (l : Lv2), (rs.foldl (raiseR top) (l, false)).2 = false → rs.foldl (raiseR top) (l, false) = (l, false) ∧ ∀ r ∈ rs, ∀ c ∈ r.2, ¬ (lvG l r.1 < leastL l c ∧ lvG l r.1 ≤ top)
  | [], l, _ => ⟨rfl, fun r hr => by cases hr⟩
  | r :: rs, l, h => by
    rw [List.foldl_cons] at h ⊢
    by_cases hb : (raiseR top (l, false) r).2 = true
    · rw [raised_true top rs _ hb] at h; cases h
    · obtain ⟨h1, h2⟩ := raiseR_still r.2 l (by simpa [raiseR] using hb)
      have e : raiseR top (l, false) r = (l, false) := h1
      rw [e] at h ⊢
      obtain ⟨h3, h4⟩ := raised_still rs l h
      exact ⟨h3, fun q hq => (List.mem_cons.1 hq).elim (fun e => e ▸ h2) (h4 q)⟩
theorem way_le {w : List Rw} {top : Nat} {l : Lv2} (h : ∀ r ∈ w, ∀ c ∈ r.2, ¬ (lvG l r.1 < leastL l c ∧ lvG l r.1 ≤ top)) : ∀ {x : Nd} {n : Nat}, Way w x n → lvG l x ≤ top → n ≤ lvG l x := by
  intro x n hw
  induction hw with
  | nil x => intro _; omega
  | cons hr hc _ ih =>
    rename_i x ls c n _
    intro ht
    have h1 := h (x, ls) hr c hc
    unfold leastL at h1
    dsimp only at h1
    have := ih (by omega)
    omega
def sumL (w : List Rw) (l : Lv2) : List Rw → Nat
  | [] => 0
  | r :: rs => min (lvG l r.1) (w.length + 1) + sumL w l rs
theorem sumL_le (w : List Rw) (l : Lv2) : ∀ rs : List Rw, sumL w l rs ≤ rs.length * (w.length + 1)
  | [] => by simp [sumL]
  | r :: rs => by
    have := sumL_le w l rs
    have h := Nat.min_le_right (lvG l r.1) (w.length + 1)
    rw [sumL, List.length_cons, Nat.succ_mul]
    omega
theorem sumL_mono (w : List Rw) {l m : Lv2} (h : ∀ y, lvG l y ≤ lvG m y) : ∀ rs : List Rw, sumL w l rs ≤ sumL w m rs
  | [] => by simp [sumL]
  | r :: rs => by
    have := sumL_mono w h rs
    have := h r.1
    rw [sumL, sumL]
    omega
theorem sumL_lt (w : List Rw) {l m : Lv2} (h : ∀ y, lvG l y ≤ lvG m y) {x : Nd} (hx : lvG l x < lvG m x) (ht : lvG l x ≤ w.length) : ∀ rs : List Rw, (∃ r ∈ rs, r.1 = x) → sumL w l rs < sumL w m rs
  | [], ⟨_, hr, _⟩ => by cases hr
  | r :: rs, ⟨q, hq, e⟩ => by
    have h1 := sumL_mono w h rs
    have h2 := h r.1
    rw [sumL, sumL]
    rcases List.mem_cons.1 hq with rfl | hq
    · rw [e]; omega
    · have := sumL_lt w h hx ht rs ⟨q, hq, e⟩
      omega
def Up (w : List Rw) (s t : Lv2 × Bool) : Prop := (∀ y, lvG s.1 y ≤ lvG t.1 y) ∧ (t.2 = true → s.2 = true ∨ sumL w s.1 w < sumL w t.1 w)
theorem Up.refl (w : List Rw) (s : Lv2 × Bool) : Up w s s := ⟨fun _ => Nat.le_refl _, fun h => .inl h⟩
theorem Up.trans {w : List Rw} {s t u : Lv2 × Bool} (h : Up w s t) (k : Up w t u) : Up w s u := by
  refine ⟨fun y => Nat.le_trans (h.1 y) (k.1 y), fun hu => ?_⟩
  rcases k.2 hu with h1 | h1
  · rcases h.2 h1 with h2 | h2
    · exact .inl h2
    · have := sumL_mono w k.1 w
      exact .inr (by omega)
  · have := sumL_mono w h.1 w
    exact .inr (by omega)
theorem raise1_up {w : List Rw} {r : Rw} {c : Ln} {s : Lv2 × Bool} (hr : r ∈ w) (h : LvOk w s.1) : Up w s (raise1 w.length r.1 s c) := by
  unfold raise1
  split
  · rename_i hc
    have hy : ∀ y, lvG s.1 y ≤ lvG (lvS s.1 r.1 (leastL s.1 c)) y := fun y => by
      rw [lvG_set (h.1 r hr).1]
      split
      · rename_i e; rw [e]; omega
      · exact Nat.le_refl _
    refine ⟨hy, fun _ => .inr (sumL_lt w hy (x := r.1) ?_ hc.2 w ⟨r, hr, rfl⟩)⟩
    rw [lvG_set (h.1 r hr).1, if_pos rfl]
    exact hc.1
  · exact Up.refl w s
theorem raiseR_up {w : List Rw} {r : Rw} (hr : r ∈ w) : ∀ (ls : List Ln) (s : Lv2 × Bool), (∀ c ∈ ls, c ∈ r.2) → LvOk w s.1 → Up w s (ls.foldl (raise1 w.length r.1) s)
  | [], s, _, _ => Up.refl w s
  | c :: ls, _, hs, h => (raise1_up hr h).trans (raiseR_up hr ls _ (fun d hd => hs d (List.mem_cons_of_mem _ hd)) (raise1_ok hr (hs c (List.mem_cons_self ..)) h))
theorem raised_up {w : List Rw} : ∀ (rs : List Rw) (s : Lv2 × Bool), (∀ r ∈ rs, r ∈ w) → LvOk w s.1 → Up w s (rs.foldl (raiseR w.length) s)
  | [], s, _, _ => Up.refl w s
  | r :: rs, s, hs, h => (raiseR_up (hs r (List.mem_cons_self ..)) r.2 s (fun _ h => h) h).trans (raised_up rs _ (fun d hd => hs d (List.mem_cons_of_mem _ hd)) (raiseR_ok (hs r (List.mem_cons_self ..)) r.2 s (fun _ h => h) h))
theorem lev_end {w : List Rw} : ∀ (n : Nat) (l : Lv2), LvOk w l → w.length * (w.length + 1) < n + sumL w l w → LvOk w (levN w n l) ∧ ∀ r ∈ w, ∀ c ∈ r.2, ¬ (lvG (levN w n l) r.1 < leastL (levN w n l) c ∧ lvG (levN w n l) r.1 ≤ w.length)
  | 0, l, _, h => by have := sumL_le w l w; omega
  | n + 1, l, hl, h => by
    rw [levN]
    by_cases hb : (raisedL w l).2 = true
    · rw [if_pos hb]
      refine lev_end n _ (raised_ok w _ (fun _ h => h) hl) ?_
      rcases (raised_up w (l, false) (fun _ h => h) hl).2 hb with h1 | h1
      · cases h1
      · have : sumL w l w < sumL w (raisedL w l).1 w := h1
        omega
    · rw [if_neg hb]
      have h2 := raised_still w l (by simpa [raisedL] using hb)
      have e : raisedL w l = (l, false) := h2.1
      rw [e]
      exact ⟨hl, h2.2⟩
theorem lev_is {w : List Rw} {l : Lv2} (hl : LvOk w l) (hw : w.length ≤ 256) (x : Nd) :
    Way w x (lvG (levN w 70000 l) x) ∧ (lvG (levN w 70000 l) x ≤ w.length → ∀ n, Way w x n → n ≤ lvG (levN w 70000 l) x) := by
  have hb : w.length * (w.length + 1) ≤ 256 * 257 := Nat.mul_le_mul hw (by omega)
  obtain ⟨h1, h2⟩ := lev_end 70000 l hl (by omega)
  exact ⟨h1.2 x, fun ht n hn => way_le h2 hn ht⟩
end Go.Proofs.YtdnhbledndgbcaaGreat
