/-
  Texts of objects, subjects and tuples: what is read is shown as it was, and what is shown is read as it was. No program is named.
-/
import Derived.Test.YtnbghhdbpjgcjaaNmShow
namespace Go.Proofs.Ytnbghhdbpjgcjaa
open Go.RowKit

theorem nm_byte {c : UInt8} (h : nmB c = true) : c ≠ 58 ∧ c ≠ 35 ∧ c ≠ 64 := by
  refine ⟨?_, ?_, ?_⟩ <;> (rintro rfl; revert h; decide)
theorem id_byte {c : UInt8} (h : idB c = true) : c ≠ 58 ∧ c ≠ 35 ∧ c ≠ 64 := by
  refine ⟨?_, ?_, ?_⟩ <;> (rintro rfl; revert h; decide)
theorem name_all {l : Txt} (h : nameL l = true) : ∀ c ∈ l, c ≠ 58 ∧ c ≠ 35 ∧ c ≠ 64 := by
  unfold nameL at h
  simp only [Bool.and_eq_true] at h
  exact fun c hc => nm_byte (List.all_eq_true.1 h.2.2 c hc)
theorem id_all {l : Txt} (h : idL l = true) : ∀ c ∈ l, c ≠ 58 ∧ c ≠ 35 ∧ c ≠ 64 := by
  unfold idL at h
  simp only [Bool.and_eq_true] at h
  exact fun c hc => id_byte (List.all_eq_true.1 h.2 c hc)
theorem name_nil : nameL [] = false := by decide
theorem not_in {l : Txt} {x : UInt8} (h : ∀ c ∈ l, c ≠ x) : x ∉ l := fun hx => h x hx rfl
/-- what an object's text is -/
theorem objL_some {l : Txt} {a b : Txt} (h : objL l = some (a, b)) : nameL a = true ∧ idL b = true ∧ l = a ++ 58 :: b := by
  unfold objL at h
  by_cases hc : ((cutL l 58).2.2 && nameL (cutL l 58).1 && idL (cutL l 58).2.1) = true
  · rw [if_pos hc] at h
    simp only [Option.some.injEq, Prod.mk.injEq] at h
    obtain ⟨rfl, rfl⟩ := h
    simp only [Bool.and_eq_true] at hc
    obtain ⟨⟨h1, h2⟩, h3⟩ := hc
    exact ⟨h2, h3, (cutL_true (Prod.ext rfl (Prod.ext rfl h1))).1⟩
  · rw [if_neg hc] at h; cases h
theorem objL_of {a b : Txt} (h1 : nameL a = true) (h2 : idL b = true) : objL (a ++ 58 :: b) = some (a, b) := by
  have e := cutL_app a b 58 (not_in (fun c hc => (name_all h1 c hc).1))
  unfold objL
  rw [e]; simp [h1, h2]
theorem objL_nil : objL [] = none := by decide
theorem showO_of {a b : Txt} (h1 : nameL a = true) (h2 : idL b = true) : showO a b = a ++ 58 :: b := by
  unfold showO; rw [h1, h2]; rfl
theorem showO_ne {a b : Txt} (h : showO a b ≠ []) : nameL a = true ∧ idL b = true := by
  unfold showO at h
  by_cases hc : (nameL a && idL b) = true
  · simpa using hc
  · rw [if_neg hc] at h; exact absurd rfl h
theorem obj_back {l a b : Txt} (h : objL l = some (a, b)) : showO a b = l := by
  obtain ⟨h1, h2, h3⟩ := objL_some h
  rw [showO_of h1 h2, h3]
theorem obj_read {a b : Txt} (h : showO a b ≠ []) : objL (showO a b) = some (a, b) := by
  obtain ⟨h1, h2⟩ := showO_ne h
  rw [showO_of h1 h2]; exact objL_of h1 h2
theorem showO_pos {a b : Txt} (h1 : nameL a = true) (h2 : idL b = true) : showO a b ≠ [] := by
  rw [showO_of h1 h2]; simp
theorem obj_bytes {a b : Txt} (h1 : nameL a = true) (h2 : idL b = true) : ∀ c ∈ a ++ 58 :: b, c ≠ 35 ∧ c ≠ 64 := by
  intro c hc
  rw [List.mem_append, List.mem_cons] at hc
  rcases hc with hc | rfl | hc
  · exact (name_all h1 c hc).2
  · decide
  · exact (id_all h2 c hc).2
/-- what a subject's text is -/
theorem subL_some {l a b r : Txt} (h : subL l = some (a, b, r)) : nameL a = true ∧ idL b = true ∧ ((r = [] ∧ l = a ++ 58 :: b) ∨ (nameL r = true ∧ l = (a ++ 58 :: b) ++ 35 :: r)) := by
  unfold subL at h
  rcases hO : objL (cutL l 35).1 with _ | ⟨x, y⟩
  · rw [hO] at h; cases h
  · rw [hO] at h
    simp only at h
    by_cases hc : (!(cutL l 35).2.2 || nameL (cutL l 35).2.1) = true
    · rw [if_pos hc] at h
      simp only [Option.some.injEq, Prod.mk.injEq] at h
      obtain ⟨rfl, rfl, rfl⟩ := h
      obtain ⟨h1, h2, h3⟩ := objL_some hO
      refine ⟨h1, h2, ?_⟩
      cases hb : (cutL l 35).2.2
      · obtain ⟨e1, e2, _⟩ := cutL_false (l := l) (c := 35) (Prod.ext rfl (Prod.ext rfl hb))
        exact .inl ⟨e2, e1.symm.trans h3⟩
      · rw [hb] at hc
        refine .inr ⟨by simpa using hc, ?_⟩
        rw [← h3]
        exact (cutL_true (l := l) (c := 35) (Prod.ext rfl (Prod.ext rfl hb))).1
    · rw [if_neg hc] at h; cases h
theorem cutL_plain {l : Txt} {c : UInt8} (h : c ∉ l) : cutL l c = (l, [], false) := cutL_none l c (fun _ hj e => h (e ▸ List.getElem_mem hj))
theorem subL_obj {a b : Txt} (h1 : nameL a = true) (h2 : idL b = true) : subL (a ++ 58 :: b) = some (a, b, []) := by
  have e := cutL_plain (l := a ++ 58 :: b) (c := 35) (not_in (fun c hc => (obj_bytes h1 h2 c hc).1))
  unfold subL
  rw [e, objL_of h1 h2]; rfl
theorem subL_rel {a b r : Txt} (h1 : nameL a = true) (h2 : idL b = true) (h3 : nameL r = true) : subL ((a ++ 58 :: b) ++ 35 :: r) = some (a, b, r) := by
  have e := cutL_app (a ++ 58 :: b) r 35 (not_in (fun c hc => (obj_bytes h1 h2 c hc).1))
  unfold subL
  rw [e, objL_of h1 h2]; simp [h3]
theorem subL_nil : subL [] = none := by decide
theorem showS_obj {a b : Txt} (h1 : nameL a = true) (h2 : idL b = true) : showS a b [] = a ++ 58 :: b := by
  unfold showS; rw [if_pos (.inr rfl), showO_of h1 h2]
theorem showS_rel {a b r : Txt} (h1 : nameL a = true) (h2 : idL b = true) (h3 : nameL r = true) : showS a b r = (a ++ 58 :: b) ++ 35 :: r := by
  have hr : r ≠ [] := by rintro rfl; rw [name_nil] at h3; cases h3
  unfold showS; rw [if_neg (fun h => h.elim (showO_pos h1 h2) hr), if_pos h3, showO_of h1 h2]; rfl
theorem showS_ne {a b r : Txt} (h : showS a b r ≠ []) : nameL a = true ∧ idL b = true ∧ (r = [] ∨ nameL r = true) := by
  unfold showS at h
  by_cases hc : showO a b = [] ∨ r = []
  · rw [if_pos hc] at h
    obtain ⟨h1, h2⟩ := showO_ne h
    exact ⟨h1, h2, .inl (hc.resolve_left h)⟩
  · rw [if_neg hc] at h
    by_cases h3 : nameL r = true
    · obtain ⟨h1, h2⟩ := showO_ne (fun e => hc (.inl e))
      exact ⟨h1, h2, .inr h3⟩
    · rw [if_neg h3] at h; exact absurd rfl h
theorem sub_back {l a b r : Txt} (h : subL l = some (a, b, r)) : showS a b r = l := by
  obtain ⟨h1, h2, h3⟩ := subL_some h
  rcases h3 with ⟨rfl, h3⟩ | ⟨h3, h4⟩
  · rw [showS_obj h1 h2, h3]
  · rw [showS_rel h1 h2 h3, h4]
theorem sub_read {a b r : Txt} (h : showS a b r ≠ []) : subL (showS a b r) = some (a, b, r) := by
  obtain ⟨h1, h2, h3⟩ := showS_ne h
  rcases h3 with rfl | h3
  · rw [showS_obj h1 h2]; exact subL_obj h1 h2
  · rw [showS_rel h1 h2 h3]; exact subL_rel h1 h2 h3
theorem sub_bytes {a b r : Txt} (h1 : nameL a = true) (h2 : idL b = true) (h3 : nameL r = true) : (64 : UInt8) ∉ (a ++ 58 :: b) ++ 35 :: r := by
  apply not_in
  intro c hc
  rw [List.mem_append, List.mem_cons] at hc
  rcases hc with hc | rfl | hc
  · exact (obj_bytes h1 h2 c hc).2
  · decide
  · exact (name_all h3 c hc).2.2
theorem subL_at {l : Txt} (h : (subL l).isSome = true) : (64 : UInt8) ∉ l := by
  rcases hs : subL l with _ | ⟨a, b, r⟩
  · rw [hs] at h; cases h
  · obtain ⟨h1, h2, h3⟩ := subL_some hs
    rcases h3 with ⟨rfl, rfl⟩ | ⟨h3, rfl⟩
    · exact not_in (fun c hc => (obj_bytes h1 h2 c hc).2)
    · exact sub_bytes h1 h2 h3
/-- what a tuple's text is -/
theorem tupL_some {l : Txt} {t : Tup} (h : tupL l = some t) : nameL t.1 = true ∧ idL t.2.1 = true ∧ nameL t.2.2.1 = true ∧ (64 : UInt8) ∈ l ∧
    ∃ u, subL u = some t.2.2.2 ∧ l = ((t.1 ++ 58 :: t.2.1) ++ 35 :: t.2.2.1) ++ 64 :: u := by
  unfold tupL at h
  by_cases hc : ((cutL l 64).2.2 && ((cutL (cutL l 64).1 35).2.2 && ((objL (cutL (cutL l 64).1 35).1).isSome && ((subL (cutL l 64).2.1).isSome && nameL (cutL (cutL l 64).1 35).2.1)))) = true
  · rw [if_pos hc] at h
    simp only [Bool.and_eq_true] at hc
    obtain ⟨c1, c2, c3, c4, c5⟩ := hc
    obtain ⟨o, ho⟩ := Option.isSome_iff_exists.1 c3
    obtain ⟨s, hs⟩ := Option.isSome_iff_exists.1 c4
    rw [ho, hs] at h
    simp only [Option.some.injEq, Option.getD_some] at h
    subst h
    obtain ⟨h1, h2, h3⟩ := objL_some (a := o.1) (b := o.2) ho
    have e1 := (cutL_true (l := l) (c := 64) (Prod.ext rfl (Prod.ext rfl c1))).1
    have e2 := (cutL_true (l := (cutL l 64).1) (c := 35) (Prod.ext rfl (Prod.ext rfl c2))).1
    refine ⟨h1, h2, c5, ?_, (cutL l 64).2.1, hs, ?_⟩
    · rw [e1]; simp
    · show l = ((o.1 ++ 58 :: o.2) ++ 35 :: (cutL (cutL l 64).1 35).2.1) ++ 64 :: (cutL l 64).2.1
      rw [← h3, ← e2]; exact e1
  · rw [if_neg hc] at h; cases h
theorem tupL_nil : tupL [] = none := by decide
theorem showT_of {t : Tup} (h1 : nameL t.1 = true) (h2 : idL t.2.1 = true) (h3 : nameL t.2.2.1 = true) (h4 : showS t.2.2.2.1 t.2.2.2.2.1 t.2.2.2.2.2 ≠ []) :
    showT t = ((t.1 ++ 58 :: t.2.1) ++ 35 :: t.2.2.1) ++ 64 :: showS t.2.2.2.1 t.2.2.2.2.1 t.2.2.2.2.2 := by
  unfold showT
  rw [if_neg (fun h => h.elim (showO_pos h1 h2) (fun h => h.elim h4 (fun h => by rw [h3] at h; cases h))), showO_of h1 h2]
  simp
theorem showT_ne {t : Tup} (h : showT t ≠ []) : nameL t.1 = true ∧ idL t.2.1 = true ∧ nameL t.2.2.1 = true ∧ showS t.2.2.2.1 t.2.2.2.2.1 t.2.2.2.2.2 ≠ [] := by
  unfold showT at h
  by_cases hc : showO t.1 t.2.1 = [] ∨ showS t.2.2.2.1 t.2.2.2.2.1 t.2.2.2.2.2 = [] ∨ nameL t.2.2.1 = false
  · rw [if_pos hc] at h; exact absurd rfl h
  · obtain ⟨h1, h2⟩ := showO_ne (fun e => hc (.inl e))
    refine ⟨h1, h2, ?_, fun e => hc (.inr (.inl e))⟩
    cases h3 : nameL t.2.2.1
    · exact absurd (.inr (.inr h3)) hc
    · rfl
theorem tup_back {l : Txt} {t : Tup} (h : tupL l = some t) : showT t = l := by
  obtain ⟨h1, h2, h3, _, u, h5, h6⟩ := tupL_some h
  have h7 := sub_back (a := t.2.2.2.1) (b := t.2.2.2.2.1) (r := t.2.2.2.2.2) h5
  have h8 : showS t.2.2.2.1 t.2.2.2.2.1 t.2.2.2.2.2 ≠ [] := by
    intro e
    rw [h7] at e
    rw [e, subL_nil] at h5; cases h5
  rw [showT_of h1 h2 h3 h8, h7, ← h6]
theorem tup_read {t : Tup} (h : showT t ≠ []) : tupL (showT t) = some t := by
  obtain ⟨h1, h2, h3, h4⟩ := showT_ne h
  rw [showT_of h1 h2 h3 h4]
  have hs := sub_read h4
  have e1 := cutL_app ((t.1 ++ 58 :: t.2.1) ++ 35 :: t.2.2.1) (showS t.2.2.2.1 t.2.2.2.2.1 t.2.2.2.2.2) 64 (sub_bytes h1 h2 h3)
  have e2 := cutL_app (t.1 ++ 58 :: t.2.1) t.2.2.1 35 (not_in (fun c hc => (obj_bytes h1 h2 c hc).1))
  unfold tupL
  rw [e1]
  simp only
  rw [e2]
  simp only
  rw [objL_of h1 h2, hs]
  simp [h3]
/-- an object's text is a subject's; a subject's is no tuple's -/
theorem obj_sub {l : Txt} (h : (objL l).isSome = true) : (subL l).isSome = true := by
  rcases ho : objL l with _ | ⟨a, b⟩
  · rw [ho] at h; cases h
  · obtain ⟨h1, h2, rfl⟩ := objL_some ho
    rw [subL_obj h1 h2]; rfl
theorem sub_tup {l : Txt} (h : (subL l).isSome = true) : (tupL l).isSome = false := by
  rcases ht : tupL l with _ | t
  · rfl
  · exact absurd (tupL_some ht).2.2.2.1 (subL_at h)
end Go.Proofs.Ytnbghhdbpjgcjaa
