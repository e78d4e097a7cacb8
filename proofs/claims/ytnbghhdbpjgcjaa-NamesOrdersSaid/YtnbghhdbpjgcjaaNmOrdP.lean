/-
  A tuple's text, cut at its first '#' first: the same tuple. No program is named.
-/
import Derived.Test.YtnbghhdbpjgcjaaNmInv
namespace Go.Proofs.Ytnbghhdbpjgcjaa
open Go.RowKit

/-- the parts as the program cuts them -/
def tupP (l : Txt) : Option Tup :=
  if (objL (cutL l 35).1).isSome && (nameL (cutL (cutL l 35).2.1 64).1 && (subL (cutL (cutL l 35).2.1 64).2.1).isSome) then
    some (((objL (cutL l 35).1).getD ([], [])).1, ((objL (cutL l 35).1).getD ([], [])).2, (cutL (cutL l 35).2.1 64).1, (subL (cutL (cutL l 35).2.1 64).2.1).getD ([], [], []))
  else none
theorem cut_flag {l : Txt} {c : UInt8} (h : (cutL l c).2.1 ≠ []) : l = (cutL l c).1 ++ c :: (cutL l c).2.1 := by
  cases hb : (cutL l c).2.2
  · exact absurd (cutL_false (l := l) (c := c) (Prod.ext rfl (Prod.ext rfl hb))).2.1 h
  · exact (cutL_true (l := l) (c := c) (Prod.ext rfl (Prod.ext rfl hb))).1
theorem tupP_some {l : Txt} {t : Tup} (h : tupP l = some t) : tupL l = some t := by
  unfold tupP at h
  by_cases hc : ((objL (cutL l 35).1).isSome && (nameL (cutL (cutL l 35).2.1 64).1 && (subL (cutL (cutL l 35).2.1 64).2.1).isSome)) = true
  · rw [if_pos hc] at h
    simp only [Bool.and_eq_true] at hc
    obtain ⟨c1, c2, c3⟩ := hc
    obtain ⟨⟨a, b⟩, ho⟩ := Option.isSome_iff_exists.1 c1
    obtain ⟨⟨x, y, z⟩, hs⟩ := Option.isSome_iff_exists.1 c3
    rw [ho, hs] at h
    simp only [Option.some.injEq, Option.getD_some] at h
    obtain ⟨h1, h2, h3⟩ := objL_some ho
    have hu : (cutL (cutL l 35).2.1 64).2.1 ≠ [] := by intro e; rw [e, subL_nil] at hs; cases hs
    have e1 := cut_flag hu
    have e2 : l = (cutL l 35).1 ++ 35 :: (cutL l 35).2.1 := cut_flag (by rw [e1]; simp)
    have hb := sub_back hs
    have hne : showS x y z ≠ [] := by rw [hb]; exact hu
    have hl : l = showT t := by
      rw [← h, showT_of (t := (a, b, (cutL (cutL l 35).2.1 64).1, x, y, z)) h1 h2 c2 hne, hb]
      rw [h3, e1] at e2
      simpa using e2
    rw [hl]
    refine tup_read (t := t) ?_
    rw [← hl]
    intro e
    rw [e] at e2
    simp at e2
  · rw [if_neg hc] at h; cases h
theorem tupL_someP {l : Txt} {t : Tup} (h : tupL l = some t) : tupP l = some t := by
  obtain ⟨h1, h2, h3, _, u, h5, h6⟩ := tupL_some h
  have e1 : cutL l 35 = (t.1 ++ 58 :: t.2.1, t.2.2.1 ++ 64 :: u, true) := by
    rw [h6, List.append_assoc, List.cons_append]
    exact cutL_app _ _ 35 (not_in (fun c hc => (obj_bytes h1 h2 c hc).1))
  have e2 : cutL (t.2.2.1 ++ 64 :: u) 64 = (t.2.2.1, u, true) := cutL_app _ _ 64 (not_in (fun c hc => (name_all h3 c hc).2.2))
  unfold tupP
  rw [e1]
  simp only
  rw [e2]
  simp only
  rw [objL_of h1 h2, h5]
  simp [h3]
theorem tupP_eq (l : Txt) : tupP l = tupL l := by
  rcases h : tupL l with _ | t
  · rcases h2 : tupP l with _ | u
    · rfl
    · rw [tupP_some h2] at h; cases h
  · exact tupL_someP h
end Go.Proofs.Ytnbghhdbpjgcjaa
