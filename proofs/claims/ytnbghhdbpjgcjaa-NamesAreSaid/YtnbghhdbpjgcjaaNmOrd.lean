/-
  The order of tuples is one: lists of six texts, by the first one in which they differ. No program is named.
-/
import Derived.Test.YtnbghhdbpjgcjaaNmLess
import Derived.Test.YtnbghhdbpjgcjaaTrO
namespace Go.Proofs.Ytnbghhdbpjgcjaa
open Go.RowKit

theorem lessF_cons (x y : Txt) (xs ys : List Txt) : lessF (x :: xs) (y :: ys) = if x = y then lessF xs ys else ltK x y := rfl
theorem lessF_self : ∀ X : List Txt, lessF X X = false
  | [] => rfl
  | x :: xs => by rw [lessF_cons, if_pos rfl]; exact lessF_self xs
theorem lessF_asymm : ∀ {X Y : List Txt}, lessF X Y = true → lessF Y X = false
  | [], _, h => by simp [lessF] at h
  | _ :: _, [], h => by simp [lessF] at h
  | x :: xs, y :: ys, h => by
    rw [lessF_cons] at h ⊢
    by_cases e : x = y
    · rw [if_pos e] at h; rw [if_pos e.symm]; exact lessF_asymm h
    · rw [if_neg e] at h; rw [if_neg (fun k => e k.symm)]; exact ltK_asymm h
theorem lessF_eq : ∀ {X Y : List Txt}, X.length = Y.length → lessF X Y = false → lessF Y X = false → X = Y
  | [], [], _, _, _ => rfl
  | [], _ :: _, h, _, _ => by simp at h
  | _ :: _, [], h, _, _ => by simp at h
  | x :: xs, y :: ys, h, h1, h2 => by
    rw [lessF_cons] at h1 h2
    by_cases e : x = y
    · rw [if_pos e] at h1; rw [if_pos e.symm] at h2
      rw [e, lessF_eq (by simpa using h) h1 h2]
    · rw [if_neg e] at h1; rw [if_neg (fun k => e k.symm)] at h2
      exact absurd (ltK_eq h1 h2) e
theorem lessF_trans : ∀ {X Y Z : List Txt}, lessF X Y = true → lessF Y Z = true → lessF X Z = true
  | [], _, _, h, _ => by simp [lessF] at h
  | _ :: _, [], _, h, _ => by simp [lessF] at h
  | _ :: _, _ :: _, [], _, h => by simp [lessF] at h
  | x :: xs, y :: ys, z :: zs, h1, h2 => by
    rw [lessF_cons] at h1 h2 ⊢
    by_cases e : x = y
    · rw [if_pos e] at h1
      by_cases f : y = z
      · rw [if_pos f] at h2; rw [if_pos (e.trans f)]; exact lessF_trans h1 h2
      · rw [if_neg f] at h2; rw [if_neg (fun k => f (e ▸ k)), e]; exact h2
    · rw [if_neg e] at h1
      by_cases f : y = z
      · rw [if_pos f] at h2; rw [if_neg (fun k => e (k.trans f.symm)), ← f]; exact h1
      · rw [if_neg f] at h2
        have h3 := ltK_trans h1 h2
        rw [if_neg (fun k => by rw [k, ltK_self] at h3; cases h3)]; exact h3
theorem six_inj {t u : Tup} (h : six t = six u) : t = u := by
  obtain ⟨a, b, c, d, e, f⟩ := t
  obtain ⟨a', b', c', d', e', f'⟩ := u
  simp only [six, List.cons.injEq, and_true] at h
  obtain ⟨rfl, rfl, rfl, rfl, rfl, rfl⟩ := h
  rfl
def lessT (t u : Tup) : Bool := lessF (six t) (six u)
theorem lessT_self (t : Tup) : lessT t t = false := lessF_self _
theorem lessT_asymm {t u : Tup} (h : lessT t u = true) : lessT u t = false := lessF_asymm h
theorem lessT_eq {t u : Tup} (h1 : lessT t u = false) (h2 : lessT u t = false) : t = u := six_inj (lessF_eq rfl h1 h2)
theorem lessT_trans {t u v : Tup} (h1 : lessT t u = true) (h2 : lessT u v = true) : lessT t v = true := lessF_trans h1 h2
end Go.Proofs.Ytnbghhdbpjgcjaa
