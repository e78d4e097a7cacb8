/-
  What the document's text, one and Puts come to. Condition: the bytes are at most 2^40.
-/
import Derived.Test.YtmngcfmlmdhpbaaRefF
import Derived.Test.YtmngcfmlmdhpbaaFPuts
import Derived.Test.YtmngcfmlmdhpbaaGet
import Derived.Deep.RegionWith
namespace Go.Proofs.Ytmngcfmlmdhpbaa
open Go.RowKit

theorem refGet_of (A : Option Addr) (l : List UInt8) (n c : Nat) (w : World) (hl : l.length = n) (hs : Seen w A l) :
    Calls Try.prog 36 #[.slice A n c] w fun e w' => e = .returned (.tuple #[.int .i64 ((getL l 0 0).1 : Nat), .int .i64 ((getL l 0 0).2 : Nat)]) ∧ w = w' := by
  subst hl
  exact refGet_any A l c w hs

/-- what text answers: its bytes, in a block of their own, and the rest, where it is -/
def TextOut (w : World) (A0 : Option Addr) (l : List UInt8) (D : Option (List UInt8 × List UInt8)) (e : Ending) (w' : World) : Prop :=
  (D = none ∧ e = .returned (.tuple #[.slice none 0 0, .slice none 0 0, .bool false]) ∧ Below w.heap.size w w') ∨
  (∃ t u A n c B m d, D = some (t, u) ∧ e = .returned (.tuple #[.slice A n c, .slice B m d, .bool true]) ∧ t.length = n ∧ MadeN 5 w t A n c w' ∧ u.length = m ∧ m ≤ d ∧ ∀ w0, Seen w0 A0 l → Seen w0 B u)

set_option maxRecDepth 100000 in
set_option maxHeartbeats 1000000 in
theorem refText_any (A : Option Addr) (l : List UInt8) (n c : Nat) (w : World) (hn : l.length = n) (hc : n ≤ c) (hb : n ≤ 140737488351232) (hs : Seen w A l) :
    Calls Try.prog 50 #[.slice A n c] w (TextOut w A l (textL l)) := by
  obtain ⟨i0, hi, hz0, hz1, hz2⟩ := info_parts info8p
  have HS := Lib.hid hs
  have HN := Lib.hid hn
  have HGET := Lib.hid (refGet_of A l n c w hn hs)
  have HF := get_fits (l := l)
  obtain ⟨D, hD⟩ : ∃ D, D = textL l := ⟨_, rfl⟩
  rw [← hD]
  unfold textL at hD
  rw [List.length_drop, hn] at hD
  generalize (getL l 0 0).2 = k at *
  generalize (getL l 0 0).1 = m at *
  obtain ⟨hk1, hk9, hm63⟩ := HF
  rw [hn] at hk1
  by_cases hk : k = 0
  · have HE : Hid (D = none) := by show _ = _; rw [hD, if_pos hk]
    subst hk
    clear hD hs hn
    go_enter Try.func50, Try.ntmps50
    go_wp2_with fail
    refine HGET.out.mono ?_
    rintro e w' ⟨rfl, rfl⟩
    go_wp2_with fail
    exact bodyPost_ret (v := .tuple #[.slice none 0 0, .slice none 0 0, .bool false]) (by simp [results, Try.results50, go_sem]) rfl (.inl ⟨HE.out, rfl, Below.refl _ _⟩)
  · rw [if_neg hk] at hD
    have tk : ((k : Int) == 0) = false := by rw [beq_eq_false_iff_ne]; omega
    by_cases hlt : n - k < m
    · have HE : Hid (D = none) := by show _ = _; rw [hD, if_pos hlt]
      clear hD hs hn hk
      go_enter Try.func50, Try.ntmps50
      go_wp2_with fail
      refine HGET.out.mono ?_
      rintro e w' ⟨rfl, rfl⟩
      go_wp2_with fail
      exact bodyPost_ret (v := .tuple #[.slice none 0 0, .slice none 0 0, .bool false]) (by simp [results, Try.results50, go_sem]) rfl (.inl ⟨HE.out, rfl, Below.refl _ _⟩)
    · have HE : Hid (D = some ((l.drop k).take m, (l.drop k).drop m)) := by show _ = _; rw [hD, if_neg hlt]
      obtain ⟨A1, c1, hcut1, hs1, hl1⟩ := hs.mid_cut n c k (k + m) m (k : Int) (IntKind.i64.wrap ((k : Int) + (m : Int))) rfl (by rw [IntKind.wrap_i64]; omega) (by omega) hn (by omega) (by omega) hc
      obtain ⟨A2, hcut2, hs2⟩ := tail_cut_all A l n c (k + m) (IntKind.i64.wrap ((k : Int) + (m : Int))) (by rw [IntKind.wrap_i64]; omega) hn (by omega) hc
      rw [← List.drop_drop] at hs2
      have HS1 := Lib.hid hs1
      have HL1 := Lib.hid hl1
      have HS2 := Lib.hid hs2
      clear hD hs hn hk hs1 hs2 hl1
      go_enter Try.func50, Try.ntmps50
      go_wp2_with fail
      refine HGET.out.mono ?_
      rintro e w' ⟨rfl, rfl⟩
      go_wp2_with fail
      have HM0 : Hid (MadeN 5 w [] none 0 0 w.drew) := ⟨rfl, World.ownsRow_nil _ _ _ _, (Below.refl _ _).drew⟩
      have HSD : Hid (Seen w.drew A1 (List.take m (List.drop k l))) := HS1.out.below ((Below.refl _ _).drew)
      obtain ⟨T, hT⟩ : ∃ T, T = List.take m (List.drop k l) := ⟨_, rfl⟩
      rw [← hT] at HSD HL1 HE
      have E0 : Hid (T = [] ++ T) := by show _ = _; simp
      have E1 : Hid (m = 0 + m) := by show _ = _; omega
      clear hT HS1
      go_region_law (refine step_append_to w.drew rfl (.const (.slice none 0 0)) (.tmp 27) 22 rfl 5 i0 (.int .u8 0) Try.underlying22 hi hz0 hz1 hz2 rfl w none 0 0 [] A1 m c1 T T m (by simp [Act.eval]) (by simp [Act.eval, Act.put]) HM0 HSD HL1 E0 E1 (by omega) ?_; intro A3 c3 w3 H3 B3 _)
      all_goals go_wp2_with fail
      all_goals refine bodyPost_ret (v := .tuple #[.slice A3 m c3, .slice A2 (n - (k + m)) (c - (k + m)), .bool true]) (by simp [results, Try.results50, go_sem]) rfl (.inr ?_)
      all_goals exact ⟨T, _, A3, m, c3, A2, n - (k + m), c - (k + m), HE.out, rfl, HL1.out, H3.out, by rw [List.length_drop, List.length_drop, HN.out]; omega, by omega, HS2.out⟩

theorem refText_none (A : Option Addr) (l : List UInt8) (n c : Nat) (w : World) (hn : l.length = n) (hc : n ≤ c) (hb : n ≤ 140737488351232) (hs : Seen w A l) (h : textL l = none) :
    Calls Try.prog 50 #[.slice A n c] w fun e w' => e = .returned (.tuple #[.slice none 0 0, .slice none 0 0, .bool false]) ∧ Below w.heap.size w w' := by
  refine (refText_any A l n c w hn hc hb hs).mono ?_
  rintro e w' (⟨_, h1, h2⟩ | ⟨t, u, A, n, c, B, m, d, h1, _⟩)
  · exact ⟨h1, h2⟩
  · rw [h] at h1; cases h1
/-- what text leaves where there is one -/
def TextIs (w : World) (A0 : Option Addr) (l t u : List UInt8) (e : Ending) (w' : World) : Prop :=
  ∃ A n c B m d, e = .returned (.tuple #[.slice A n c, .slice B m d, .bool true]) ∧ t.length = n ∧ MadeN 5 w t A n c w' ∧ u.length = m ∧ m ≤ d ∧ ∀ w0, Seen w0 A0 l → Seen w0 B u
theorem refText_some (A : Option Addr) (l t u : List UInt8) (n c : Nat) (w : World) (hn : l.length = n) (hc : n ≤ c) (hb : n ≤ 140737488351232) (hs : Seen w A l) (h : textL l = some (t, u)) :
    Calls Try.prog 50 #[.slice A n c] w (TextIs w A l t u) := by
  refine (refText_any A l n c w hn hc hb hs).mono ?_
  rintro e w' (⟨h0, _⟩ | ⟨t', u', A, n, c, B, m, d, h1, hrest⟩)
  · rw [h] at h0; cases h0
  · rw [h] at h1
    injection h1 with h1
    injection h1 with h1 h2
    subst h1 h2
    exact ⟨A, n, c, B, m, d, hrest⟩
end Go.Proofs.Ytmngcfmlmdhpbaa
