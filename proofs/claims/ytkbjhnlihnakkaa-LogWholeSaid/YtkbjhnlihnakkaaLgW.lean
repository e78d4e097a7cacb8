/-
  Plain mathematics of layer 7: what the statements' own courses come to, as lists. No program is run here. No conditions.
-/
import Derived.Test.YtkbjhnlihnakkaaLgBegun
namespace Go.Proofs.Ytkbjhnlihnakkaa
open Go.RowKit

theorem LogHas.on {s : Dsk} {n : Nat} {g : Int} {ds : List (List UInt8)} (h : LogHas s n g ds) (hn : 1 ≤ n) : OnDisk s 0 (n : Int) := ⟨by decide, by omega, by have := h.len; omega⟩
/-- Begin of a later turn, and a crash -/
theorem turns_lists {s : Dsk} {n : Nat} {ds : List (List UInt8)} (h : LogHas s n 1 ds) (hn : 1 ≤ n) (d : List UInt8) (pick : Nat → Bool) :
    ((Lg.new 0 n 9).err s d = 0 ∨ (Lg.new 0 n 9).err s d = 4 ∨ (Lg.new 0 n 9).err s d = 5) ∧
    ((Lg.new 0 n 9).err s d = 0 → openL ((((Lg.new 0 n 9).dsk s d).crash pick).bytes 0 n) = some (9, [d])) ∧
    ((Lg.new 0 n 9).err s d ≠ 0 → (openL ((((Lg.new 0 n 9).dsk s d).crash pick).bytes 0 n) = none ∧ (Lg.new 0 n 9).err s d = 5) ∨ (∃ es, openL ((((Lg.new 0 n 9).dsk s d).crash pick).bytes 0 n) = some (1, es)) ∨ openL ((((Lg.new 0 n 9).dsk s d).crash pick).bytes 0 n) = some (9, [d])) := by
  rcases begin_new h.ok h.calm h.len hn (g := 9) (by decide) (by decide) d with ⟨e1, e2, _⟩ | ⟨e1, e2, _⟩ | ⟨e1, _, e2⟩
  · refine ⟨.inr (.inl e1), fun h0 => by rw [h0] at e1; exact absurd e1 (by decide), fun _ => .inr (.inl ⟨ds, ?_⟩)⟩
    rw [e2]
    exact (h.crash pick).1.found
  · exact ⟨.inl e1, fun _ => (e2.crash pick).1.found, fun h0 => absurd e1 h0⟩
  · refine ⟨.inr (.inr e1), fun h0 => by rw [h0] at e1; exact absurd e1 (by decide), fun _ => ?_⟩
    rcases e2 pick with h2 | ⟨_, h2, _⟩
    · exact .inr (.inr h2.found)
    · rw [bytes_all (s := ((Lg.new 0 n 9).dsk s d).crash pick) rfl]
      have hat := h.at_
      have hne := h.some
      cases ds with
      | nil => exact absurd rfl hne
      | cons d0 ds =>
        rcases turn_old hat h2 with h3 | h3
        · exact .inl ⟨h3, e1⟩
        · exact .inr (.inl h3)
/-- one Append, and a crash -/
theorem goes_lists {s : Dsk} {n : Nat} {g : Int} {ds : List (List UInt8)} (h : LogHas s n g ds) (hn : 1 ≤ n) (d : List UInt8) (pick : Nat → Bool) :
    ∃ es, LogHas (((Lg.found 0 n g ds).dsk s d).crash pick) n g es ∧ (es = ds ∨ es = ds ++ [d]) := by
  rcases h.append hn d with ⟨_, e2, _⟩ | ⟨_, e2, _⟩ | ⟨_, _, _, e2⟩
  · rw [e2]; exact ⟨ds, (h.crash pick).1, .inl rfl⟩
  · exact ⟨_, (e2.crash pick).1, .inr rfl⟩
  · rcases e2 pick with h2 | h2
    · exact ⟨ds, h2, .inl rfl⟩
    · exact ⟨_, h2, .inr rfl⟩
/-- two Appends of the same, and a crash: what is told and what is found -/
def WholeL (e f : Int) (ds x : List (List UInt8)) (d : List UInt8) : Prop :=
  (e = 0 ∧ f = 0 ∧ x = ds ++ [d] ++ [d]) ∨ (e = 0 ∧ (f = 4 ∨ f = 5) ∧ (x = ds ++ [d] ∨ x = ds ++ [d] ++ [d])) ∨ (e = 4 ∧ f = 4 ∧ x = ds) ∨ (e = 5 ∧ f = 5 ∧ (x = ds ∨ x = ds ++ [d]))
theorem whole_lists {s : Dsk} {n : Nat} {g : Int} {ds : List (List UInt8)} (h : LogHas s n g ds) (hn : 1 ≤ n) (d : List UInt8) (pick : Nat → Bool) :
    ∃ x, openL (((((Lg.found 0 n g ds).next s d).dsk ((Lg.found 0 n g ds).dsk s d) d).crash pick).bytes 0 n) = some (g, x) ∧
      WholeL ((Lg.found 0 n g ds).err s d) (((Lg.found 0 n g ds).next s d).err ((Lg.found 0 n g ds).dsk s d) d) ds x d := by
  rcases h.append hn d with ⟨e1, e2, e3, _⟩ | ⟨e1, e2, e3, _, _⟩ | ⟨e1, e2, _, e3⟩
  · rw [e2, e3, e2]
    exact ⟨ds, (h.crash pick).1.found, .inr (.inr (.inl ⟨e1, e1, rfl⟩))⟩
  · rw [e3]
    rcases e2.append hn d with ⟨f1, f2, _, _⟩ | ⟨f1, f2, _, _⟩ | ⟨f1, _, _, f2⟩
    · rw [f2]
      exact ⟨_, (e2.crash pick).1.found, .inr (.inl ⟨e1, .inl f1, .inl rfl⟩)⟩
    · exact ⟨_, (f2.crash pick).1.found, .inl ⟨e1, f1, rfl⟩⟩
    · rcases f2 pick with h2 | h2
      · exact ⟨_, h2.found, .inr (.inl ⟨e1, .inr f1, .inl rfl⟩)⟩
      · exact ⟨_, h2.found, .inr (.inl ⟨e1, .inr f1, .inr rfl⟩)⟩
  · obtain ⟨d1, d2, _⟩ := next_down (s := (Lg.found 0 n g ds).dsk s d) (d := d) e2
    rw [d1, d2]
    rcases e3 pick with h2 | h2
    · exact ⟨_, h2.found, .inr (.inr (.inr ⟨e1, rfl, .inl rfl⟩))⟩
    · exact ⟨_, h2.found, .inr (.inr (.inr ⟨e1, rfl, .inr rfl⟩))⟩
theorem crash_own {w : World} {g : Nat} {F : Nat → Prop} {s : Dsk} {B : Option Addr} {p : List Int} {m d : Nat} {W : World} (h : DiskAt w g F s) (hb : Below W.heap.size W w) (hF : ∀ k, F k → W.heap.size ≤ k) (hs : Ints W B p) (hm : m = p.length) (hl : p.length ≤ 9223372036854775807) (hx : ∀ x ∈ p, -9223372036854775808 ≤ x ∧ x ≤ 9223372036854775807) :
    Calls Try.prog 21 #[.pointer (some ⟨g, 0, none⟩), .slice B m d] w fun e w' => e = .returned (.tuple #[]) ∧ Moved w g F (s.crash (pickOf p)) w' := by
  subst hm
  exact crash_any w g F s h B p d (hs.away hb hF) hx hl
/-- a list of one piece, just laid -/
theorem one_seen {w : World} {B : Option Addr} {l : List UInt8} {m c : Nat} (hs : Seen w B l) (hm : l.length = m) (hl : m ≤ 9223372036854775807) (hc : m ≤ c) : SeenAll (w.alloc (.cells #[.slice B m c] 22)) (some ⟨w.heap.size, 0, none⟩) [(B, l, c)] := by
  subst hm
  have BL := Blk.new w [.slice B l.length c] 22
  refine .inr ⟨w.heap.size, 0, rfl, by simp, fun j hj => ?_⟩
  have hj0 : j = 0 := by simp at hj; omega
  subst hj0
  exact ⟨BL.cell (i := 0) (by simp), hs.alloc _, hc, hl⟩
end Go.Proofs.Ytkbjhnlihnakkaa
