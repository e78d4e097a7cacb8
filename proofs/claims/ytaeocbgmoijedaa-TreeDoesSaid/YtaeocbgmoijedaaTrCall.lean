/-
  What a law of this layer knows of its k-th call; what Get answers, under one name. No conditions.
-/
import Derived.Test.YtaeocbgmoijedaaTrOps
import Derived.Test.YtaeocbgmoijedaaTrLists
import Derived.Test.YtaeocbgmoijedaaTrRf
namespace Go.Proofs.Ytaeocbgmoijedaa
open Go.RowKit

theorem get_named (w : World) (F : Nat → Prop) (g : Nat) (room : Int) (L : List Kv) (B : Option Addr) (k : Key) (m d : Nat) (t : TreeAt w F g room L) (hk : Seen w B k) (hm : k.length = m) :
    Calls Try.prog 25 #[.pointer (some ⟨g, 0, none⟩), .slice B m d] w fun e w' => Below w.heap.size w w' ∧ ∃ (X : Option Addr) (n c : Nat), e = .returned (.tuple #[.slice X n c, .bool (hasL k L)]) ∧ AwayW w' (fun b => b < w.heap.size) X (gv k L) ∧ (gv k L).length = n := by
  refine (get_any w F g room L B k m d t hk hm).mono ?_
  rintro e w' ⟨hb, ⟨hh, q, rfl, hq1, hq2⟩ | ⟨hh, rfl⟩⟩
  · refine ⟨hb, q.1, (gv k L).length, q.2.2, ?_, ?_, rfl⟩
    · unfold gv pv; rw [hh, if_pos rfl, ← hq1]
    · unfold gv; rw [hh, if_pos rfl, ← hq1]; exact hq2.1
  · refine ⟨hb, none, 0, 0, ?_, .inl ?_, ?_⟩
    · rw [hh]
    · unfold gv; rw [hh]; rfl
    · unfold gv; rw [hh]; rfl
theorem few_at {l : List TOp} (h : fewB l = true) : l.length ≤ 300 ∧ ∀ (k : Nat) (hk : k < l.length), l[k].2.1.2.1.length ≤ 100 ∧ l[k].2.2.1.2.1.length ≤ 100 := by
  have := of_decide_eq_true h
  exact ⟨this.1, fun k hk => this.2 _ (List.getElem_mem hk)⟩
theorem TsSeen.below {w w' : World} {A : Option Addr} {l : List TOp} (h : TsSeen w A l) (hb : Below w.heap.size w w') : TsSeen w' A l := by
  rcases h with rfl | ⟨b, off, rfl, hlt, hc⟩
  · exact .inl rfl
  · refine .inr ⟨b, off, rfl, Nat.lt_of_lt_of_le hlt hb.size, fun j hj => ?_⟩
    obtain ⟨h1, h2, h3, h4⟩ := hc j hj
    exact ⟨fun i hi => (hb.cell (p := ⟨b, off + j * 4 + i, none⟩) hlt).trans (h1 i hi), h2, ⟨h3.1.below hb, h3.2⟩, h4.1.below hb, h4.2⟩
/-- the k-th call, as it lies: its kind, its key of m bytes, its value of z bytes, its number -/
theorem TsSeen.call {w : World} {A : Option Addr} {l : List TOp} (h : TsSeen w A l) (hf : fewB l = true) (k : Nat) (hk : k < l.length) :
    ∃ (b off m z : Nat) (K V : Option Addr) (ck cv : Nat) (y x : Key) (kd nm : Int), A = some ⟨b, off, none⟩ ∧ y = l[k].2.1.2.1 ∧ x = l[k].2.2.1.2.1 ∧ kd = l[k].1 ∧ nm = l[k].2.2.2 ∧ y.length = m ∧ x.length = z ∧ m ≤ 100 ∧ z ≤ 100 ∧ IntOk kd ∧ IntOk nm ∧ Seen w K y ∧ Seen w V x ∧
      ∀ w', Below w.heap.size w w' → w'.cell? ⟨b, off + k * 4, none⟩ = some (.int .i64 kd) ∧ w'.cell? ⟨b, off + k * 4 + 1, none⟩ = some (.slice K m ck) ∧ w'.cell? ⟨b, off + k * 4 + 2, none⟩ = some (.slice V z cv) ∧ w'.cell? ⟨b, off + k * 4 + 3, none⟩ = some (.int .i64 nm) := by
  obtain ⟨b, off, rfl, ⟨⟨h1, h2⟩, ⟨h3, _⟩, ⟨h4, _⟩⟩, hc⟩ := h.at_ k hk
  have h5 := (few_at hf).2 k hk
  exact ⟨b, off, _, _, _, _, _, _, _, _, _, _, rfl, rfl, rfl, rfl, rfl, rfl, rfl, h5.1, h5.2, h1, h2, h3, h4, hc⟩
/-- what Put comes to -/
def PutR (room : Int) (L : List Kv) (k v : Key) (r : Int) (L' : List Kv) : Prop := (room < (sizeL (putL k v L) : Int) ∧ r = 4 ∧ L' = L) ∨ ((sizeL (putL k v L) : Int) ≤ room ∧ r = 0 ∧ L' = putL k v L)
theorem put_named (w : World) (F : Nat → Prop) (hF : ∀ b, F b → b < w.heap.size) (g : Nat) (room : Int) (L : List Kv) (B V : Option Addr) (k v : Key) (m d mv dv : Nat) (t : TreeAt w F g room L) (hl : L.length ≤ 99999) (hk : Seen w B k) (hm : k.length = m) (hv : Seen w V v) (hmv : v.length = mv) (hm9 : m ≤ 1000000000) (hv9 : mv ≤ 1000000000) :
    Calls Try.prog 13 #[.pointer (some ⟨g, 0, none⟩), .slice B m d, .slice V mv dv] w fun e w' => ∃ (r : Int) (L' : List Kv), e = .returned (.int .i64 r) ∧ TreeAt w' F g room L' ∧ Spared w w' (fun b => b = g) ∧ PutR room L k v r L' := by
  refine (put_any w F hF g room L B V k v m d mv dv t hl hk hm hv hmv hm9 hv9).mono ?_
  rintro e w' ⟨hs, ⟨h1, rfl, h3⟩ | ⟨h1, rfl, h3⟩⟩
  · exact ⟨4, L, rfl, h3, hs, .inl ⟨h1, rfl, rfl⟩⟩
  · exact ⟨0, _, rfl, h3, hs, .inr ⟨h1, rfl, rfl⟩⟩
theorem PutR.length {room : Int} {L L' : List Kv} {k v : Key} {r : Int} (h : PutR room L k v r L') (hs : Srt L) : L'.length ≤ L.length + 1 := by
  rcases h with ⟨_, _, rfl⟩ | ⟨_, _, rfl⟩
  · omega
  · rw [put_length hs]; split <;> omega
end Go.Proofs.Ytaeocbgmoijedaa
