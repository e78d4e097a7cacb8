/-
  Bytes that a call may write: a slice whose block can be stored into. No conditions.
-/
import Derived.Test.YtaeocbgmoijedaaTrCall
import Derived.Test.YtaeocbgmoijedaaTrScans
namespace Go.Proofs.Ytaeocbgmoijedaa
open Go.RowKit

/-- the block of a slice of n cells, if there are any -/
def blkN (A : Option Addr) (n : Nat) (x : Nat) : Prop := 0 < n ∧ ∃ off, A = some ⟨x, off, none⟩
/-- n cells from A on can be stored into -/
def Writ (w : World) (A : Option Addr) (n : Nat) : Prop := n = 0 ∨ ∃ b off L t, A = some ⟨b, off, none⟩ ∧ Blk w b L t ∧ off + n ≤ L.length
theorem Blk.bound {w : World} {g : Nat} {L : List Value} {t : TypeId} {i : Nat} {v : Value} (h : Blk w g L t) (hc : w.cell? ⟨g, i, none⟩ = some v) : i < L.length := by
  unfold Blk at h
  simp [World.cell?, h] at hc
  rcases Nat.lt_or_ge i L.length with h1 | h1
  · exact h1
  · rw [List.getElem?_eq_none h1] at hc; cases hc
theorem AwayW.writ {w : World} {F : Nat → Prop} {A : Option Addr} {l : List UInt8} {n : Nat} (h : AwayW w F A l) (hl : l.length = n) : Writ w A n := by
  rcases h with rfl | ⟨b, off, rfl, hb, hn, hc, C, t, hf⟩
  · exact .inl hl.symm
  · rcases Nat.eq_zero_or_pos n with h0 | h0
    · exact .inl h0
    · have hB : Blk w b C.toList t := by unfold Blk; rw [Array.toArray_toList]; exact hf
      have := hB.bound (hc (n - 1) (by omega))
      exact .inr ⟨b, off, C.toList, t, rfl, hB, by omega⟩
theorem AwayW.out_ {w : World} {F : Nat → Prop} {A : Option Addr} {l : List UInt8} {n : Nat} (h : AwayW w F A l) (hl : l.length = n) : ∀ x, blkN A n x → ¬ F x ∧ x < w.heap.size := by
  rintro x ⟨h0, o, ho⟩
  rcases h with rfl | ⟨b, off, rfl, hb, hn, hc, C, t, hf⟩
  · rw [← hl] at h0; exact absurd h0 (by simp)
  · injection ho with ho
    injection ho with h1 h2
    subst h1
    exact ⟨hn, hb⟩
theorem Made.awayW {e : TypeId} {w0 w : World} {l : List UInt8} {v : Value} (h : Made e w0 l v w) : ∃ A c, v = .slice A l.length c ∧ AwayW w (fun b => b < w0.heap.size) A l := by
  obtain ⟨A, c, rfl, hs⟩ := h.form
  refine ⟨A, c, rfl, ?_⟩
  rcases hs with rfl | ⟨b, off, rfl, hb, hc⟩
  · exact .inl rfl
  · rcases h.1.2 with ⟨hv, h0⟩ | ⟨g, cap, cur, hv, hbg, hg, _⟩
    · exact .inl (List.eq_nil_of_length_eq_zero h0)
    · injection hv with h1 _ _
      injection h1 with h1
      injection h1 with h2 h3
      subst h2 h3
      exact .inr ⟨b, 0, rfl, hb, by omega, hc, cur, _, hg⟩
/-- one byte is written -/
theorem Writ.at_ {w : World} {A : Option Addr} {n i : Nat} (h : Writ w A n) (hi : i < n) : ∃ b off, A = some ⟨b, off, none⟩ ∧ (∃ u, w.cell? ⟨b, off + i, none⟩ = some u) ∧ w.frozen? ⟨b, off + i, none⟩ = false ∧ ∀ u, Writ (w.setCell ⟨b, off + i, none⟩ u) A n ∧ Spared w (w.setCell ⟨b, off + i, none⟩ u) (blkN A n) := by
  rcases h with h | ⟨b, off, L, t, rfl, hB, hle⟩
  · omega
  · exact ⟨b, off, rfl, ⟨_, hB.cell (i := off + i) (by omega)⟩, hB.free _, fun u => ⟨.inr ⟨b, off, _, t, rfl, hB.set _ _, by rw [List.length_set]; exact hle⟩, (Spared.refl w _).setCell ⟨by omega, off, rfl⟩ _ _⟩⟩
theorem Writ.moved {w w' : World} {F : Nat → Prop} {A : Option Addr} {n : Nat} (h : Writ w A n) (hs : Spared w w' F) (hF : ∀ x, blkN A n x → ¬ F x) : Writ w' A n := by
  rcases Nat.eq_zero_or_pos n with h0 | h0
  · exact .inl h0
  · rcases h with h | ⟨b, off, L, t, rfl, hB, hle⟩
    · exact .inl h
    · exact .inr ⟨b, off, L, t, rfl, hs.blk hB (hF b ⟨h0, off, rfl⟩), hle⟩
/-- one pair that was found: its key may be written -/
theorem found_one {B0 : Nat} {W : World} {acc : List (El 0)} {A : Option Addr} {n c : Nat} {k v : Key} (hf : Found B0 W acc (.slice A n c)) (hL : acc.map kv0 = [(k, v)]) :
    n = 1 ∧ ∃ b off A0 c0, A = some ⟨b, off, none⟩ ∧ B0 ≤ b ∧ b < W.heap.size ∧ W.cell? ⟨b, off, none⟩ = some (.slice A0 k.length c0) ∧ AwayW W (fun x => x < B0 ∨ x = b) A0 k := by
  have hl : acc.length = 1 := by rw [← List.length_map kv0, hL]; rfl
  obtain ⟨A', c', hv⟩ := hf.form
  injection hv with e1 e2 e3
  subst e1 e2 e3
  have hc := own_cells hf.row
  obtain ⟨b, off, hA, hb, hF, h0, h1⟩ := pair_cells hc.1 0 (by omega)
  have he := hf.each acc[0] (List.getElem_mem _)
  have hkv : kv0 acc[0] = (k, v) := by
    have : (acc.map kv0)[0]'(by rw [hL]; simp) = (k, v) := by simp [hL]
    simpa using this
  have k1 : (epiece 0 acc[0]).2.1 = k := congrArg Prod.fst hkv
  have hp : AwayW W (fun x => x < B0 ∨ some x = (Value.slice A acc.length c).ownBlock) (epiece 0 acc[0]).1 (epiece 0 acc[0]).2.1 := he.1.1
  unfold pv at h0
  rw [k1] at h0 hp
  refine ⟨hl, b, off, _, _, hA, by omega, hb, by simpa using h0, hp.moved (.refl _ _) (fun i hi => .inl ?_)⟩
  rcases hi with hi | hi
  · exact .inl hi
  · right; subst hA hi; rfl
theorem one_put (k v : Key) : putL k v [] = [(k, v)] := rfl
theorem one_has (k v : Key) : hasL k [(k, v)] = true := by simp [hasL]
theorem one_gv (k v : Key) : gv k [(k, v)] = v := by unfold gv; rw [one_has, if_pos rfl]; simp [getL]
theorem one_scan (k v : Key) : scanL [] [] 5 [(k, v)] = [(k, v)] := scan_all 5 _ (by simp) (by omega)
theorem one_size (k v : Key) : sizeL [(k, v)] = k.length + v.length := by rw [sizeL_cons]; rfl
end Go.Proofs.Ytaeocbgmoijedaa
