/-
  The words by which the walks of this seat speak of bytes in memory: a slice that shows a list of bytes, and how that is kept. No conditions: no program is named here.
  Names as lists of bytes: what a name is, a thing's own name, and where a text is cut. No program is named.
  Texts as values; s + t over this program; how long a name and a thing's own name are. Condition of s + t: at most 1,000,000 bytes each.
  'append' of a slice that shows bytes, onto a row of the call's own. No program is named here.
  A block of memory that is known whole, and how it is kept; one byte of a row of the call's own, written. No program is named here.
  What leaves all blocks but one as they were, and a row of the call's own behind it. No program is named here.
  Rows of one length, laid end to end; a block of memory that holds them; what leaves all blocks but some as they were. No program is named here.
  Expressions and schemas as Lean data, and how they lie in memory, outside some blocks. No program is named.
  How many parts an expression has (conciergelaw11's weight), counted down. Conditions: the expression is there; the number fits an int.
  What the document's Name comes to. Condition: a string's length fits an int.
-/
import Derived.WalkKit
import Derived.Below
import Derived.Deep.OwnRows
import Derived.Deep.Draws
import Derived.Lib.Hide
import Derived.Laws.IdiomStrings
import Derived.Laws.BytesArg
import Derived.Test.YtdnhbledndgbcaaGreatChecked
import Derived.Maps.AppendAt
import Derived.OwnWalk
import Derived.Deep.RegionLaw
import Derived.Laws.Rows
import Derived.Laws.CopyOwn
import Derived.Deep.MidRow
namespace Go.Proofs.YtdnhbledndgbcaaGreat
open Go.RowKit
def bv (c : UInt8) : Value := .int .u8 (c.toNat : Int)
def Seen (w : World) (A : Option Addr) (l : List UInt8) : Prop :=
  l = [] ∨ ∃ b off, A = some ⟨b, off, none⟩ ∧ b < w.heap.size ∧ ∀ j (h : j < l.length), w.cell? ⟨b, off + j, none⟩ = some (.int .u8 (l[j].toNat : Int))
section
variable {w w' : World} {A : Option Addr} {l : List UInt8}
theorem Seen.nil (w : World) (A : Option Addr) : Seen w A [] := .inl rfl
theorem Seen.at_ (h : Seen w A l) {k : Nat} (hk : k < l.length) :
    ∃ b off, A = some ⟨b, off, none⟩ ∧ b < w.heap.size ∧ w.cell? ⟨b, off + k, none⟩ = some (.int .u8 (l[k].toNat : Int)) := by
  rcases h with rfl | ⟨b, off, rfl, hb, hc⟩
  · simp at hk
  · exact ⟨b, off, rfl, hb, hc k hk⟩
theorem Seen.keep (h : Seen w A l) (hs : w.heap.size ≤ w'.heap.size) (hk : ∀ b o, b < w.heap.size → w'.cell? ⟨b, o, none⟩ = w.cell? ⟨b, o, none⟩) : Seen w' A l := by
  rcases h with rfl | ⟨b, off, rfl, hb, hc⟩
  · exact .inl rfl
  · exact .inr ⟨b, off, rfl, by omega, fun j hj => (hk _ _ hb).trans (hc j hj)⟩
theorem Seen.below (h : Seen w A l) (hb : Below w.heap.size w w') : Seen w' A l :=
  h.keep hb.size fun b o hlt => hb.cell (p := ⟨b, o, none⟩) hlt
theorem Seen.alloc (h : Seen w A l) (o : Obj) : Seen (w.alloc o) A l :=
  h.below ((Below.refl _ _).alloc (Nat.le_refl _) o)
theorem add_plain (g o j : Nat) : (⟨g, o, none⟩ : Addr).add j = ⟨g, o + j, none⟩ := by
  unfold Addr.add; split <;> simp_all
theorem Seen.of_own {base n c : Nat} {e : TypeId} (h : w.ownsRow base e 1 (.slice A n c) n (l.map bv)) : Seen w A l ∧ n = l.length := by
  have hl : n = l.length := by have := h.1; simp at this; omega
  refine ⟨?_, hl⟩
  rcases Nat.eq_zero_or_pos n with h0 | h0
  · left; exact List.eq_nil_of_length_eq_zero (by omega)
  · rcases h.2 with ⟨_, hn⟩ | ⟨g, cap, cur, hv, hb, hg, _⟩
    · omega
    · injection hv with hA
      subst hA
      have hlt : g < w.heap.size := by
        rcases Nat.lt_or_ge g w.heap.size with hlt | hge
        · exact hlt
        · rw [Array.getElem?_eq_none hge] at hg; cases hg
      refine .inr ⟨g, 0, rfl, hlt, fun j hj => ?_⟩
      have := h.cells (g := g) rfl j (bv l[j]) (by simp [hj])
      rw [add_plain] at this
      exact this
theorem Seen.of_row {b n : Nat} {t : TypeId} {f : Nat → Value} (h : w.rowIs b t n f) (hn : l.length ≤ n) (hf : ∀ i (hi : i < l.length), f i = .int .u8 (l[i].toNat : Int)) : Seen w (some ⟨b, 0, none⟩) l :=
  .inr ⟨b, 0, rfl, h.lt, fun j hj => by rw [Nat.zero_add, h.cell (by omega), hf j hj]⟩
end
theorem hop {a b c : World} (h : Below a.heap.size a b) (k : Below b.heap.size b c) : Below a.heap.size a c :=
  h.trans (k.mono h.size)
theorem below_drewN {B : Nat} {a w : World} (h : Below B a w) (n : Nat) : Below B a (w.drewN n) := ⟨h.os, h.tape, h.output, h.size, h.block⟩
theorem undrew {a w : World} (h : Below a.drew.heap.size a.drew w) : Below a.heap.size a w := ⟨h.os, h.tape, h.output, h.size, h.block⟩
end Go.Proofs.YtdnhbledndgbcaaGreat
namespace Go.Proofs.YtdnhbledndgbcaaGreat
open Go.RowKit
def lowB (c : UInt8) : Bool := decide (97 ≤ c.toNat) && decide (c.toNat ≤ 122)
def numB (c : UInt8) : Bool := decide (48 ≤ c.toNat) && decide (c.toNat ≤ 57)
def nmB (c : UInt8) : Bool := lowB c || (decide (c.toNat = 95) || numB c)
def typeW : List UInt8 := [116, 121, 112, 101]
def relW : List UInt8 := [114, 101, 108, 97, 116, 105, 111, 110]
def defW : List UInt8 := [100, 101, 102, 105, 110, 101]
def nameBad (l : List UInt8) : Prop := l.length = 0 ∨ 16 < l.length ∨ l = typeW ∨ l = relW ∨ l = defW
instance (l : List UInt8) : Decidable (nameBad l) := by unfold nameBad; infer_instance
def nameL (l : List UInt8) : Bool := !decide (nameBad l) && (lowB (l.getD 0 0) && l.all nmB)
theorem toList_data (s : ByteArray) : s.toList = s.data.toList := by
  rw [ByteArray.toList_eq]
theorem empty_iff (s : ByteArray) : s = ByteArray.empty ↔ s.data.toList.length = 0 := by
  constructor
  · rintro rfl; rfl
  · intro h
    apply ByteArray.ext
    apply Array.eq_empty_of_size_eq_zero
    simpa using h
theorem size_list (s : ByteArray) : s.data.toList.length = s.size := by simp
theorem getD_list (s : ByteArray) (k : Nat) (h : k < s.size) : s.data.toList.getD k 0 = s[k] := by
  have h' : k < s.data.toList.length := by simpa using h
  rw [List.getD_eq_getElem?_getD, List.getElem?_eq_getElem h']; rfl
theorem take_list (s : ByteArray) (k : Nat) (h : k < s.size) : s.data.toList.take (k + 1) = s.data.toList.take k ++ [s[k]] := by
  have h' : k < s.data.toList.length := by simpa using h
  rw [List.take_succ_eq_append_getElem h']; rfl
theorem all_next {p : UInt8 → Bool} (s : ByteArray) (k : Nat) (h : k < s.size) (ha : (s.data.toList.take k).all p = true) :
    (p s[k] = true → (s.data.toList.take (k + 1)).all p = true) ∧ (p s[k] = false → s.data.toList.all p = false) := by
  refine ⟨fun hp => by rw [take_list s k h, List.all_append, ha]; simp [hp], fun hp => ?_⟩
  cases hq : s.data.toList.all p
  · rfl
  · have h' : k < s.data.toList.length := by simpa using h
    have := List.all_eq_true.1 hq s[k] (List.getElem_mem h')
    rw [hp] at this; cases this
theorem all_end {p : UInt8 → Bool} (s : ByteArray) (k : Nat) (h : ¬ k < s.size) (ha : (s.data.toList.take k).all p = true) : s.data.toList.all p = true := by
  rwa [List.take_of_length_le (by simp; omega)] at ha
def NmTo (s : ByteArray) (k : Nat) : Prop := (s.data.toList.take k).all nmB = true ∧ (0 < k → lowB (s.data.toList.getD 0 0) = true)
theorem NmTo.zero (s : ByteArray) : NmTo s 0 := ⟨rfl, fun h => absurd h (by omega)⟩
theorem NmTo.low {s : ByteArray} {k : Nat} (H : NmTo s k) (h : k < s.size) (h1 : 97 ≤ s[k].toNat) (h2 : s[k].toNat ≤ 122) : NmTo s (k + 1) := by
  have hl : lowB s[k] = true := by simp [lowB, h1, h2]
  refine ⟨(all_next s k h H.1).1 (by simp [nmB, hl]), fun _ => ?_⟩
  by_cases h0 : 0 < k
  · exact H.2 h0
  · obtain rfl : k = 0 := by omega
    rw [getD_list s 0 h]; exact hl
theorem NmTo.more {s : ByteArray} {k : Nat} (H : NmTo s k) (h : k < s.size) (h0 : 0 < k) (h1 : s[k].toNat = 95 ∨ (48 ≤ s[k].toNat ∧ s[k].toNat ≤ 57)) : NmTo s (k + 1) := by
  refine ⟨(all_next s k h H.1).1 ?_, fun _ => H.2 h0⟩
  rcases h1 with h1 | ⟨h1, h2⟩
  · simp [nmB, h1]
  · simp [nmB, numB, h1, h2]
theorem NmTo.first {s : ByteArray} (h : 0 < s.size) (h1 : ¬ (97 ≤ s[0].toNat ∧ s[0].toNat ≤ 122)) : nameL s.data.toList = false := by
  have : lowB s[0] = false := by simp [lowB]; omega
  rw [nameL, getD_list s 0 h, this]; simp
theorem NmTo.other {s : ByteArray} {k : Nat} (H : NmTo s k) (h : k < s.size) (h1 : ¬ (97 ≤ s[k].toNat ∧ s[k].toNat ≤ 122)) (h2 : s[k].toNat ≠ 95) (h3 : ¬ (48 ≤ s[k].toNat ∧ s[k].toNat ≤ 57)) : nameL s.data.toList = false := by
  have hp : nmB s[k] = false := by simp [nmB, lowB, numB]; omega
  rw [nameL, (all_next s k h H.1).2 hp]; simp
theorem NmTo.done {s : ByteArray} {k : Nat} (H : NmTo s k) (h : ¬ k < s.size) (hk : 0 < k) (hb : ¬ nameBad s.data.toList) : nameL s.data.toList = true := by
  rw [nameL, H.2 hk, all_end s k h H.1]; simp [hb]
theorem name_bad {s : ByteArray} (hb : nameBad s.data.toList) : nameL s.data.toList = false := by
  rw [nameL]; simp [hb]
theorem name_parts (s : ByteArray) (hb : nameBad s.data.toList) : s = ByteArray.empty ∨ (¬ s = ByteArray.empty ∧ 16 < s.size) ∨
    (¬ s = ByteArray.empty ∧ s.size ≤ 16 ∧ s.toList = [116, 121, 112, 101]) ∨
    (¬ s = ByteArray.empty ∧ s.size ≤ 16 ∧ ¬ s.toList = [116, 121, 112, 101] ∧ s.toList = [114, 101, 108, 97, 116, 105, 111, 110]) ∨
    (¬ s = ByteArray.empty ∧ s.size ≤ 16 ∧ ¬ s.toList = [116, 121, 112, 101] ∧ ¬ s.toList = [114, 101, 108, 97, 116, 105, 111, 110] ∧ s.toList = [100, 101, 102, 105, 110, 101]) := by
  by_cases h0 : s = ByteArray.empty
  · exact .inl h0
  · by_cases h1 : 16 < s.size
    · exact .inr (.inl ⟨h0, h1⟩)
    · have h16 : s.size ≤ 16 := by omega
      rw [toList_data]
      rcases hb with h | h | h | h | h
      · exact absurd ((empty_iff s).2 h) h0
      · rw [size_list] at h; exact absurd h h1
      · exact .inr (.inr (.inl ⟨h0, h16, h⟩))
      · exact .inr (.inr (.inr (.inl ⟨h0, h16, by rw [h]; decide, h⟩)))
      · exact .inr (.inr (.inr (.inr ⟨h0, h16, by rw [h]; decide, by rw [h]; decide, h⟩)))
theorem name_fine (s : ByteArray) (hb : ¬ nameBad s.data.toList) : ((s.size : Int) == 0) = false ∧ 0 < s.size ∧ s.size ≤ 16 ∧ (s.toList == [116, 121, 112, 101]) = false ∧ (s.toList == [114, 101, 108, 97, 116, 105, 111, 110]) = false ∧ (s.toList == [100, 101, 102, 105, 110, 101]) = false := by
  simp only [toList_data, beq_eq_false_iff_ne]
  unfold nameBad at hb
  rw [size_list] at hb
  refine ⟨by omega, by omega, by omega, fun h => hb (.inr (.inr (.inl h))), fun h => hb (.inr (.inr (.inr (.inl h)))), fun h => hb (.inr (.inr (.inr (.inr h))))⟩
theorem extract_list (s : ByteArray) (a b : Nat) : s.extract a b = ⟨((s.data.toList.take b).drop a).toArray⟩ := by
  apply ByteArray.ext
  rw [ByteArray.data_extract]
  apply Array.toList_inj.1
  rw [Array.toList_extract]
  simp [List.extract, List.drop_take]
end Go.Proofs.YtdnhbledndgbcaaGreat
namespace Go.Proofs.YtdnhbledndgbcaaGreat
open Go.RowKit
abbrev Txt := List UInt8
abbrev strV (l : List UInt8) : Value := .string ⟨l.toArray⟩
theorem nonempty {l : Txt} (h : l ≠ []) : List.isEmpty l = false := by
  cases l
  · exact absurd rfl h
  · rfl
theorem nameL_len {l : Txt} (h : nameL l = true) : 0 < l.length ∧ l.length ≤ 16 := by
  unfold nameL at h
  simp only [Bool.and_eq_true, Bool.not_eq_true', decide_eq_false_iff_not] at h
  have h1 := h.1
  unfold nameBad at h1
  omega
end Go.Proofs.YtdnhbledndgbcaaGreat
namespace Go.Proofs.YtdnhbledndgbcaaGreat
open Go.RowKit
section
variable {P : Program} (w : World)
end
theorem below_grown {B : Nat} {a w w' : World} {e : TypeId} {size n : Nat} {v : Value} {xs : List Value} (h : Below B a w) (hB : B ≤ w.heap.size) (hown : w.ownsRow B e size v n xs) (hg : w.grownBy w' v.ownBlock) : Below B a w' :=
  h.grown hg hB (fun k hk => (hown.lt k hk).1)
def Made (e : TypeId) (w0 : World) (l : List UInt8) (v : Value) (w' : World) : Prop :=
  w'.ownsRow w0.heap.size e 1 v l.length (l.map bv) ∧ Below w0.heap.size w0 w'
section
variable {e : TypeId} {w0 w w' : World} {l : List UInt8} {v : Value}
theorem Made.form (h : Made e w0 l v w) : ∃ A c, v = .slice A l.length c ∧ Seen w A l := by
  have h1 := h.1
  rcases h1.2 with ⟨rfl, h0⟩ | ⟨g, cap, cur, rfl, _⟩
  · exact ⟨none, 0, by rw [h0], .inl (List.eq_nil_of_length_eq_zero h0)⟩
  · exact ⟨_, _, rfl, (Seen.of_own h1).1⟩
theorem Made.nil (e : TypeId) (w : World) : Made e w [] (.slice none 0 0) w := ⟨World.ownsRow_nil _ _ _ _, Below.refl _ _⟩
theorem Made.size (h : Made e w0 l v w) : w0.heap.size ≤ w.heap.size := h.2.size
theorem Made.drew (h : Made e w0 l v w) : Made e w0 l v w.drew := ⟨h.1.drew, h.2.drew⟩
end
def Room (e : TypeId) (w0 : World) (d : List UInt8) (n cap : Nat) (w' : World) : Prop :=
  w'.ownsRow w0.heap.size e 1 (.slice (some ⟨w0.heap.size, 0, none⟩) n cap) n (d.map bv) ∧ Below w0.heap.size w0 w'
theorem Room.made {e : TypeId} {w0 w' : World} {d : List UInt8} {n cap : Nat} (h : Room e w0 d n cap w') : n = d.length ∧ Made e w0 d (.slice (some ⟨w0.heap.size, 0, none⟩) n cap) w' := by
  have hn : n = d.length := by have := h.1.1; simp at this; omega
  subst hn
  exact ⟨rfl, h⟩
theorem Room.drew {e : TypeId} {w0 w' : World} {d : List UInt8} {n cap : Nat} (h : Room e w0 d n cap w') : Room e w0 d n cap w'.drew := ⟨h.1.drew, h.2.drew⟩
end Go.Proofs.YtdnhbledndgbcaaGreat
namespace Go.Proofs.YtdnhbledndgbcaaGreat
open Go.RowKit
def Blk (w : World) (g : Nat) (L : List Value) (t : TypeId) : Prop := w.heap[g]? = some (.cells L.toArray t (0, 0))
section
variable {w w' : World} {g i : Nat} {L : List Value} {t : TypeId}
theorem Blk.lt (h : Blk w g L t) : g < w.heap.size := by
  rcases Nat.lt_or_ge g w.heap.size with hlt | hge
  · exact hlt
  · unfold Blk at h; rw [Array.getElem?_eq_none hge] at h; cases h
theorem Blk.cell (h : Blk w g L t) (hi : i < L.length) : w.cell? ⟨g, i, none⟩ = some L[i] := by
  rw [cell_of_row w g i L.toArray t (0, 0) h]; simp [hi]
theorem Blk.free (h : Blk w g L t) (i : Nat) : w.frozen? ⟨g, i, none⟩ = false := frozen_of_row w g i L.toArray t h
theorem Blk.set (h : Blk w g L t) (i : Nat) (v : Value) : Blk (w.setCell ⟨g, i, none⟩ v) g (L.set i v) t := by
  have := heap_setCell_same w g i L.toArray t v h
  unfold Blk; rw [this]; simp
theorem Blk.other (h : Blk w g L t) (a : Addr) (v : Value) (hg : g ≠ a.block) : Blk (w.setCell a v) g L t := by
  unfold Blk; rw [heap_setCell_other w a g v hg]; exact h
theorem Blk.drew (h : Blk w g L t) : Blk w.drew g L t := h
theorem Blk.drewN (h : Blk w g L t) (n : Nat) : Blk (w.drewN n) g L t := h
theorem Blk.below {B : Nat} (h : Blk w g L t) (hb : Below B w w') (hg : g < B) : Blk w' g L t := by
  unfold Blk; rw [hb.block g hg]; exact h
theorem Blk.alloc (h : Blk w g L t) (o : Obj) : Blk (w.alloc o) g L t := by
  have := heap_alloc_old w o h.lt
  unfold Blk; rw [this]; exact h
theorem Blk.new (w : World) (L : List Value) (t : TypeId) : Blk (w.alloc (.cells L.toArray t)) w.heap.size L t := heap_alloc_new w _
end
theorem Made.at_len {e : TypeId} {w0 w : World} {l : List UInt8} {A : Option Addr} {n c : Nat} (h : Made e w0 l (.slice A n c) w) : l.length = n ∧ Seen w A l := by
  obtain ⟨A', c', hv, hs⟩ := h.form
  injection hv with h1 h2 h3
  subst h1
  exact ⟨h2.symm, hs⟩
theorem Made.set {e : TypeId} {w0 w : World} {l : List UInt8} {A : Option Addr} {n c k : Nat} (h : Made e w0 l (.slice A n c) w) (hk : k < n) (x : UInt8) :
    ∃ g, A = some ⟨g, 0, none⟩ ∧ (∃ v, w.cell? ⟨g, k, none⟩ = some v) ∧ w.frozen? ⟨g, k, none⟩ = false ∧ Made e w0 (l.set k x) (.slice A n c) (w.setCell ⟨g, k, none⟩ (.int .u8 (x.toNat : Int))) := by
  have hl := h.at_len.1
  obtain ⟨hown, hbel⟩ := h
  rcases hown.2 with ⟨hv, h0⟩ | ⟨g, cap, cur, hv, hg, hh, hnc, hcm, hcs, ht⟩
  · injection hv with _ h2 _; omega
  · injection hv with h1 h2 h3
    subst h1 h3
    have hB : Blk w g cur.toList e := by unfold Blk; rw [Array.toArray_toList]; exact hh
    have hkc : k < cur.toList.length := by rw [Array.length_toList, hcs]; omega
    refine ⟨g, rfl, ⟨_, hB.cell hkc⟩, hB.free k, ⟨⟨?_, .inr ⟨g, c, (cur.toList.set k (.int .u8 (x.toNat : Int))).toArray, ?_, hg, hB.set k _, by rw [List.length_set]; omega, hcm, ?_, ?_⟩⟩, hbel.setCell hg _⟩⟩
    · simp
    · rw [List.length_set, hl]
    · simpa using hcs
    · have hx : bv x = .int .u8 (x.toNat : Int) := rfl
      rw [List.length_set, List.map_set, ← ht, ← hx]
      simp [List.take_set]
end Go.Proofs.YtdnhbledndgbcaaGreat
namespace Go.Proofs.YtdnhbledndgbcaaGreat
open Go.RowKit
section
variable {w w' : World} {row : Option Nat}
theorem only_of_below (h : Below w.heap.size w w') (row : Option Nat) : w.grownBy w' row := ⟨h.os, h.tape, h.output, h.size, fun i hi _ => h.block i hi⟩
end
section
variable {e : TypeId} {w0 w w' : World}
theorem Made.below {l : List UInt8} {v : Value} (h : Made e w0 l v w) (hb : Below w.heap.size w w') : Made e w0 l v w' :=
  ⟨h.1.kept (only_of_below hb none) (by cases v.ownBlock <;> simp), hop h.2 hb⟩
end
end Go.Proofs.YtdnhbledndgbcaaGreat
namespace Go.Proofs.YtdnhbledndgbcaaGreat
open Go.RowKit
section
variable {α : Type} {m : Nat}
end
section
variable {w : World} {g m : Nat} {R : List (List Value)} {t : TypeId}
end
structure Spared (w w' : World) (F : Nat → Prop) : Prop where
  os : w'.os = w.os
  tape : w'.tape = w.tape
  output : w'.output = w.output
  size : w.heap.size ≤ w'.heap.size
  block : ∀ k, k < w.heap.size → ¬ F k → w'.heap[k]? = w.heap[k]?
section
variable {w w' w'' : World} {F G : Nat → Prop}
theorem Spared.refl (w : World) (F : Nat → Prop) : Spared w w F := ⟨rfl, rfl, rfl, Nat.le_refl _, fun _ _ _ => rfl⟩
theorem Spared.trans (h : Spared w w' F) (k : Spared w' w'' G) (hG : ∀ i, G i → F i ∨ w.heap.size ≤ i) : Spared w w'' F :=
  ⟨k.os.trans h.os, k.tape.trans h.tape, k.output.trans h.output, Nat.le_trans h.size k.size, fun i hi hn =>
    (k.block i (Nat.lt_of_lt_of_le hi h.size) (fun hg => (hG i hg).elim hn (fun hs => by omega))).trans (h.block i hi hn)⟩
theorem Spared.of_below (h : Below w.heap.size w w') (F : Nat → Prop) : Spared w w' F := ⟨h.os, h.tape, h.output, h.size, fun k hk _ => h.block k hk⟩
theorem Spared.of_grown {row : Option Nat} (h : w.grownBy w' row) (hF : ∀ k, row = some k → k < w.heap.size → F k) : Spared w w' F :=
  ⟨h.os, h.tape, h.output, h.size, fun k hk hn => h.block k hk (fun e => hn (hF k e.symm hk))⟩
theorem Spared.below (h : Spared w w' F) {W : World} (hb : Below W.heap.size W w) (hF : ∀ k, F k → W.heap.size ≤ k) : Below W.heap.size W w' :=
  ⟨h.os.trans hb.os, h.tape.trans hb.tape, h.output.trans hb.output, Nat.le_trans hb.size h.size, fun k hk => (h.block k (Nat.lt_of_lt_of_le hk hb.size) (fun hf => by have := hF k hf; omega)).trans (hb.block k hk)⟩
theorem Spared.drew (h : Spared w w' F) : Spared w w'.drew F := ⟨h.os, h.tape, h.output, h.size, h.block⟩
theorem Spared.mono (h : Spared w w' F) (hG : ∀ k, F k → G k) : Spared w w' G := ⟨h.os, h.tape, h.output, h.size, fun k hk hn => h.block k hk (fun hf => hn (hG k hf))⟩
theorem Spared.blk {g : Nat} {L : List Value} {t : TypeId} (h : Spared w w' F) (hb : Blk w g L t) (hg : ¬ F g) : Blk w' g L t := (h.block g hb.lt hg).trans hb
theorem Spared.setCell {g : Nat} (h : Spared w w' F) (hg : F g) (i : Nat) (u : Value) : Spared w (w'.setCell ⟨g, i, none⟩ u) F :=
  ⟨h.os, h.tape, h.output, by simpa [World.setCell] using h.size, fun k hk hn => (heap_setCell_other w' ⟨g, i, none⟩ k u (fun e => hn (by rw [e]; exact hg))).trans (h.block k hk hn)⟩
theorem Spared.alloc (h : Spared w w' F) (o : Obj) : Spared w (w'.alloc o) F :=
  ⟨h.os, h.tape, h.output, by simp; exact Nat.le_succ_of_le h.size, fun k hk hn => (heap_alloc_old w' o (Nat.lt_of_lt_of_le hk h.size)).trans (h.block k hk hn)⟩
end
def Away (w : World) (F : Nat → Prop) (A : Option Addr) (l : List UInt8) : Prop :=
  l = [] ∨ ∃ b off, A = some ⟨b, off, none⟩ ∧ b < w.heap.size ∧ ¬ F b ∧ ∀ j (h : j < l.length), w.cell? ⟨b, off + j, none⟩ = some (.int .u8 (l[j].toNat : Int))
section
variable {w w' : World} {F G : Nat → Prop} {A : Option Addr} {l : List UInt8}
theorem Away.seen (h : Away w F A l) : Seen w A l := by
  rcases h with rfl | ⟨b, off, rfl, hb, _, hc⟩
  · exact .inl rfl
  · exact .inr ⟨b, off, rfl, hb, hc⟩
theorem Away.moved (h : Away w F A l) (hs : Spared w w' F) (hG : ∀ i, G i → F i ∨ w.heap.size ≤ i) : Away w' G A l := by
  rcases h with rfl | ⟨b, off, rfl, hb, hn, hc⟩
  · exact .inl rfl
  · refine .inr ⟨b, off, rfl, Nat.lt_of_lt_of_le hb hs.size, fun hg => (hG b hg).elim hn (fun h => by omega), fun j hj => ?_⟩
    exact (World.cell?_of_block (a := ⟨b, off + j, none⟩) (hs.block b hb hn)).trans (hc j hj)
end
theorem Seen.drop {w : World} {A : Option Addr} {l : List UInt8} (h : Seen w A l) (m c : Nat) (hc : l.length ≤ c) : Seen w (if c = m then A else A.map (·.add (m * 1))) (l.drop m) := by
  by_cases hm : l.length ≤ m
  · exact .inl (List.drop_eq_nil_of_le hm)
  · rcases h with rfl | ⟨b, off, rfl, hb, hc'⟩
    · simp at hm
    · rw [if_neg (by omega)]
      refine .inr ⟨b, off + m, ?_, hb, fun j hj => ?_⟩
      · rw [Nat.mul_one]; show some (Addr.add _ _) = _; rw [add_plain]
      · rw [List.length_drop] at hj
        rw [Nat.add_assoc, hc' (m + j) (by omega), List.getElem_drop]
def Ints (w : World) (A : Option Addr) (l : List Int) : Prop :=
  l = [] ∨ ∃ b off, A = some ⟨b, off, none⟩ ∧ b < w.heap.size ∧ ∀ j (h : j < l.length), w.cell? ⟨b, off + j, none⟩ = some (.int .i64 l[j])
def IntsAway (w : World) (F : Nat → Prop) (A : Option Addr) (l : List Int) : Prop :=
  l = [] ∨ ∃ b off, A = some ⟨b, off, none⟩ ∧ b < w.heap.size ∧ ¬ F b ∧ ∀ j (h : j < l.length), w.cell? ⟨b, off + j, none⟩ = some (.int .i64 l[j])
section
variable {w w' : World} {F G : Nat → Prop} {A : Option Addr} {l : List Int}
theorem Ints.below (h : Ints w A l) (hb : Below w.heap.size w w') : Ints w' A l := by
  rcases h with rfl | ⟨b, off, rfl, hlt, hc⟩
  · exact .inl rfl
  · exact .inr ⟨b, off, rfl, Nat.lt_of_lt_of_le hlt hb.size, fun j hj => (hb.cell (p := ⟨b, off + j, none⟩) hlt).trans (hc j hj)⟩
theorem IntsAway.moved (h : IntsAway w F A l) (hs : Spared w w' F) (hG : ∀ i, G i → F i ∨ w.heap.size ≤ i) : IntsAway w' G A l := by
  rcases h with rfl | ⟨b, off, rfl, hb, hn, hc⟩
  · exact .inl rfl
  · refine .inr ⟨b, off, rfl, Nat.lt_of_lt_of_le hb hs.size, fun hg => (hG b hg).elim hn (fun h => by omega), fun j hj => ?_⟩
    exact (World.cell?_of_block (a := ⟨b, off + j, none⟩) (hs.block b hb hn)).trans (hc j hj)
theorem IntsAway.at_ (h : IntsAway w F A l) (k : Nat) (hk : k < l.length) : ∃ b off, A = some ⟨b, off, none⟩ ∧ w.cell? ⟨b, off + k, none⟩ = some (.int .i64 l[k]) := by
  rcases h with rfl | ⟨b, off, rfl, _, _, hc⟩
  · simp at hk
  · exact ⟨b, off, rfl, hc k hk⟩
end
end Go.Proofs.YtdnhbledndgbcaaGreat
namespace Go.Proofs.YtdnhbledndgbcaaGreat
open Go.RowKit
inductive Ex where
  | mk (kind : Int) (name over : Txt) (kids : List Ex)
def Ex.kind : Ex → Int | .mk k _ _ _ => k
def Ex.name : Ex → Txt | .mk _ n _ _ => n
def Ex.over : Ex → Txt | .mk _ _ o _ => o
def Ex.kids : Ex → List Ex | .mk _ _ _ ks => ks
mutual
def nodes : Ex → Nat
  | .mk _ _ _ ks => nodesL ks + 1
def nodesL : List Ex → Nat
  | [] => 0
  | k :: r => nodes k + nodesL r
end
mutual
theorem Ex.all {P : Ex → Prop} (h : ∀ k n o ks, (∀ x ∈ ks, P x) → P (.mk k n o ks)) : ∀ e, P e
  | .mk k n o ks => h k n o ks (Ex.allL h ks)
theorem Ex.allL {P : Ex → Prop} (h : ∀ k n o ks, (∀ x ∈ ks, P x) → P (.mk k n o ks)) : ∀ ks : List Ex, ∀ x ∈ ks, P x
  | [], _, hx => by cases hx
  | k :: r, x, hx => (List.mem_cons.1 hx).elim (fun e => e ▸ Ex.all h k) (Ex.allL h r x)
end
def small (l : Txt) : Prop := l.length ≤ 9223372036854775807
def fitsI (k : Int) : Prop := -9223372036854775808 ≤ k ∧ k ≤ 9223372036854775807
mutual
def ExAt (W : World) (F : Nat → Prop) : Ex → List Value → Prop
  | .mk k n o ks, cs => ∃ A c, cs = [.int .i64 k, strV n, strV o, .slice A ks.length c] ∧ (fitsI k ∧ small n ∧ small o ∧ ks.length ≤ 9223372036854775807) ∧
      (ks = [] ∨ ∃ b off, A = some ⟨b, off, none⟩ ∧ b < W.heap.size ∧ ¬ F b ∧ KidsAt W F b off ks)
def KidsAt (W : World) (F : Nat → Prop) (b : Nat) : Nat → List Ex → Prop
  | _, [] => True
  | off, e :: r => (∃ cs, ExAt W F e cs ∧ ∀ i, i < 4 → W.cell? ⟨b, off + i, none⟩ = cs[i]?) ∧ KidsAt W F b (off + 4) r
end
theorem ExAt.len {W : World} {F : Nat → Prop} {e : Ex} {cs : List Value} (h : ExAt W F e cs) : cs.length = 4 := by
  obtain ⟨k, n, o, ks⟩ := e
  unfold ExAt at h
  obtain ⟨A, c, rfl, _⟩ := h
  rfl
theorem KidsAt.get {W : World} {F : Nat → Prop} {b : Nat} : ∀ {ks : List Ex} {off : Nat}, KidsAt W F b off ks → ∀ j (h : j < ks.length), ∃ cs, ExAt W F ks[j] cs ∧ ∀ i, i < 4 → W.cell? ⟨b, off + j * 4 + i, none⟩ = cs[i]?
  | [], _, _, j, h => absurd h (by simp)
  | e :: r, off, hk, 0, _ => by
    unfold KidsAt at hk
    simpa using hk.1
  | e :: r, off, hk, j + 1, h => by
    unfold KidsAt at hk
    obtain ⟨cs, h1, h2⟩ := KidsAt.get hk.2 j (by simpa using h)
    refine ⟨cs, h1, fun i hi => ?_⟩
    rw [← h2 i hi]
    congr 2
    omega
theorem KidsAt.of {W : World} {F : Nat → Prop} {b : Nat} : ∀ {ks : List Ex} {off : Nat}, (∀ j (h : j < ks.length), ∃ cs, ExAt W F ks[j] cs ∧ ∀ i, i < 4 → W.cell? ⟨b, off + j * 4 + i, none⟩ = cs[i]?) → KidsAt W F b off ks
  | [], _, _ => by unfold KidsAt; trivial
  | e :: r, off, h => by
    unfold KidsAt
    refine ⟨?_, KidsAt.of (fun j hj => ?_)⟩
    · obtain ⟨cs, h1, h2⟩ := h 0 (by simp)
      exact ⟨cs, h1, fun i hi => by simpa using h2 i hi⟩
    obtain ⟨cs, h1, h2⟩ := h (j + 1) (by simpa using hj)
    refine ⟨cs, h1, fun i hi => ?_⟩
    rw [← h2 i hi]
    congr 2
    omega
theorem Spared.cellOf {W W' : World} {F : Nat → Prop} (hs : Spared W W' F) {b : Nat} (hb : b < W.heap.size) (hF : ¬ F b) (o : Nat) : W'.cell? ⟨b, o, none⟩ = W.cell? ⟨b, o, none⟩ := by
  have := hs.block b hb hF
  simp [World.cell?, this]
theorem ExAt.moved {W W' : World} {F G : Nat → Prop} (hs : Spared W W' F) (hG : ∀ i, G i → F i ∨ W.heap.size ≤ i) : ∀ (e : Ex) (cs : List Value), ExAt W F e cs → ExAt W' G e cs := by
  intro e
  refine Ex.all (P := fun e => ∀ cs, ExAt W F e cs → ExAt W' G e cs) (fun k n o ks ih cs h => ?_) e
  unfold ExAt at h ⊢
  obtain ⟨A, c, rfl, hb, h⟩ := h
  refine ⟨A, c, rfl, hb, ?_⟩
  rcases h with h | ⟨b, off, rfl, hlt, hF, hk⟩
  · exact .inl h
  · refine .inr ⟨b, off, rfl, Nat.lt_of_lt_of_le hlt hs.size, fun hg => (hG b hg).elim hF (fun h => by omega), KidsAt.of (fun j hj => ?_)⟩
    obtain ⟨cs, h1, h2⟩ := hk.get j hj
    exact ⟨cs, ih _ (List.getElem_mem hj) cs h1, fun i hi => by rw [hs.cellOf hlt hF]; exact h2 i hi⟩
theorem ExAt.below {W W' : World} {F : Nat → Prop} (hb : Below W.heap.size W W') {e : Ex} {cs : List Value} (h : ExAt W F e cs) : ExAt W' F e cs :=
  ExAt.moved (Spared.of_below hb F) (fun _ h => .inl h) e cs h
def RowAt {α : Type} (n : Nat) (R : World → (Nat → Prop) → α → List Value → Prop) (W : World) (F : Nat → Prop) (A : Option Addr) (l : List α) : Prop :=
  l = [] ∨ ∃ b off, A = some ⟨b, off, none⟩ ∧ b < W.heap.size ∧ ¬ F b ∧ ∀ j (h : j < l.length), ∃ cs, R W F l[j] cs ∧ ∀ i, i < n → W.cell? ⟨b, off + j * n + i, none⟩ = cs[i]?
theorem RowAt.moved {α : Type} {n : Nat} {R : World → (Nat → Prop) → α → List Value → Prop} {W W' : World} {F G : Nat → Prop} {A : Option Addr} {l : List α} (hs : Spared W W' F) (hG : ∀ i, G i → F i ∨ W.heap.size ≤ i)
    (hR : ∀ x ∈ l, ∀ cs, R W F x cs → R W' G x cs) (h : RowAt n R W F A l) : RowAt n R W' G A l := by
  rcases h with h | ⟨b, off, rfl, hlt, hF, hk⟩
  · exact .inl h
  · refine .inr ⟨b, off, rfl, Nat.lt_of_lt_of_le hlt hs.size, fun hg => (hG b hg).elim hF (fun h => by omega), fun j hj => ?_⟩
    obtain ⟨cs, h1, h2⟩ := hk j hj
    exact ⟨cs, hR _ (List.getElem_mem hj) cs h1, fun i hi => by rw [hs.cellOf hlt hF]; exact h2 i hi⟩
theorem ExAt.row {W : World} {F : Nat → Prop} {k : Int} {n o : Txt} {ks : List Ex} {cs : List Value} (h : ExAt W F (.mk k n o ks) cs) : ∃ A c, cs = [.int .i64 k, strV n, strV o, .slice A ks.length c] ∧ (fitsI k ∧ small n ∧ small o ∧ ks.length ≤ 9223372036854775807) ∧ RowAt 4 ExAt W F A ks := by
  unfold ExAt at h
  obtain ⟨A, c, h1, h2, h3⟩ := h
  refine ⟨A, c, h1, h2, ?_⟩
  rcases h3 with h3 | ⟨b, off, rfl, hlt, hF, hk⟩
  · exact .inl h3
  · exact .inr ⟨b, off, rfl, hlt, hF, fun j hj => hk.get j hj⟩
theorem ExAt.of_row {W : World} {F : Nat → Prop} {k : Int} {n o : Txt} {ks : List Ex} {A : Option Addr} {c : Nat} (hb : fitsI k ∧ small n ∧ small o ∧ ks.length ≤ 9223372036854775807) (h : RowAt 4 ExAt W F A ks) : ExAt W F (.mk k n o ks) [.int .i64 k, strV n, strV o, .slice A ks.length c] := by
  unfold ExAt
  refine ⟨A, c, rfl, hb, ?_⟩
  rcases h with h | ⟨b, off, rfl, hlt, hF, hk⟩
  · exact .inl h
  · exact .inr ⟨b, off, rfl, hlt, hF, KidsAt.of hk⟩
abbrev Rf := Txt × Txt
structure Rl where
  name : Txt
  refs : List Rf
  expr : Ex
structure Ty where
  name : Txt
  rels : List Rl
abbrev Sc := List Ty
def RfAt (_ : World) (_ : Nat → Prop) (x : Rf) (cs : List Value) : Prop := cs = [strV x.1, strV x.2] ∧ small x.1 ∧ small x.2
def RlAt (W : World) (F : Nat → Prop) (x : Rl) (cs : List Value) : Prop := ∃ A c es, cs = strV x.name :: .slice A x.refs.length c :: es ∧ (small x.name ∧ x.refs.length ≤ 9223372036854775807) ∧ RowAt 2 RfAt W F A x.refs ∧ ExAt W F x.expr es
def TyAt (W : World) (F : Nat → Prop) (x : Ty) (cs : List Value) : Prop := ∃ A c, cs = [strV x.name, .slice A x.rels.length c] ∧ ((small x.name ∧ x.rels.length ≤ c) ∧ x.rels.length ≤ 9223372036854775807) ∧ RowAt 6 RlAt W F A x.rels
def ScAt (W : World) (F : Nat → Prop) (A : Option Addr) (s : Sc) : Prop := RowAt 2 TyAt W F A s
section
variable {W W' : World} {F G : Nat → Prop}
theorem RlAt.moved (hs : Spared W W' F) (hG : ∀ i, G i → F i ∨ W.heap.size ≤ i) {x : Rl} {cs : List Value} (h : RlAt W F x cs) : RlAt W' G x cs := by
  obtain ⟨A, c, es, h1, h2, h3, h4⟩ := h
  exact ⟨A, c, es, h1, h2, h3.moved hs hG (fun _ _ _ h => h), ExAt.moved hs hG _ _ h4⟩
theorem TyAt.moved (hs : Spared W W' F) (hG : ∀ i, G i → F i ∨ W.heap.size ≤ i) {x : Ty} {cs : List Value} (h : TyAt W F x cs) : TyAt W' G x cs := by
  obtain ⟨A, c, h1, h2, h3⟩ := h
  exact ⟨A, c, h1, h2, h3.moved hs hG (fun _ _ _ h => h.moved hs hG)⟩
theorem ScAt.moved (hs : Spared W W' F) (hG : ∀ i, G i → F i ∨ W.heap.size ≤ i) {A : Option Addr} {s : Sc} (h : ScAt W F A s) : ScAt W' G A s :=
  RowAt.moved hs hG (fun _ _ _ h => h.moved hs hG) h
theorem ScAt.below (hb : Below W.heap.size W W') {A : Option Addr} {s : Sc} (h : ScAt W F A s) : ScAt W' F A s := h.moved (Spared.of_below hb F) (fun _ h => .inl h)
theorem RlAt.below (hb : Below W.heap.size W W') {x : Rl} {cs : List Value} (h : RlAt W F x cs) : RlAt W' F x cs := h.moved (Spared.of_below hb F) (fun _ h => .inl h)
theorem TyAt.below (hb : Below W.heap.size W W') {x : Ty} {cs : List Value} (h : TyAt W F x cs) : TyAt W' F x cs := h.moved (Spared.of_below hb F) (fun _ h => .inl h)
end
end Go.Proofs.YtdnhbledndgbcaaGreat
namespace Go.Proofs.YtdnhbledndgbcaaGreat
open Go.RowKit
def ExFour (W : World) (b o : Nat) (k : Int) (n v : Txt) (A : Option Addr) (m c : Nat) : Prop :=
  W.cell? ⟨b, o, none⟩ = some (.int .i64 k) ∧ W.cell? ⟨b, o + 1, none⟩ = some (strV n) ∧ W.cell? ⟨b, o + 2, none⟩ = some (strV v) ∧ W.cell? ⟨b, o + 3, none⟩ = some (.slice A m c)
theorem RowAt.kid {W : World} {F : Nat → Prop} {A : Option Addr} {ks : List Ex} (h : RowAt 4 ExAt W F A ks) {j : Nat} (hj : j < ks.length) :
    ∃ b off k n o A' m c, A = some ⟨b, off, none⟩ ∧ ExAt W F ks[j] [.int .i64 k, strV n, strV o, .slice A' m c] ∧ ∀ W', Below W.heap.size W W' → ExFour W' b (off + j * 4) k n o A' m c := by
  rcases h with rfl | ⟨b, off, rfl, hb, _, hk⟩
  · simp at hj
  · obtain ⟨cs, h1, h2⟩ := hk j hj
    rcases hx : ks[j] with ⟨k, n, o, xs⟩
    rw [hx] at h1
    obtain ⟨A', c, rfl, _, _⟩ := h1.row
    refine ⟨b, off, k, n, o, A', xs.length, c, rfl, h1, fun W' hW => ?_⟩
    have hc : ∀ i, i < 4 → W'.cell? ⟨b, off + j * 4 + i, none⟩ = [Value.int .i64 k, strV n, strV o, .slice A' xs.length c][i]? := fun i hi => (hW.cell (p := ⟨b, off + j * 4 + i, none⟩) hb).trans (h2 i hi)
    exact ⟨hc 0 (by decide), hc 1 (by decide), hc 2 (by decide), hc 3 (by decide)⟩
mutual
def weightE : Ex → Int → Int
  | .mk _ _ _ ks, m => if m < ks.length then 0 else weightL ks (m - 1)
def weightL : List Ex → Int → Int
  | [], m => m
  | k :: r, m => if 0 < m then weightL r (weightE k m) else m
end
theorem weightE_le : ∀ (e : Ex) (m : Int), weightE e m ≤ m ∨ (weightE e m = 0 ∧ m < 0) := by
  intro e
  refine Ex.all (P := fun e => ∀ m : Int, weightE e m ≤ m ∨ (weightE e m = 0 ∧ m < 0)) (fun k n o ks ih m => ?_) e
  have hL : ∀ (l : List Ex), (∀ x ∈ l, x ∈ ks) → ∀ m : Int, weightL l m ≤ m := by
    intro l
    induction l with
    | nil => intro _ m; unfold weightL; exact Int.le_refl _
    | cons x r ihr =>
      intro hs m
      unfold weightL
      by_cases h0 : 0 < m
      · rw [if_pos h0]
        have h1 := ihr (fun y hy => hs y (List.mem_cons_of_mem _ hy)) (weightE x m)
        rcases ih x (hs x (List.mem_cons_self ..)) m with h2 | ⟨_, h2⟩ <;> omega
      · rw [if_neg h0]; exact Int.le_refl _
  unfold weightE
  by_cases h : m < ks.length
  · rw [if_pos h]; omega
  · rw [if_neg h]
    have := hL ks (fun _ h => h) (m - 1)
    omega
theorem weightE_ge : ∀ (e : Ex) (m : Int), -1 ≤ weightE e m := by
  intro e
  refine Ex.all (P := fun e => ∀ m : Int, -1 ≤ weightE e m) (fun k n o ks ih m => ?_) e
  have hL : ∀ (l : List Ex), (∀ x ∈ l, x ∈ ks) → ∀ m : Int, -1 ≤ m → -1 ≤ weightL l m := by
    intro l
    induction l with
    | nil => intro _ m h; unfold weightL; exact h
    | cons x r ihr =>
      intro hs m hm
      unfold weightL
      by_cases h0 : 0 < m
      · rw [if_pos h0]
        exact ihr (fun y hy => hs y (List.mem_cons_of_mem _ hy)) _ (ih x (hs x (List.mem_cons_self ..)) m)
      · rw [if_neg h0]; exact hm
  unfold weightE
  by_cases h : m < ks.length
  · rw [if_pos h]; omega
  · rw [if_neg h]
    exact hL ks (fun _ h => h) _ (by omega)
set_option maxHeartbeats 1000000 in
theorem weight_any : ∀ (e : Ex) (W : World) (F : Nat → Prop) (cs : List Value) (m : Int), ExAt W F e cs → -9223372036854775808 ≤ m ∧ m ≤ 9223372036854775807 →
    Calls Tryz.prog 14 #[.agg cs.toArray, .int .i64 m] W fun e' w' => e' = .returned (.int .i64 (weightE e m)) ∧ Below W.heap.size W w' := by
  intro e
  refine Ex.all (P := fun e => ∀ (W : World) (F : Nat → Prop) (cs : List Value) (m : Int), ExAt W F e cs → -9223372036854775808 ≤ m ∧ m ≤ 9223372036854775807 →
    Calls Tryz.prog 14 #[.agg cs.toArray, .int .i64 m] W fun e' w' => e' = .returned (.int .i64 (weightE e m)) ∧ Below W.heap.size W w') (fun k n o ks ih W F cs m hE hm => ?_) e
  obtain ⟨A, c, rfl, ⟨_, _, _, hl⟩, hr⟩ := hE.row
  show Calls _ _ #[.agg #[.int .i64 k, strV n, strV o, .slice A ks.length c], .int .i64 m] _ _
  obtain ⟨m1, m2⟩ := hm
  obtain ⟨W1, hW⟩ : ∃ W1, W1 = W.alloc (.cells #[.int .i64 k, strV n, strV o, .slice A ks.length c] 44) := ⟨_, rfl⟩
  have HK0 : Hid (Blk W1 W.heap.size [.int .i64 k, strV n, strV o, .slice A ks.length c] 44) := by rw [hW]; exact Lib.hid (Blk.new W _ _)
  have HB0 : Hid (Below W.heap.size W W1) := by rw [hW]; exact Lib.hid ((Below.refl W.heap.size W).alloc (Nat.le_refl _) _)
  have HR := Lib.hid hr
  have HI := Lib.hid ih
  have HW := Lib.hid hW
  clear ih hr hE hW
  unfold weightE
  by_cases h : m < ks.length
  · rw [if_pos h]
    go_enter Tryz.func14, Tryz.ntmps14
    go_wp2_with fail
    go_ret
    exact ⟨rfl, by rw [← HW.out]; exact HB0.out⟩
  · rw [if_neg h]
    have h0 : (ks.length : Int) ≤ m := by omega
    obtain ⟨v, hv⟩ : ∃ v, v = weightL ks (m - 1) := ⟨_, rfl⟩
    rw [← hv]
    have HV := Lib.hid hv
    have hd : decide (m < (ks.length : Int)) = false := decide_eq_false h
    clear hv h
    go_enter Tryz.func14, Tryz.ntmps14
    go_wp2_with fail
    rw [← HW.out]
    go_loopw [1, 5] (fun s i wr => ∃ (q : Int) (j : Nat), j ≤ ks.length ∧ i = .int .i64 j ∧ s = .int .i64 q ∧ (-9223372036854775808 ≤ q ∧ q ≤ 9223372036854775807) ∧ Hid (weightL (ks.drop j) q = v) ∧ Hid (Below W1.heap.size W1 wr)) (fun _ i _ => ks.length - (intOf i).toNat)
    case atStart => exact ⟨m - 1, 0, by omega, rfl, rfl, by omega, Lib.hid HV.out.symm, Lib.hid (Below.refl _ _)⟩
    case round =>
      obtain ⟨q, j, hj, rfl, rfl, ⟨q1, q2⟩, HQ, BW⟩ := hrel
      have x3 := (HK0.out.below BW.out HK0.out.lt).cell (i := 3) (by simp)
      simp only [List.getElem_cons_succ, List.getElem_cons_zero] at x3
      by_cases hlt : j < ks.length
      · have HD := Lib.hid (List.drop_eq_getElem_cons hlt)
        by_cases hq : 0 < q
        · obtain ⟨b, off, k', n', o', A', m', c', rfl, hE', hcells⟩ := HR.out.kid hlt
          obtain ⟨z0, z1, z2, z3⟩ := hcells wr (HB0.out.trans (BW.out.mono HB0.out.size))
          have HC := Lib.hid (HI.out ks[j] (List.getElem_mem hlt) wr F _ q (hE'.below (HB0.out.trans (BW.out.mono HB0.out.size))) ⟨q1, q2⟩)
          clear hE' hcells
          obtain ⟨q', hq'⟩ : ∃ q', q' = weightE ks[j] q := ⟨_, rfl⟩
          rw [← hq'] at HC
          have hle := weightE_le ks[j] q
          rw [← hq'] at hle
          have hge := weightE_ge ks[j] q
          rw [← hq'] at hge
          have HQ2 : Hid (weightL (ks.drop (j + 1)) q' = v) := by
            show _ = _
            rw [← HQ.out, HD.out, weightL, if_pos hq, hq']
          clear hq'
          go_wp2_with (go_at_call 14; refine HC.out.mono ?_; rintro e w2 ⟨rfl, hb2⟩)
          go_roundw
          case rel => exact ⟨q', j + 1, by omega, by go_num, rfl, by omega, HQ2, Lib.hid (hop BW.out hb2)⟩
          case measure => simp [intOf]; omega
        · have HQ2 : Hid (q = v) := by
            show _ = _
            rw [← HQ.out, HD.out, weightL, if_neg hq]
          have hdq : decide (0 < q) = false := decide_eq_false hq
          go_wp2_with fail
          go_ret
          exact ⟨by rw [HQ2.out]; rfl, HB0.out.trans (BW.out.mono HB0.out.size)⟩
      · have HQ2 : Hid (q = v) := by
          show _ = _
          rw [← HQ.out, List.drop_of_length_le (by omega), weightL]
        go_wp2_with fail
        go_ret
        exact ⟨by rw [HQ2.out]; rfl, HB0.out.trans (BW.out.mono HB0.out.size)⟩
end Go.Proofs.YtdnhbledndgbcaaGreat
namespace Go.Proofs.YtdnhbledndgbcaaGreat
open Go.RowKit
set_option maxHeartbeats 400000 in
theorem refName_bad (s : ByteArray) (w : World) (hm : s.size ≤ 9223372036854775807) (hb : nameBad s.data.toList) :
    Calls Tryz.prog 62 #[.string s] w fun e w' => e = .returned (.bool false) ∧ w = w' := by
  have hp := name_parts s hb
  clear hb
  rcases hp with rfl | ⟨h0, h1⟩ | ⟨h0, h1, h2⟩ | ⟨h0, h1, h2, h3⟩ | ⟨h0, h1, h2, h3, h4⟩
  all_goals go_enter Tryz.func62, Tryz.ntmps62
  all_goals go_wp2_with fail
  all_goals go_ret
  all_goals exact ⟨rfl, rfl⟩
set_option maxHeartbeats 400000 in
theorem refName_any (s : ByteArray) (w : World) (hm : s.size ≤ 9223372036854775807) :
    Calls Tryz.prog 62 #[.string s] w fun e w' => e = .returned (.bool (nameL s.data.toList)) ∧ w = w' := by
  by_cases hb : nameBad s.data.toList
  · rw [name_bad hb]; exact refName_bad s w hm hb
  obtain ⟨h0, h1, h2, h3, h4, h5⟩ := name_fine s hb
  have HB := Lib.hid hb
  clear hb
  go_enter Tryz.func62, Tryz.ntmps62
  go_wp2_with fail
  go_loop [3] (fun i => ∃ k : Nat, k ≤ s.size ∧ i = .int .i64 k ∧ Hid (NmTo s k)) (fun i => s.size - (intOf i).toNat)
  case atStart => exact ⟨0, by omega, rfl, Lib.hid (NmTo.zero s)⟩
  case round =>
    obtain ⟨k, hk, rfl, H⟩ := hrel
    by_cases hlt : k < s.size
    · have hx := s[k].toNat_lt
      by_cases hlow : 97 ≤ s[k].toNat ∧ s[k].toNat ≤ 122
      · obtain ⟨d1, d2⟩ := hlow
        have HG := Lib.hid (H.out.low hlt d1 d2)
        go_wp2_with fail
        go_round
        case rel => exact ⟨k + 1, by omega, by go_num, HG⟩
        case measure => simp [intOf]; omega
      · by_cases h0 : 0 < k
        · have k0 : ((k : Int) == 0) = false := beq_eq_false_iff_ne.2 (by omega)
          by_cases h95 : s[k].toNat = 95
          · have HG := Lib.hid (H.out.more hlt h0 (.inl h95))
            have e95 : (s[k].toNat : Int) = 95 := by omega
            clear h95 hlow
            go_wp2_with fail
            go_round
            case rel => exact ⟨k + 1, by omega, by go_num, HG⟩
            case measure => simp [intOf]; omega
          · have e95 : ¬ (s[k].toNat : Int) = 95 := by omega
            have n95 : ((s[k].toNat : Int) != 95) = true := bne_iff_ne.2 (by omega)
            by_cases hdig : 48 ≤ s[k].toNat ∧ s[k].toNat ≤ 57
            · have HG := Lib.hid (H.out.more hlt h0 (.inr hdig))
              obtain ⟨b1, b2⟩ := hdig
              have a1 : ¬ 97 ≤ s[k].toNat := by omega
              clear h95 hlow
              go_wp2_with fail
              go_round
              case rel => exact ⟨k + 1, by omega, by go_num, HG⟩
              case measure => simp [intOf]; omega
            · have HG : Hid (nameL s.data.toList = false) := Lib.hid (H.out.other hlt hlow h95 hdig)
              have hc : s[k].toNat < 48 ∨ (48 ≤ s[k].toNat ∧ 57 < s[k].toNat ∧ s[k].toNat < 97) ∨ (48 ≤ s[k].toNat ∧ 57 < s[k].toNat ∧ 97 ≤ s[k].toNat ∧ 122 < s[k].toNat ∧ decide ((s[k].toNat : Int) ≤ 122) = false) := by simp only [decide_eq_false_iff_not]; omega
              clear h95 hlow hdig
              rcases hc with c1 | ⟨c1, c2, c3⟩ | ⟨c1, c2, c3, c4, c5⟩
              all_goals go_wp2_with fail
              all_goals go_ret
              all_goals exact ⟨by rw [HG.out]; rfl, rfl⟩
        · obtain rfl : k = 0 := by omega
          have HG : Hid (nameL s.data.toList = false) := Lib.hid (NmTo.first h1 hlow)
          have hc : s[0].toNat < 97 ∨ (97 ≤ s[0].toNat ∧ 122 < s[0].toNat ∧ decide ((s[0].toNat : Int) ≤ 122) = false) := by simp only [decide_eq_false_iff_not]; omega
          clear hlow
          rcases hc with c1 | ⟨c1, c2, c3⟩
          all_goals go_wp2_with fail
          all_goals go_ret
          all_goals exact ⟨by rw [HG.out]; rfl, rfl⟩
    · have HG : Hid (nameL s.data.toList = true) := Lib.hid (H.out.done hlt (by omega) HB.out)
      go_wp2_with fail
      all_goals go_ret
      all_goals exact ⟨by rw [HG.out]; rfl, rfl⟩
theorem refName_txt (l : Txt) (w : World) (hm : l.length ≤ 9223372036854775807) :
    Calls Tryz.prog 62 #[strV l] w fun e w' => e = .returned (.bool (nameL l)) ∧ w = w' := by
  have h := refName_any ⟨l.toArray⟩ w (by simpa [ByteArray.size] using hm)
  simpa using h
end Go.Proofs.YtdnhbledndgbcaaGreat
