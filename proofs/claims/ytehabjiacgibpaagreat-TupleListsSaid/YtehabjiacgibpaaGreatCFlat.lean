/-
  The words by which the walks of this seat speak of bytes in memory: a slice that shows a list of bytes, and how that is kept. No conditions: no program is named here.
  Names as lists of bytes: what a name is, a thing's own name, and where a text is cut. No program is named.
  Texts as values; s + t over this program; how long a name and a thing's own name are. Condition of s + t: at most 1,000,000 bytes each.
  'append' of a slice that shows bytes, onto a row of the call's own. No program is named here.
  A block of memory that is known whole, and how it is kept; one byte of a row of the call's own, written. No program is named here.
  What leaves all blocks but one as they were, and a row of the call's own behind it. No program is named here.
  Rows of one length, laid end to end; a block of memory that holds them; what leaves all blocks but some as they were. No program is named here.
-/
import Derived.WalkKit
import Derived.Below
import Derived.Deep.OwnRows
import Derived.Deep.Draws
import Derived.Lib.Hide
import Derived.Laws.IdiomStrings
import Derived.Laws.BytesArg
import Derived.Test.YtehabjiacgibpaaGreatChecked
import Derived.Maps.AppendAt
import Derived.OwnWalk
import Derived.Deep.RegionLaw
import Derived.Laws.Rows
import Derived.Laws.CopyOwn
import Derived.Deep.MidRow
namespace Go.Proofs.YtehabjiacgibpaaGreat
open Go.RowKit
def bv (c : UInt8) : Value := .int .u8 (c.toNat : Int)
def Seen (w : World) (A : Option Addr) (l : List UInt8) : Prop :=
  l = [] ∨ ∃ b off, A = some ⟨b, off, none⟩ ∧ b < w.heap.size ∧ ∀ j (h : j < l.length), w.cell? ⟨b, off + j, none⟩ = some (.int .u8 (l[j].toNat : Int))
section
variable {w w' : World} {A : Option Addr} {l : List UInt8}
theorem Seen.nil (w : World) (A : Option Addr) : Seen w A [] := .inl rfl
theorem Seen.at_ (h : Seen w A l) {k : Nat} (hk : k < l.length) :
    ∃ b off, A = some ⟨b, off, none⟩ ∧ b < w.heap.size ∧ w.cell? ⟨b, off + k, none⟩ = some (.int .u8 (l[k].toNat : Int)) := by
  rcases h with rfl | ⟨b, off, rfl, hb, hc⟩
  · simp at hk
  · exact ⟨b, off, rfl, hb, hc k hk⟩
theorem Seen.keep (h : Seen w A l) (hs : w.heap.size ≤ w'.heap.size) (hk : ∀ b o, b < w.heap.size → w'.cell? ⟨b, o, none⟩ = w.cell? ⟨b, o, none⟩) : Seen w' A l := by
  rcases h with rfl | ⟨b, off, rfl, hb, hc⟩
  · exact .inl rfl
  · exact .inr ⟨b, off, rfl, by omega, fun j hj => (hk _ _ hb).trans (hc j hj)⟩
theorem Seen.below (h : Seen w A l) (hb : Below w.heap.size w w') : Seen w' A l :=
  h.keep hb.size fun b o hlt => hb.cell (p := ⟨b, o, none⟩) hlt
theorem Seen.alloc (h : Seen w A l) (o : Obj) : Seen (w.alloc o) A l :=
  h.below ((Below.refl _ _).alloc (Nat.le_refl _) o)
theorem add_plain (g o j : Nat) : (⟨g, o, none⟩ : Addr).add j = ⟨g, o + j, none⟩ := by
  unfold Addr.add; split <;> simp_all
theorem Seen.of_own {base n c : Nat} {e : TypeId} (h : w.ownsRow base e 1 (.slice A n c) n (l.map bv)) : Seen w A l ∧ n = l.length := by
  have hl : n = l.length := by have := h.1; simp at this; omega
  refine ⟨?_, hl⟩
  rcases Nat.eq_zero_or_pos n with h0 | h0
  · left; exact List.eq_nil_of_length_eq_zero (by omega)
  · rcases h.2 with ⟨_, hn⟩ | ⟨g, cap, cur, hv, hb, hg, _⟩
    · omega
    · injection hv with hA
      subst hA
      have hlt : g < w.heap.size := by
        rcases Nat.lt_or_ge g w.heap.size with hlt | hge
        · exact hlt
        · rw [Array.getElem?_eq_none hge] at hg; cases hg
      refine .inr ⟨g, 0, rfl, hlt, fun j hj => ?_⟩
      have := h.cells (g := g) rfl j (bv l[j]) (by simp [hj])
      rw [add_plain] at this
      exact this
theorem Seen.of_row {b n : Nat} {t : TypeId} {f : Nat → Value} (h : w.rowIs b t n f) (hn : l.length ≤ n) (hf : ∀ i (hi : i < l.length), f i = .int .u8 (l[i].toNat : Int)) : Seen w (some ⟨b, 0, none⟩) l :=
  .inr ⟨b, 0, rfl, h.lt, fun j hj => by rw [Nat.zero_add, h.cell (by omega), hf j hj]⟩
end
theorem hop {a b c : World} (h : Below a.heap.size a b) (k : Below b.heap.size b c) : Below a.heap.size a c :=
  h.trans (k.mono h.size)
theorem below_drewN {B : Nat} {a w : World} (h : Below B a w) (n : Nat) : Below B a (w.drewN n) := ⟨h.os, h.tape, h.output, h.size, h.block⟩
theorem undrew {a w : World} (h : Below a.drew.heap.size a.drew w) : Below a.heap.size a w := ⟨h.os, h.tape, h.output, h.size, h.block⟩
end Go.Proofs.YtehabjiacgibpaaGreat
namespace Go.Proofs.YtehabjiacgibpaaGreat
open Go.RowKit
def lowB (c : UInt8) : Bool := decide (97 ≤ c.toNat) && decide (c.toNat ≤ 122)
def uppB (c : UInt8) : Bool := decide (65 ≤ c.toNat) && decide (c.toNat ≤ 90)
def numB (c : UInt8) : Bool := decide (48 ≤ c.toNat) && decide (c.toNat ≤ 57)
def nmB (c : UInt8) : Bool := lowB c || (decide (c.toNat = 95) || numB c)
def idB (c : UInt8) : Bool := lowB c || (uppB c || (numB c || (decide (c.toNat = 95) || (decide (c.toNat = 46) || decide (c.toNat = 45)))))
def typeW : List UInt8 := [116, 121, 112, 101]
def relW : List UInt8 := [114, 101, 108, 97, 116, 105, 111, 110]
def defW : List UInt8 := [100, 101, 102, 105, 110, 101]
def nameBad (l : List UInt8) : Prop := l.length = 0 ∨ 16 < l.length ∨ l = typeW ∨ l = relW ∨ l = defW
instance (l : List UInt8) : Decidable (nameBad l) := by unfold nameBad; infer_instance
def nameL (l : List UInt8) : Bool := !decide (nameBad l) && (lowB (l.getD 0 0) && l.all nmB)
def idL (l : List UInt8) : Bool := !decide (l.length = 0 ∨ 24 < l.length) && l.all idB
theorem toList_data (s : ByteArray) : s.toList = s.data.toList := by
  rw [ByteArray.toList_eq]
theorem empty_iff (s : ByteArray) : s = ByteArray.empty ↔ s.data.toList.length = 0 := by
  constructor
  · rintro rfl; rfl
  · intro h
    apply ByteArray.ext
    apply Array.eq_empty_of_size_eq_zero
    simpa using h
theorem size_list (s : ByteArray) : s.data.toList.length = s.size := by simp
theorem getD_list (s : ByteArray) (k : Nat) (h : k < s.size) : s.data.toList.getD k 0 = s[k] := by
  have h' : k < s.data.toList.length := by simpa using h
  rw [List.getD_eq_getElem?_getD, List.getElem?_eq_getElem h']; rfl
theorem take_list (s : ByteArray) (k : Nat) (h : k < s.size) : s.data.toList.take (k + 1) = s.data.toList.take k ++ [s[k]] := by
  have h' : k < s.data.toList.length := by simpa using h
  rw [List.take_succ_eq_append_getElem h']; rfl
theorem all_next {p : UInt8 → Bool} (s : ByteArray) (k : Nat) (h : k < s.size) (ha : (s.data.toList.take k).all p = true) :
    (p s[k] = true → (s.data.toList.take (k + 1)).all p = true) ∧ (p s[k] = false → s.data.toList.all p = false) := by
  refine ⟨fun hp => by rw [take_list s k h, List.all_append, ha]; simp [hp], fun hp => ?_⟩
  cases hq : s.data.toList.all p
  · rfl
  · have h' : k < s.data.toList.length := by simpa using h
    have := List.all_eq_true.1 hq s[k] (List.getElem_mem h')
    rw [hp] at this; cases this
theorem all_end {p : UInt8 → Bool} (s : ByteArray) (k : Nat) (h : ¬ k < s.size) (ha : (s.data.toList.take k).all p = true) : s.data.toList.all p = true := by
  rwa [List.take_of_length_le (by simp; omega)] at ha
def NmTo (s : ByteArray) (k : Nat) : Prop := (s.data.toList.take k).all nmB = true ∧ (0 < k → lowB (s.data.toList.getD 0 0) = true)
theorem NmTo.zero (s : ByteArray) : NmTo s 0 := ⟨rfl, fun h => absurd h (by omega)⟩
theorem NmTo.low {s : ByteArray} {k : Nat} (H : NmTo s k) (h : k < s.size) (h1 : 97 ≤ s[k].toNat) (h2 : s[k].toNat ≤ 122) : NmTo s (k + 1) := by
  have hl : lowB s[k] = true := by simp [lowB, h1, h2]
  refine ⟨(all_next s k h H.1).1 (by simp [nmB, hl]), fun _ => ?_⟩
  by_cases h0 : 0 < k
  · exact H.2 h0
  · obtain rfl : k = 0 := by omega
    rw [getD_list s 0 h]; exact hl
theorem NmTo.more {s : ByteArray} {k : Nat} (H : NmTo s k) (h : k < s.size) (h0 : 0 < k) (h1 : s[k].toNat = 95 ∨ (48 ≤ s[k].toNat ∧ s[k].toNat ≤ 57)) : NmTo s (k + 1) := by
  refine ⟨(all_next s k h H.1).1 ?_, fun _ => H.2 h0⟩
  rcases h1 with h1 | ⟨h1, h2⟩
  · simp [nmB, h1]
  · simp [nmB, numB, h1, h2]
theorem NmTo.first {s : ByteArray} (h : 0 < s.size) (h1 : ¬ (97 ≤ s[0].toNat ∧ s[0].toNat ≤ 122)) : nameL s.data.toList = false := by
  have : lowB s[0] = false := by simp [lowB]; omega
  rw [nameL, getD_list s 0 h, this]; simp
theorem NmTo.other {s : ByteArray} {k : Nat} (H : NmTo s k) (h : k < s.size) (h1 : ¬ (97 ≤ s[k].toNat ∧ s[k].toNat ≤ 122)) (h2 : s[k].toNat ≠ 95) (h3 : ¬ (48 ≤ s[k].toNat ∧ s[k].toNat ≤ 57)) : nameL s.data.toList = false := by
  have hp : nmB s[k] = false := by simp [nmB, lowB, numB]; omega
  rw [nameL, (all_next s k h H.1).2 hp]; simp
theorem NmTo.done {s : ByteArray} {k : Nat} (H : NmTo s k) (h : ¬ k < s.size) (hk : 0 < k) (hb : ¬ nameBad s.data.toList) : nameL s.data.toList = true := by
  rw [nameL, H.2 hk, all_end s k h H.1]; simp [hb]
theorem name_bad {s : ByteArray} (hb : nameBad s.data.toList) : nameL s.data.toList = false := by
  rw [nameL]; simp [hb]
theorem name_parts (s : ByteArray) (hb : nameBad s.data.toList) : s = ByteArray.empty ∨ (¬ s = ByteArray.empty ∧ 16 < s.size) ∨
    (¬ s = ByteArray.empty ∧ s.size ≤ 16 ∧ s.toList = [116, 121, 112, 101]) ∨
    (¬ s = ByteArray.empty ∧ s.size ≤ 16 ∧ ¬ s.toList = [116, 121, 112, 101] ∧ s.toList = [114, 101, 108, 97, 116, 105, 111, 110]) ∨
    (¬ s = ByteArray.empty ∧ s.size ≤ 16 ∧ ¬ s.toList = [116, 121, 112, 101] ∧ ¬ s.toList = [114, 101, 108, 97, 116, 105, 111, 110] ∧ s.toList = [100, 101, 102, 105, 110, 101]) := by
  by_cases h0 : s = ByteArray.empty
  · exact .inl h0
  · by_cases h1 : 16 < s.size
    · exact .inr (.inl ⟨h0, h1⟩)
    · have h16 : s.size ≤ 16 := by omega
      rw [toList_data]
      rcases hb with h | h | h | h | h
      · exact absurd ((empty_iff s).2 h) h0
      · rw [size_list] at h; exact absurd h h1
      · exact .inr (.inr (.inl ⟨h0, h16, h⟩))
      · exact .inr (.inr (.inr (.inl ⟨h0, h16, by rw [h]; decide, h⟩)))
      · exact .inr (.inr (.inr (.inr ⟨h0, h16, by rw [h]; decide, by rw [h]; decide, h⟩)))
theorem name_fine (s : ByteArray) (hb : ¬ nameBad s.data.toList) : ((s.size : Int) == 0) = false ∧ 0 < s.size ∧ s.size ≤ 16 ∧ (s.toList == [116, 121, 112, 101]) = false ∧ (s.toList == [114, 101, 108, 97, 116, 105, 111, 110]) = false ∧ (s.toList == [100, 101, 102, 105, 110, 101]) = false := by
  simp only [toList_data, beq_eq_false_iff_ne]
  unfold nameBad at hb
  rw [size_list] at hb
  refine ⟨by omega, by omega, by omega, fun h => hb (.inr (.inr (.inl h))), fun h => hb (.inr (.inr (.inr (.inl h)))), fun h => hb (.inr (.inr (.inr (.inr h))))⟩
theorem id_class (c : Nat) : (97 ≤ c ∧ c ≤ 122) ∨ (65 ≤ c ∧ c ≤ 90) ∨ (48 ≤ c ∧ c ≤ 57) ∨ (c : Int) = 95 ∨ (c : Int) = 46 ∨ (c : Int) = 45 ∨
    ((c < 48 ∨ (48 ≤ c ∧ 57 < c ∧ c < 65 ∧ decide ((c : Int) ≤ 57) = false) ∨ (48 ≤ c ∧ 57 < c ∧ 65 ≤ c ∧ 90 < c ∧ c < 97 ∧ decide ((c : Int) ≤ 57) = false ∧ decide ((c : Int) ≤ 90) = false) ∨
      (48 ≤ c ∧ 57 < c ∧ 65 ≤ c ∧ 90 < c ∧ 97 ≤ c ∧ 122 < c ∧ decide ((c : Int) ≤ 57) = false ∧ decide ((c : Int) ≤ 90) = false ∧ decide ((c : Int) ≤ 122) = false)) ∧
     (¬ (c : Int) = 95 ∧ ((c : Int) != 95) = true) ∧ (¬ (c : Int) = 46 ∧ ((c : Int) != 46) = true) ∧ (¬ (c : Int) = 45 ∧ ((c : Int) != 45) = true)) := by
  simp only [decide_eq_false_iff_not, bne_iff_ne, ne_eq]
  omega
theorem id_yes {c : UInt8} (h : (97 ≤ c.toNat ∧ c.toNat ≤ 122) ∨ (65 ≤ c.toNat ∧ c.toNat ≤ 90) ∨ (48 ≤ c.toNat ∧ c.toNat ≤ 57) ∨ (c.toNat : Int) = 95 ∨ (c.toNat : Int) = 46 ∨ (c.toNat : Int) = 45) : idB c = true := by
  simp only [idB, lowB, uppB, numB, Bool.or_eq_true, Bool.and_eq_true, decide_eq_true_eq]; omega
theorem id_no {c : UInt8} (h : c.toNat < 48 ∨ (57 < c.toNat ∧ c.toNat < 65) ∨ (90 < c.toNat ∧ c.toNat < 97) ∨ 122 < c.toNat) (h1 : ¬ (c.toNat : Int) = 95) (h2 : ¬ (c.toNat : Int) = 46) (h3 : ¬ (c.toNat : Int) = 45) : idB c = false := by
  cases hc : idB c
  · rfl
  · simp only [idB, lowB, uppB, numB, Bool.or_eq_true, Bool.and_eq_true, decide_eq_true_eq] at hc; omega
theorem id_fine (s : ByteArray) (hb : ¬ (s.data.toList.length = 0 ∨ 24 < s.data.toList.length)) : ((s.size : Int) == 0) = false ∧ 0 < s.size ∧ s.size ≤ 24 ∧ decide (24 < (s.size : Int)) = false := by
  simp only [beq_eq_false_iff_ne, decide_eq_false_iff_not]
  rw [size_list] at hb
  omega
theorem id_bad {s : ByteArray} (hb : s.data.toList.length = 0 ∨ 24 < s.data.toList.length) : idL s.data.toList = false := by
  rw [idL]; simp only [decide_eq_true hb]; rfl
theorem id_done {s : ByteArray} {k : Nat} (H : (s.data.toList.take k).all idB = true) (h : ¬ k < s.size) (hb : ¬ (s.data.toList.length = 0 ∨ 24 < s.data.toList.length)) : idL s.data.toList = true := by
  rw [idL, all_end s k h H, decide_eq_false hb]; rfl
theorem id_other {s : ByteArray} {k : Nat} (H : (s.data.toList.take k).all idB = true) (h : k < s.size) (hp : idB s[k] = false) : idL s.data.toList = false := by
  rw [idL, (all_next s k h H).2 hp]; simp
def cutL : List UInt8 → UInt8 → List UInt8 × List UInt8 × Bool
  | [], _ => ([], [], false)
  | x :: r, c => if x = c then ([], r, true) else (x :: (cutL r c).1, (cutL r c).2.1, (cutL r c).2.2)
theorem cutL_at (l : List UInt8) (c : UInt8) : ∀ k (h : k < l.length), l[k] = c → (∀ j (hj : j < k), l[j]'(by omega) ≠ c) → cutL l c = (l.take k, l.drop (k + 1), true) := by
  induction l with
  | nil => intro k h; exact absurd h (by simp)
  | cons x r ih =>
    intro k h hc hn
    cases k with
    | zero => simp only [List.getElem_cons_zero] at hc; simp [cutL, hc]
    | succ k =>
      have h0 := hn 0 (by omega)
      simp only [List.getElem_cons_zero] at h0
      have e := ih k (by simpa using h) (by simpa using hc) (fun j hj => by have := hn (j + 1) (by omega); simpa using this)
      simp [cutL, h0, e]
theorem cutL_none (l : List UInt8) (c : UInt8) : (∀ j (hj : j < l.length), l[j] ≠ c) → cutL l c = (l, [], false) := by
  induction l with
  | nil => intro _; rfl
  | cons x r ih =>
    intro hn
    have h0 := hn 0 (by simp)
    simp only [List.getElem_cons_zero] at h0
    have e := ih (fun j hj => by have := hn (j + 1) (by simpa using hj); simpa using this)
    simp [cutL, h0, e]
theorem extract_list (s : ByteArray) (a b : Nat) : s.extract a b = ⟨((s.data.toList.take b).drop a).toArray⟩ := by
  apply ByteArray.ext
  rw [ByteArray.data_extract]
  apply Array.toList_inj.1
  rw [Array.toList_extract]
  simp [List.extract, List.drop_take]
theorem of_list (s : ByteArray) : s = ⟨s.data.toList.toArray⟩ := by simp
end Go.Proofs.YtehabjiacgibpaaGreat
namespace Go.Proofs.YtehabjiacgibpaaGreat
open Go.RowKit
abbrev Txt := List UInt8
abbrev strV (l : List UInt8) : Value := .string ⟨l.toArray⟩
theorem plus (a b : List UInt8) (ha : a.length ≤ 1000000) (hb : b.length ≤ 1000000) (w : World) :
    (Op.stringOp .add ⟨a.toArray⟩ ⟨b.toArray⟩).run Tryz.prog w = .ok (strV (a ++ b)) w := by
  have e : (⟨a.toArray⟩ : ByteArray) ++ ⟨b.toArray⟩ = ⟨(a ++ b).toArray⟩ := by
    apply ByteArray.ext
    simp
  have hs : ¬ ((((⟨a.toArray⟩ : ByteArray).size + (⟨b.toArray⟩ : ByteArray).size : Nat) : Int) > IntKind.i64.max) := by
    have h1 : (⟨a.toArray⟩ : ByteArray).size = a.length := by simp [ByteArray.size]
    have h2 : (⟨b.toArray⟩ : ByteArray).size = b.length := by simp [ByteArray.size]
    rw [h1, h2]
    have : IntKind.i64.max = 9223372036854775807 := by decide
    omega
  unfold Op.stringOp
  simp only [if_neg hs, e]
  rfl
theorem nonempty {l : Txt} (h : l ≠ []) : List.isEmpty l = false := by
  cases l
  · exact absurd rfl h
  · rfl
theorem nameL_len {l : Txt} (h : nameL l = true) : 0 < l.length ∧ l.length ≤ 16 := by
  unfold nameL at h
  simp only [Bool.and_eq_true, Bool.not_eq_true', decide_eq_false_iff_not] at h
  have h1 := h.1
  unfold nameBad at h1
  omega
theorem idL_len {l : Txt} (h : idL l = true) : 0 < l.length ∧ l.length ≤ 24 := by
  unfold idL at h
  simp only [Bool.and_eq_true, Bool.not_eq_true', decide_eq_false_iff_not] at h
  omega
end Go.Proofs.YtehabjiacgibpaaGreat
namespace Go.Proofs.YtehabjiacgibpaaGreat
open Go.RowKit
section
variable {P : Program} (w : World)
theorem run_append_nought (base : Nat) (t ty e : TypeId) (i : TypeInfo) (size : Nat) (ht : P.underlying t = some (.slice e)) (hi : P.info? e = some i)
    (v : Value) (n : Nat) (xs : List Value) (hown : w.ownsRow base e size v n xs) (c : Nat) :
    (Builtin.append_ #[t, t] ty #[v, .slice none 0 c]).run P w = .ok v w := by
  rcases hown.2 with ⟨rfl, rfl⟩ | ⟨g, cap, cur, rfl, _, _, hnc, _⟩
  · simp [Builtin.append_, run_underlying ht, sizeOf, typeInfo, hi, Builtin.lenOf, Builtin.firstCells]
  · simp [Builtin.append_, run_underlying ht, sizeOf, typeInfo, hi, Builtin.lenOf, Builtin.firstCells, hnc, storeCells]
theorem bytes_one (l : List UInt8) : ∀ u ∈ l.map bv, u.oneCell' = true := by
  intro u hu
  obtain ⟨c, _, rfl⟩ := List.mem_map.1 hu
  rfl
theorem run_append_seen (base : Nat) (t ty e : TypeId) (i : TypeInfo) (z : Value) (ht : P.underlying t = some (.slice e)) (hi : P.info? e = some i) (hz : i.zero = some z)
    (hsize : i.size = 1) (hby : i.bytes = 1) (hzs : z.cells.size = 1)
    (v : Value) (n : Nat) (xs : List Value) (hown : w.ownsRow base e 1 v n xs)
    (A : Option Addr) (l : List UInt8) (c : Nat) (hr : Seen w A l) (hb : n + l.length ≤ 140737488355328) (hbase : base ≤ w.heap.size) :
    ∃ v' w', (Builtin.append_ #[t, t] ty #[v, .slice A l.length c]).run P w = .ok v' w' ∧ w'.ownsRow base e 1 v' (n + l.length) (xs ++ l.map bv) ∧ w.grownBy w' v.ownBlock ∧
      (v'.ownBlock = v.ownBlock ∨ v'.ownBlock = some w.heap.size) := by
  rcases A with _ | ad
  · obtain rfl : l = [] := by
      rcases hr with h | ⟨_, _, h, _⟩
      · exact h
      · cases h
    exact ⟨v, w, run_append_nought w base t ty e i 1 ht hi v n xs hown c, by simpa using hown, World.grownBy.refl w _, .inl rfl⟩
  · have hcells : ∀ j u, (l.map bv)[j]? = some u → w.cell? (ad.add j) = some u := by
      intro j u hu
      obtain ⟨hj, hju⟩ := List.getElem?_eq_some_iff.1 hu
      rw [List.length_map] at hj
      obtain ⟨b, off, ha, _, hc⟩ := hr.at_ hj
      injection ha with ha
      subst ha
      rw [add_plain, hc, ← hju, List.getElem_map]
      rfl
    obtain ⟨v', w', hrun, h2, h3, _, h5⟩ := run_append_own_at (P := P) w base t ty e i z 1 1 ht hi hz hsize hby hzs (by decide) v n xs hown ad l.length c (l.map bv) (by simp) hcells (bytes_one l) (by unfold maxLen; omega) (by omega) hbase
    exact ⟨v', w', hrun, h2, h3, h5⟩
theorem wpList_append_seen {ops : Array Oper} {rest : List Oper} {o : Oper} {a : Act} {Q : Exit → Act → World → Prop} (hgd : o.guard = none) (s x : Operand) (t : TypeId)
    (ho : o.op = .call { callee := .builtin .append, args := #[s, x], argTypes := #[t, t] })
    (base : Nat) (e : TypeId) (i : TypeInfo) (z : Value) (ht : P.underlying t = some (.slice e)) (hi : P.info? e = some i) (hz : i.zero = some z)
    (hsize : i.size = 1) (hby : i.bytes = 1) (hzs : z.cells.size = 1)
    (v : Value) (n : Nat) (xs : List Value) (hs : a.eval s = v) (hown : w.ownsRow base e 1 v n xs)
    (A : Option Addr) (l : List UInt8) (c : Nat) (hx : a.eval x = .slice A l.length c) (hr : Seen w A l) (hb : n + l.length ≤ 140737488355328) (hbase : base ≤ w.heap.size)
    (h : ∀ v' w', w'.ownsRow base e 1 v' (n + l.length) (xs ++ l.map bv) → w.grownBy w' v.ownBlock → (v'.ownBlock = v.ownBlock ∨ v'.ownBlock = some w.heap.size) → wpList P ops Q rest (a.put o.dst v') w') :
    wpList P ops Q (o :: rest) a w := by
  refine wpList_plain hgd fun K hK => ?_
  obtain ⟨v', w', hrun, h2, h3, h4⟩ := run_append_seen (P := P) w base t o.type e i z ht hi hz hsize hby hzs v n xs hown A l c hr hb hbase
  unfold Oper.wp execOp
  simp only [ho, resolve, invoke, builtin, Sem.run_bind, Sem.run_pure, Result.andThen_ok, List.map_toArray, List.map_cons, List.map_nil, hs, hx, hrun]
  exact hK _ _ (h v' w' h2 h3 h4)
end
theorem below_grown {B : Nat} {a w w' : World} {e : TypeId} {size n : Nat} {v : Value} {xs : List Value} (h : Below B a w) (hB : B ≤ w.heap.size) (hown : w.ownsRow B e size v n xs) (hg : w.grownBy w' v.ownBlock) : Below B a w' :=
  h.grown hg hB (fun k hk => (hown.lt k hk).1)
theorem bv_ofInt (y : Int) (h0 : 0 ≤ y) (h1 : y < 256) : bv (UInt8.ofNat y.toNat) = .int .u8 y := by
  unfold bv
  rw [UInt8.toNat_ofNat']
  congr 1
  omega
def Made (e : TypeId) (w0 : World) (l : List UInt8) (v : Value) (w' : World) : Prop :=
  w'.ownsRow w0.heap.size e 1 v l.length (l.map bv) ∧ Below w0.heap.size w0 w'
section
variable {e : TypeId} {w0 w w' : World} {l : List UInt8} {v : Value}
theorem Made.form (h : Made e w0 l v w) : ∃ A c, v = .slice A l.length c ∧ Seen w A l := by
  have h1 := h.1
  rcases h1.2 with ⟨rfl, h0⟩ | ⟨g, cap, cur, rfl, _⟩
  · exact ⟨none, 0, by rw [h0], .inl (List.eq_nil_of_length_eq_zero h0)⟩
  · exact ⟨_, _, rfl, (Seen.of_own h1).1⟩
theorem Made.nil (e : TypeId) (w : World) : Made e w [] (.slice none 0 0) w := ⟨World.ownsRow_nil _ _ _ _, Below.refl _ _⟩
theorem Made.size (h : Made e w0 l v w) : w0.heap.size ≤ w.heap.size := h.2.size
theorem Made.drew (h : Made e w0 l v w) : Made e w0 l v w.drew := ⟨h.1.drew, h.2.drew⟩
end
def pushed (d : List UInt8) (y : Int) : List UInt8 := d ++ [UInt8.ofNat y.toNat]
theorem run_append_byte {P : Program} (w : World) (t ty e : TypeId) (i : TypeInfo) (z : Value) (ht : P.underlying t = some (.slice e)) (hi : P.info? e = some i) (hz : i.zero = some z)
    (hsize : i.size = 1) (hby : i.bytes = 1) (hzs : z.cells.size = 1)
    (w0 : World) (v : Value) (d : List UInt8) (y : Int) (H : Made e w0 d v w) (h0 : 0 ≤ y) (h1 : y < 256) (hb : d.length + 1 ≤ 140737488355328) :
    ∃ v' w', (Builtin.append_ #[t, t] ty #[v, .slice (some ⟨w.heap.size, 0, none⟩) 1 1]).run P (w.alloc (.cells #[.int .u8 y] e)) = .ok v' w' ∧ Made e w0 (pushed d y) v' w' := by
  obtain ⟨hown, hbel⟩ := H
  have hB := hbel.size
  obtain ⟨v', w', hrun, hown', hg, _⟩ := run_append_own_at (P := P) (w.alloc (.cells #[.int .u8 y] e)) w0.heap.size t ty e i z 1 1 ht hi hz hsize hby hzs (by decide) v d.length (d.map bv) (hown.alloc _) ⟨w.heap.size, 0, none⟩ 1 1 [.int .u8 y] rfl (by
    intro j u hu
    have hj : j = 0 := by
      rcases Nat.eq_zero_or_pos j with h | h
      · exact h
      · rw [List.getElem?_eq_none (by simp; omega)] at hu; cases hu
    subst hj
    simp at hu
    subst hu
    rw [add_plain, World.cell?_alloc_at _ _ _ _ rfl]
    rfl) (by
    intro u hu
    simp at hu
    subst hu
    rfl) (by unfold maxLen; omega) (by omega) (by simp; omega)
  refine ⟨v', w', hrun, ?_, below_grown (hbel.alloc hB _) (by simp; omega) (hown.alloc _) hg⟩
  unfold pushed
  rw [List.map_append, List.map_cons, List.map_nil, bv_ofInt y h0 h1]
  simpa using hown'
theorem wpList_append_byte {P : Program} (w : World) {ops : Array Oper} {rest : List Oper} {o : Oper} {a : Act} {Q : Exit → Act → World → Prop} (hgd : o.guard = none) (s x : Operand) (t : TypeId)
    (ho : o.op = .call { callee := .builtin .append, args := #[s, x], argTypes := #[t, t] })
    (e : TypeId) (i : TypeInfo) (z : Value) (ht : P.underlying t = some (.slice e)) (hi : P.info? e = some i) (hz : i.zero = some z)
    (hsize : i.size = 1) (hby : i.bytes = 1) (hzs : z.cells.size = 1)
    (w0 : World) (v : Value) (d : List UInt8) (y : Int) (hs : a.eval s = v) (hx : a.eval x = .slice (some ⟨w.heap.size, 0, none⟩) 1 1)
    (H : Made e w0 d v w) (h0 : 0 ≤ y) (h1 : y < 256) (hb : d.length + 1 ≤ 140737488355328)
    (h : ∀ v' w', Made e w0 (pushed d y) v' w' → wpList P ops Q rest (a.put o.dst v') w') :
    wpList P ops Q (o :: rest) a (w.alloc (.cells #[.int .u8 y] e)) := by
  refine wpList_plain hgd fun K hK => ?_
  obtain ⟨v', w', hrun, h2⟩ := run_append_byte (P := P) w t o.type e i z ht hi hz hsize hby hzs w0 v d y H h0 h1 hb
  unfold Oper.wp execOp
  simp only [ho, resolve, invoke, builtin, Sem.run_bind, Sem.run_pure, Result.andThen_ok, List.map_toArray, List.map_cons, List.map_nil, hs, hx, hrun]
  exact hK _ _ (h v' w' h2)
theorem wpList_append_bytes {P : Program} (w : World) {ops : Array Oper} {rest : List Oper} {o : Oper} {a : Act} {Q : Exit → Act → World → Prop} (hgd : o.guard = none) (s x : Operand) (t : TypeId)
    (ho : o.op = .call { callee := .builtin .append, args := #[s, x], argTypes := #[t, t] })
    (e : TypeId) (i : TypeInfo) (z : Value) (ht : P.underlying t = some (.slice e)) (hi : P.info? e = some i) (hz : i.zero = some z)
    (hsize : i.size = 1) (hby : i.bytes = 1) (hzs : z.cells.size = 1)
    (w0 : World) (v : Value) (d : List UInt8) (A : Option Addr) (l : List UInt8) (c : Nat) (hs : a.eval s = v) (hx : a.eval x = .slice A l.length c)
    (H : Made e w0 d v w) (hr : Seen w A l) (hb : d.length + l.length ≤ 140737488355328)
    (h : ∀ v' w', Made e w0 (d ++ l) v' w' → Below w0.heap.size w w' → wpList P ops Q rest (a.put o.dst v') w') :
    wpList P ops Q (o :: rest) a w := by
  refine wpList_append_seen w hgd s x t ho w0.heap.size e i z ht hi hz hsize hby hzs v d.length (d.map bv) hs H.1 A l c hx hr hb H.2.size fun v' w' hown hg _ => h v' w' ⟨?_, below_grown H.2 H.2.size H.1 hg⟩ (below_grown (Below.refl _ _) H.2.size H.1 hg)
  rw [List.map_append, List.length_append]
  exact hown
def Room (e : TypeId) (w0 : World) (d : List UInt8) (n cap : Nat) (w' : World) : Prop :=
  w'.ownsRow w0.heap.size e 1 (.slice (some ⟨w0.heap.size, 0, none⟩) n cap) n (d.map bv) ∧ Below w0.heap.size w0 w'
theorem Room.made {e : TypeId} {w0 w' : World} {d : List UInt8} {n cap : Nat} (h : Room e w0 d n cap w') : n = d.length ∧ Made e w0 d (.slice (some ⟨w0.heap.size, 0, none⟩) n cap) w' := by
  have hn : n = d.length := by have := h.1.1; simp at this; omega
  subst hn
  exact ⟨rfl, h⟩
theorem Room.drew {e : TypeId} {w0 w' : World} {d : List UInt8} {n cap : Nat} (h : Room e w0 d n cap w') : Room e w0 d n cap w'.drew := ⟨h.1.drew, h.2.drew⟩
end Go.Proofs.YtehabjiacgibpaaGreat
namespace Go.Proofs.YtehabjiacgibpaaGreat
open Go.RowKit
def Blk (w : World) (g : Nat) (L : List Value) (t : TypeId) : Prop := w.heap[g]? = some (.cells L.toArray t (0, 0))
section
variable {w w' : World} {g i : Nat} {L : List Value} {t : TypeId}
theorem Blk.lt (h : Blk w g L t) : g < w.heap.size := by
  rcases Nat.lt_or_ge g w.heap.size with hlt | hge
  · exact hlt
  · unfold Blk at h; rw [Array.getElem?_eq_none hge] at h; cases h
theorem Blk.cell (h : Blk w g L t) (hi : i < L.length) : w.cell? ⟨g, i, none⟩ = some L[i] := by
  rw [cell_of_row w g i L.toArray t (0, 0) h]; simp [hi]
theorem Blk.free (h : Blk w g L t) (i : Nat) : w.frozen? ⟨g, i, none⟩ = false := frozen_of_row w g i L.toArray t h
theorem Blk.set (h : Blk w g L t) (i : Nat) (v : Value) : Blk (w.setCell ⟨g, i, none⟩ v) g (L.set i v) t := by
  have := heap_setCell_same w g i L.toArray t v h
  unfold Blk; rw [this]; simp
theorem Blk.other (h : Blk w g L t) (a : Addr) (v : Value) (hg : g ≠ a.block) : Blk (w.setCell a v) g L t := by
  unfold Blk; rw [heap_setCell_other w a g v hg]; exact h
theorem Blk.drew (h : Blk w g L t) : Blk w.drew g L t := h
theorem Blk.drewN (h : Blk w g L t) (n : Nat) : Blk (w.drewN n) g L t := h
theorem Blk.below {B : Nat} (h : Blk w g L t) (hb : Below B w w') (hg : g < B) : Blk w' g L t := by
  unfold Blk; rw [hb.block g hg]; exact h
theorem Blk.alloc (h : Blk w g L t) (o : Obj) : Blk (w.alloc o) g L t := by
  have := heap_alloc_old w o h.lt
  unfold Blk; rw [this]; exact h
theorem Blk.new (w : World) (L : List Value) (t : TypeId) : Blk (w.alloc (.cells L.toArray t)) w.heap.size L t := heap_alloc_new w _
theorem Blk.unique {L' : List Value} {t' : TypeId} (h : Blk w g L t) (h' : Blk w g L' t') : L = L' ∧ t = t' := by
  unfold Blk at h h'; rw [h] at h'; simp at h'; exact h'
end
theorem Made.at_len {e : TypeId} {w0 w : World} {l : List UInt8} {A : Option Addr} {n c : Nat} (h : Made e w0 l (.slice A n c) w) : l.length = n ∧ Seen w A l := by
  obtain ⟨A', c', hv, hs⟩ := h.form
  injection hv with h1 h2 h3
  subst h1
  exact ⟨h2.symm, hs⟩
theorem Made.set {e : TypeId} {w0 w : World} {l : List UInt8} {A : Option Addr} {n c k : Nat} (h : Made e w0 l (.slice A n c) w) (hk : k < n) (x : UInt8) :
    ∃ g, A = some ⟨g, 0, none⟩ ∧ (∃ v, w.cell? ⟨g, k, none⟩ = some v) ∧ w.frozen? ⟨g, k, none⟩ = false ∧ Made e w0 (l.set k x) (.slice A n c) (w.setCell ⟨g, k, none⟩ (.int .u8 (x.toNat : Int))) := by
  have hl := h.at_len.1
  obtain ⟨hown, hbel⟩ := h
  rcases hown.2 with ⟨hv, h0⟩ | ⟨g, cap, cur, hv, hg, hh, hnc, hcm, hcs, ht⟩
  · injection hv with _ h2 _; omega
  · injection hv with h1 h2 h3
    subst h1 h3
    have hB : Blk w g cur.toList e := by unfold Blk; rw [Array.toArray_toList]; exact hh
    have hkc : k < cur.toList.length := by rw [Array.length_toList, hcs]; omega
    refine ⟨g, rfl, ⟨_, hB.cell hkc⟩, hB.free k, ⟨⟨?_, .inr ⟨g, c, (cur.toList.set k (.int .u8 (x.toNat : Int))).toArray, ?_, hg, hB.set k _, by rw [List.length_set]; omega, hcm, ?_, ?_⟩⟩, hbel.setCell hg _⟩⟩
    · simp
    · rw [List.length_set, hl]
    · simpa using hcs
    · have hx : bv x = .int .u8 (x.toNat : Int) := rfl
      rw [List.length_set, List.map_set, ← ht, ← hx]
      simp [List.take_set]
end Go.Proofs.YtehabjiacgibpaaGreat
namespace Go.Proofs.YtehabjiacgibpaaGreat
open Go.RowKit
section
variable {w w' : World} {row : Option Nat}
theorem only_drew (h : w.grownBy w' row) : w.grownBy w'.drew row := ⟨h.os, h.tape, h.output, h.size, h.block⟩
theorem only_setCell {g : Nat} (h : w.grownBy w' (some g)) (i : Nat) (u : Value) : w.grownBy (w'.setCell ⟨g, i, none⟩ u) (some g) :=
  ⟨h.os, h.tape, h.output, by simpa [World.setCell] using h.size, fun k hk hne => (heap_setCell_other w' ⟨g, i, none⟩ k u (fun e => hne (by rw [e]))).trans (h.block k hk hne)⟩
theorem only_below {w1 : World} (h : w.grownBy w' row) (hb : Below w'.heap.size w' w1) : w.grownBy w1 row :=
  ⟨hb.os.trans h.os, hb.tape.trans h.tape, hb.output.trans h.output, Nat.le_trans h.size hb.size, fun k hk hne => (hb.block k (Nat.lt_of_lt_of_le hk h.size)).trans (h.block k hk hne)⟩
theorem only_of_below (h : Below w.heap.size w w') (row : Option Nat) : w.grownBy w' row := ⟨h.os, h.tape, h.output, h.size, fun i hi _ => h.block i hi⟩
theorem only_setCells {g : Nat} : ∀ (vs : List Value) (o : Nat) (w' : World), w.grownBy w' (some g) → w.grownBy (w'.setCells g o vs) (some g)
  | [], _, _, h => h
  | v :: r, o, _, h => only_setCells r (o + 1) _ (only_setCell h o v)
theorem only_trans {w'' : World} (h : w.grownBy w' row) (k : w'.grownBy w'' row) : w.grownBy w'' row :=
  ⟨k.os.trans h.os, k.tape.trans h.tape, k.output.trans h.output, Nat.le_trans h.size k.size, fun i hi hn => (k.block i (Nat.lt_of_lt_of_le hi h.size) hn).trans (h.block i hi hn)⟩
end
section
variable {e : TypeId} {w0 w w' : World}
theorem Made.below {l : List UInt8} {v : Value} (h : Made e w0 l v w) (hb : Below w.heap.size w w') : Made e w0 l v w' :=
  ⟨h.1.kept (only_of_below hb none) (by cases v.ownBlock <;> simp), hop h.2 hb⟩
end
theorem wpList_append_one {P : Program} (w : World) {ops : Array Oper} {rest : List Oper} {o : Oper} {a : Act} {Q : Exit → Act → World → Prop} (hgd : o.guard = none) (s x : Operand) (t : TypeId)
    (ho : o.op = .call { callee := .builtin .append, args := #[s, x], argTypes := #[t, t] })
    (e : TypeId) (i : TypeInfo) (z : Value) (ht : P.underlying t = some (.slice e)) (hi : P.info? e = some i) (hz : i.zero = some z)
    (hsize : i.size = 1) (hby : i.bytes = 1) (hzs : z.cells.size = 1)
    (w0 : World) (A : Option Addr) (n c : Nat) (d : List UInt8) (y : Int) (b8 : UInt8) (hs : a.eval s = .slice A n c) (hx : a.eval x = .slice (some ⟨w.heap.size, 0, none⟩) 1 1)
    (H : Made e w0 d (.slice A n c) w) (hn : d.length = n) (hy : (b8.toNat : Int) = y) (hb : n + 1 ≤ 140737488355328)
    (h : ∀ A' c' w', Made e w0 (d ++ [b8]) (.slice A' (n + 1) c') w' → wpList P ops Q rest (a.put o.dst (.slice A' (n + 1) c')) w') :
    wpList P ops Q (o :: rest) a (w.alloc (.cells #[.int .u8 y] e)) := by
  have h8 := b8.toNat_lt
  refine wpList_append_byte w hgd s x t ho e i z ht hi hz hsize hby hzs w0 (.slice A n c) d y hs hx H (by omega) (by omega) (by omega) (fun v' w' HM => ?_)
  have e1 : pushed d y = d ++ [b8] := by
    unfold pushed; rw [← hy, Int.toNat_natCast, UInt8.ofNat_toNat]
  rw [e1] at HM
  obtain ⟨A', c', rfl, _⟩ := HM.form
  rw [List.length_append, hn] at HM ⊢
  exact h A' c' w' HM
theorem wpList_append_laid {P : Program} (w : World) {ops : Array Oper} {rest : List Oper} {o : Oper} {a : Act} {Q : Exit → Act → World → Prop} (hgd : o.guard = none) (s x : Operand) (t : TypeId)
    (ho : o.op = .call { callee := .builtin .append, args := #[s, x], argTypes := #[t, t] })
    (e : TypeId) (i : TypeInfo) (z : Value) (ht : P.underlying t = some (.slice e)) (hi : P.info? e = some i) (hz : i.zero = some z)
    (hsize : i.size = 1) (hby : i.bytes = 1) (hzs : z.cells.size = 1)
    (w0 : World) (A : Option Addr) (n c : Nat) (d : List UInt8) (ys : List UInt8) (m : Nat) (cs : Array Value) (hs : a.eval s = .slice A n c) (hx : a.eval x = .slice (some ⟨w.heap.size, 0, none⟩) m m)
    (H : Made e w0 d (.slice A n c) w) (hn : d.length = n) (hm : ys.length = m) (hcs : (ys.map bv).toArray = cs) (hb : n + m ≤ 140737488355328)
    (h : ∀ A' c' w', Made e w0 (d ++ ys) (.slice A' (n + m) c') w' → wpList P ops Q rest (a.put o.dst (.slice A' (n + m) c')) w') :
    wpList P ops Q (o :: rest) a (w.alloc (.cells cs e)) := by
  subst hm hcs
  have hsn : Seen (w.alloc (.cells (ys.map bv).toArray e)) (some ⟨w.heap.size, 0, none⟩) ys :=
    .inr ⟨w.heap.size, 0, rfl, by simp, fun j hj => by
      rw [World.cell?_alloc_at _ _ _ _ rfl, Nat.zero_add]
      simp [hj, bv]⟩
  refine wpList_append_bytes (w.alloc (.cells (ys.map bv).toArray e)) hgd s x t ho e i z ht hi hz hsize hby hzs w0 (.slice A n c) d (some ⟨w.heap.size, 0, none⟩) ys ys.length hs hx (H.below ((Below.refl _ _).alloc (Nat.le_refl _) _)) hsn (by omega) (fun v' w' HM _ => ?_)
  obtain ⟨A', c', rfl, _⟩ := HM.form
  rw [List.length_append, hn] at HM ⊢
  exact h A' c' w' HM
end Go.Proofs.YtehabjiacgibpaaGreat
namespace Go.Proofs.YtehabjiacgibpaaGreat
open Go.RowKit
section
variable {α : Type} {m : Nat}
theorem flat_length : ∀ (R : List (List α)), (∀ r ∈ R, r.length = m) → R.flatten.length = R.length * m
  | [], _ => by simp
  | r :: R, h => by
    rw [List.flatten_cons, List.length_append, flat_length R (fun x hx => h x (by simp [hx])), h r (by simp), List.length_cons, Nat.succ_mul, Nat.add_comm]
theorem flat_at : ∀ (R : List (List α)) (i j : Nat) (hi : i < R.length) (_ : ∀ r ∈ R, r.length = m) (hj : j < R[i].length), R.flatten[i * m + j]? = some (R[i][j])
  | [], _, _, hi, _, _ => by simp at hi
  | r :: R, 0, j, _, _, hj => by
    rw [List.flatten_cons, Nat.zero_mul, Nat.zero_add]
    have hj' : j < r.length := hj
    rw [List.getElem?_append_left hj', List.getElem?_eq_getElem hj']
    rfl
  | r :: R, i + 1, j, hi, h, hj => by
    have e : (i + 1) * m + j = r.length + (i * m + j) := by rw [h r (by simp), Nat.succ_mul]; omega
    rw [List.flatten_cons, e, List.getElem?_append_right (by omega), Nat.add_sub_cancel_left]
    exact flat_at R i j (by simpa using hi) (fun x hx => h x (by simp [hx])) hj
end
section
variable {w : World} {g m : Nat} {R : List (List Value)} {t : TypeId}
end
structure Spared (w w' : World) (F : Nat → Prop) : Prop where
  os : w'.os = w.os
  tape : w'.tape = w.tape
  output : w'.output = w.output
  size : w.heap.size ≤ w'.heap.size
  block : ∀ k, k < w.heap.size → ¬ F k → w'.heap[k]? = w.heap[k]?
section
variable {w w' w'' : World} {F G : Nat → Prop}
theorem Spared.refl (w : World) (F : Nat → Prop) : Spared w w F := ⟨rfl, rfl, rfl, Nat.le_refl _, fun _ _ _ => rfl⟩
theorem Spared.trans (h : Spared w w' F) (k : Spared w' w'' G) (hG : ∀ i, G i → F i ∨ w.heap.size ≤ i) : Spared w w'' F :=
  ⟨k.os.trans h.os, k.tape.trans h.tape, k.output.trans h.output, Nat.le_trans h.size k.size, fun i hi hn =>
    (k.block i (Nat.lt_of_lt_of_le hi h.size) (fun hg => (hG i hg).elim hn (fun hs => by omega))).trans (h.block i hi hn)⟩
theorem Spared.of_below (h : Below w.heap.size w w') (F : Nat → Prop) : Spared w w' F := ⟨h.os, h.tape, h.output, h.size, fun k hk _ => h.block k hk⟩
theorem Spared.of_grown {row : Option Nat} (h : w.grownBy w' row) (hF : ∀ k, row = some k → k < w.heap.size → F k) : Spared w w' F :=
  ⟨h.os, h.tape, h.output, h.size, fun k hk hn => h.block k hk (fun e => hn (hF k e.symm hk))⟩
theorem Spared.below (h : Spared w w' F) {W : World} (hb : Below W.heap.size W w) (hF : ∀ k, F k → W.heap.size ≤ k) : Below W.heap.size W w' :=
  ⟨h.os.trans hb.os, h.tape.trans hb.tape, h.output.trans hb.output, Nat.le_trans hb.size h.size, fun k hk => (h.block k (Nat.lt_of_lt_of_le hk hb.size) (fun hf => by have := hF k hf; omega)).trans (hb.block k hk)⟩
theorem Spared.drew (h : Spared w w' F) : Spared w w'.drew F := ⟨h.os, h.tape, h.output, h.size, h.block⟩
theorem Spared.mono (h : Spared w w' F) (hG : ∀ k, F k → G k) : Spared w w' G := ⟨h.os, h.tape, h.output, h.size, fun k hk hn => h.block k hk (fun hf => hn (hG k hf))⟩
theorem Spared.blk {g : Nat} {L : List Value} {t : TypeId} (h : Spared w w' F) (hb : Blk w g L t) (hg : ¬ F g) : Blk w' g L t := (h.block g hb.lt hg).trans hb
theorem Spared.setCell {g : Nat} (h : Spared w w' F) (hg : F g) (i : Nat) (u : Value) : Spared w (w'.setCell ⟨g, i, none⟩ u) F :=
  ⟨h.os, h.tape, h.output, by simpa [World.setCell] using h.size, fun k hk hn => (heap_setCell_other w' ⟨g, i, none⟩ k u (fun e => hn (by rw [e]; exact hg))).trans (h.block k hk hn)⟩
theorem Spared.setCells {g : Nat} (hg : F g) : ∀ (vs : List Value) (o : Nat) (w' : World), Spared w w' F → Spared w (w'.setCells g o vs) F
  | [], _, _, h => h
  | v :: r, o, _, h => Spared.setCells hg r (o + 1) _ (h.setCell hg o v)
theorem Spared.alloc (h : Spared w w' F) (o : Obj) : Spared w (w'.alloc o) F :=
  ⟨h.os, h.tape, h.output, by simp; exact Nat.le_succ_of_le h.size, fun k hk hn => (heap_alloc_old w' o (Nat.lt_of_lt_of_le hk h.size)).trans (h.block k hk hn)⟩
end
def Away (w : World) (F : Nat → Prop) (A : Option Addr) (l : List UInt8) : Prop :=
  l = [] ∨ ∃ b off, A = some ⟨b, off, none⟩ ∧ b < w.heap.size ∧ ¬ F b ∧ ∀ j (h : j < l.length), w.cell? ⟨b, off + j, none⟩ = some (.int .u8 (l[j].toNat : Int))
section
variable {w w' : World} {F G : Nat → Prop} {A : Option Addr} {l : List UInt8}
theorem Away.moved (h : Away w F A l) (hs : Spared w w' F) (hG : ∀ i, G i → F i ∨ w.heap.size ≤ i) : Away w' G A l := by
  rcases h with rfl | ⟨b, off, rfl, hb, hn, hc⟩
  · exact .inl rfl
  · refine .inr ⟨b, off, rfl, Nat.lt_of_lt_of_le hb hs.size, fun hg => (hG b hg).elim hn (fun h => by omega), fun j hj => ?_⟩
    exact (World.cell?_of_block (a := ⟨b, off + j, none⟩) (hs.block b hb hn)).trans (hc j hj)
end
theorem Seen.drop {w : World} {A : Option Addr} {l : List UInt8} (h : Seen w A l) (m c : Nat) (hc : l.length ≤ c) : Seen w (if c = m then A else A.map (·.add (m * 1))) (l.drop m) := by
  by_cases hm : l.length ≤ m
  · exact .inl (List.drop_eq_nil_of_le hm)
  · rcases h with rfl | ⟨b, off, rfl, hb, hc'⟩
    · simp at hm
    · rw [if_neg (by omega)]
      refine .inr ⟨b, off + m, ?_, hb, fun j hj => ?_⟩
      · rw [Nat.mul_one]; show some (Addr.add _ _) = _; rw [add_plain]
      · rw [List.length_drop] at hj
        rw [Nat.add_assoc, hc' (m + j) (by omega), List.getElem_drop]
def Ints (w : World) (A : Option Addr) (l : List Int) : Prop :=
  l = [] ∨ ∃ b off, A = some ⟨b, off, none⟩ ∧ b < w.heap.size ∧ ∀ j (h : j < l.length), w.cell? ⟨b, off + j, none⟩ = some (.int .i64 l[j])
def IntsAway (w : World) (F : Nat → Prop) (A : Option Addr) (l : List Int) : Prop :=
  l = [] ∨ ∃ b off, A = some ⟨b, off, none⟩ ∧ b < w.heap.size ∧ ¬ F b ∧ ∀ j (h : j < l.length), w.cell? ⟨b, off + j, none⟩ = some (.int .i64 l[j])
section
variable {w w' : World} {F G : Nat → Prop} {A : Option Addr} {l : List Int}
theorem Ints.below (h : Ints w A l) (hb : Below w.heap.size w w') : Ints w' A l := by
  rcases h with rfl | ⟨b, off, rfl, hlt, hc⟩
  · exact .inl rfl
  · exact .inr ⟨b, off, rfl, Nat.lt_of_lt_of_le hlt hb.size, fun j hj => (hb.cell (p := ⟨b, off + j, none⟩) hlt).trans (hc j hj)⟩
theorem IntsAway.moved (h : IntsAway w F A l) (hs : Spared w w' F) (hG : ∀ i, G i → F i ∨ w.heap.size ≤ i) : IntsAway w' G A l := by
  rcases h with rfl | ⟨b, off, rfl, hb, hn, hc⟩
  · exact .inl rfl
  · refine .inr ⟨b, off, rfl, Nat.lt_of_lt_of_le hb hs.size, fun hg => (hG b hg).elim hn (fun h => by omega), fun j hj => ?_⟩
    exact (World.cell?_of_block (a := ⟨b, off + j, none⟩) (hs.block b hb hn)).trans (hc j hj)
theorem IntsAway.at_ (h : IntsAway w F A l) (k : Nat) (hk : k < l.length) : ∃ b off, A = some ⟨b, off, none⟩ ∧ w.cell? ⟨b, off + k, none⟩ = some (.int .i64 l[k]) := by
  rcases h with rfl | ⟨b, off, rfl, _, _, hc⟩
  · simp at hk
  · exact ⟨b, off, rfl, hc k hk⟩
end
end Go.Proofs.YtehabjiacgibpaaGreat
