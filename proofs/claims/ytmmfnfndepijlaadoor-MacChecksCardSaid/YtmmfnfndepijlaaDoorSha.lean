/-
  The hash as a Lean function of the bytes, and what is plain of it. No program is named here.
-/
import Derived.Test.YtmmfnfndepijlaaDoorRot
namespace Go.Proofs.YtmmfnfndepijlaaDoor
open Go.RowKit

/-- The cell of a word. -/
def wv (n : Nat) : Value := .int .u32 (n : Int)

def H0 : List Nat := [1779033703, 3144134277, 1013904242, 2773480762, 1359893119, 2600822924, 528734635, 1541459225]
def K0 : List Nat := [0x428a2f98, 0x71374491, 0xb5c0fbcf, 0xe9b5dba5, 0x3956c25b, 0x59f111f1, 0x923f82a4, 0xab1c5ed5,
  0xd807aa98, 0x12835b01, 0x243185be, 0x550c7dc3, 0x72be5d74, 0x80deb1fe, 0x9bdc06a7, 0xc19bf174,
  0xe49b69c1, 0xefbe4786, 0x0fc19dc6, 0x240ca1cc, 0x2de92c6f, 0x4a7484aa, 0x5cb0a9dc, 0x76f988da,
  0x983e5152, 0xa831c66d, 0xb00327c8, 0xbf597fc7, 0xc6e00bf3, 0xd5a79147, 0x06ca6351, 0x14292967,
  0x27b70a85, 0x2e1b2138, 0x4d2c6dfc, 0x53380d13, 0x650a7354, 0x766a0abb, 0x81c2c92e, 0x92722c85,
  0xa2bfe8a1, 0xa81a664b, 0xc24b8b70, 0xc76c51a3, 0xd192e819, 0xd6990624, 0xf40e3585, 0x106aa070,
  0x19a4c116, 0x1e376c08, 0x2748774c, 0x34b0bcb5, 0x391c0cb3, 0x4ed8aa4a, 0x5b9cca4f, 0x682e6ff3,
  0x748f82ee, 0x78a5636f, 0x84c87814, 0x8cc70208, 0x90befffa, 0xa4506ceb, 0xbef9a3f7, 0xc67178f2]

def word4 (a b c d : Nat) : Nat := ((a * 16777216 ||| b * 65536) ||| c * 256) ||| d
def byteAt (b : List UInt8) (i : Nat) : Nat := (b.getD i 0).toNat
def wordAt (b : List UInt8) (t : Nat) : Nat := word4 (byteAt b (4 * t)) (byteAt b (4 * t + 1)) (byteAt b (4 * t + 2)) (byteAt b (4 * t + 3))
def nextW (p q r s : Nat) : Nat := add32 (add32 (add32 (sg1 p) q) (sg0 r)) s
def more (b : List UInt8) (t : Nat) (L : List Nat) : Nat :=
  if t < 16 then wordAt b t else nextW (L.getD (t - 2) 0) (L.getD (t - 7) 0) (L.getD (t - 15) 0) (L.getD (t - 16) 0)
def sched (b : List UInt8) : Nat → List Nat
  | 0 => []
  | t + 1 => sched b t ++ [more b t (sched b t)]

structure V8 where
  a : Nat
  b : Nat
  c : Nat
  d : Nat
  e : Nat
  f : Nat
  g : Nat
  h : Nat
def V8.list (v : V8) : List Nat := [v.a, v.b, v.c, v.d, v.e, v.f, v.g, v.h]
def V8.of (l : List Nat) : V8 := ⟨l.getD 0 0, l.getD 1 0, l.getD 2 0, l.getD 3 0, l.getD 4 0, l.getD 5 0, l.getD 6 0, l.getD 7 0⟩
def t1 (e f g h k w : Nat) : Nat := add32 (add32 (add32 (add32 h (bg1 e)) (choose e f g)) k) w
def t2 (a b c : Nat) : Nat := add32 (bg0 a) (major a b c)
def V8.next (v : V8) (k w : Nat) : V8 :=
  ⟨add32 (t1 v.e v.f v.g v.h k w) (t2 v.a v.b v.c), v.a, v.b, v.c, add32 v.d (t1 v.e v.f v.g v.h k w), v.e, v.f, v.g⟩
def rounds (W : List Nat) : Nat → V8 → V8
  | 0, v => v
  | t + 1, v => (rounds W t v).next (K0.getD t 0) (W.getD t 0)
def mixL (h : List Nat) (b : List UInt8) : List Nat := List.zipWith add32 h (rounds (sched b 64) 64 (V8.of h)).list
def chunk (l : List UInt8) (n : Nat) : List UInt8 := (l.drop (64 * n)).take 64
def hashed (l : List UInt8) : Nat → List Nat
  | 0 => H0
  | n + 1 => mixL (hashed l n) (chunk l n)
def be4 (x : Nat) : List UInt8 := [UInt8.ofNat (x / 16777216), UInt8.ofNat (x / 65536), UInt8.ofNat (x / 256), UInt8.ofNat x]
def outL : List Nat → List UInt8
  | [] => []
  | x :: r => be4 x ++ outL r
def be8 (n : Nat) : List UInt8 := [UInt8.ofNat (n / 72057594037927936), UInt8.ofNat (n / 281474976710656), UInt8.ofNat (n / 1099511627776), UInt8.ofNat (n / 4294967296), UInt8.ofNat (n / 16777216), UInt8.ofNat (n / 65536), UInt8.ofNat (n / 256), UInt8.ofNat n]
def zerosN (n : Nat) : Nat := (64 - (n + 9) % 64) % 64
def padL (n : Nat) : List UInt8 := (128 : UInt8) :: (List.replicate (zerosN n) 0 ++ be8 (8 * n))
def shaL (l : List UInt8) : List UInt8 := outL (hashed (l ++ padL l.length) ((l ++ padL l.length).length / 64))

theorem length_sched (b : List UInt8) (t : Nat) : (sched b t).length = t := by
  induction t with
  | zero => rfl
  | succ t ih => simp [sched, ih]
theorem word4_lt {a b c d : Nat} (ha : a < 256) (hb : b < 256) (hc : c < 256) (hd : d < 256) : word4 a b c d < 4294967296 :=
  Nat.or_lt_two_pow (n := 32) (Nat.or_lt_two_pow (n := 32) (Nat.or_lt_two_pow (n := 32) (by omega) (by omega)) (by omega)) (by omega)
theorem byteAt_lt (b : List UInt8) (i : Nat) : byteAt b i < 256 := UInt8.toNat_lt _
theorem more_lt (b : List UInt8) (t : Nat) (L : List Nat) : more b t L < 4294967296 := by
  unfold more
  split
  · exact word4_lt (byteAt_lt _ _) (byteAt_lt _ _) (byteAt_lt _ _) (byteAt_lt _ _)
  · exact add32_lt _ _
theorem sched_lt (b : List UInt8) (t : Nat) : ∀ x ∈ sched b t, x < 4294967296 := by
  induction t with
  | zero => intro x hx; cases hx
  | succ t ih =>
    intro x hx
    rcases List.mem_append.1 hx with h | h
    · exact ih x h
    · rw [List.mem_singleton.1 h]; exact more_lt _ _ _
theorem getD_lt {L : List Nat} (h : ∀ x ∈ L, x < 4294967296) (i : Nat) : L.getD i 0 < 4294967296 := by
  by_cases hi : i < L.length
  · rw [List.getD_eq_getElem?_getD, List.getElem?_eq_getElem hi]; exact h _ (List.getElem_mem hi)
  · rw [List.getD_eq_getElem?_getD, List.getElem?_eq_none (by omega)]; decide

/-- all its words have 32 bits -/
def V8.ok (v : V8) : Prop := v.a < 4294967296 ∧ v.b < 4294967296 ∧ v.c < 4294967296 ∧ v.d < 4294967296 ∧ v.e < 4294967296 ∧ v.f < 4294967296 ∧ v.g < 4294967296 ∧ v.h < 4294967296
theorem V8.next_ok {v : V8} (h : v.ok) (k w : Nat) : (v.next k w).ok := by
  obtain ⟨ha, hb, hc, hd, he, hf, hg, hh⟩ := h
  exact ⟨add32_lt _ _, ha, hb, hc, add32_lt _ _, he, hf, hg⟩
theorem rounds_ok (W : List Nat) {v : V8} (h : v.ok) : ∀ t, (rounds W t v).ok
  | 0 => h
  | t + 1 => V8.next_ok (rounds_ok W h t) _ _
theorem of_ok {l : List Nat} (h : ∀ x ∈ l, x < 4294967296) : (V8.of l).ok :=
  ⟨getD_lt h 0, getD_lt h 1, getD_lt h 2, getD_lt h 3, getD_lt h 4, getD_lt h 5, getD_lt h 6, getD_lt h 7⟩
theorem length_mixL (h : List Nat) (b : List UInt8) (hl : h.length = 8) : (mixL h b).length = 8 := by
  unfold mixL; rw [List.length_zipWith, hl]; rfl
theorem mixL_lt (h : List Nat) (b : List UInt8) : ∀ x ∈ mixL h b, x < 4294967296 := by
  intro x hx
  unfold mixL at hx
  obtain ⟨i, hi, he⟩ := List.getElem_of_mem hx
  rw [List.getElem_zipWith] at he
  rw [← he]
  exact add32_lt _ _
theorem H0_lt : ∀ x ∈ H0, x < 4294967296 := by decide
theorem hashed_ok (l : List UInt8) : ∀ n, (hashed l n).length = 8 ∧ ∀ x ∈ hashed l n, x < 4294967296
  | 0 => ⟨rfl, H0_lt⟩
  | n + 1 => ⟨length_mixL _ _ (hashed_ok l n).1, mixL_lt _ _⟩
theorem chunk_append (l m : List UInt8) (n : Nat) (h : 64 * n + 64 ≤ l.length) : chunk (l ++ m) n = chunk l n := by
  unfold chunk
  rw [List.drop_append_of_le_length (by omega), List.take_append_of_le_length (by simp; omega)]
theorem hashed_append (l m : List UInt8) : ∀ n, 64 * n ≤ l.length → hashed (l ++ m) n = hashed l n
  | 0, _ => rfl
  | n + 1, h => by
    simp only [hashed]
    rw [hashed_append l m n (by omega), chunk_append l m n (by omega)]
theorem length_be8 (n : Nat) : (be8 n).length = 8 := rfl
theorem length_padL (n : Nat) : (padL n).length = zerosN n + 9 := by simp [padL, length_be8]
theorem padded_whole (l : List UInt8) : (l ++ padL l.length).length % 64 = 0 ∧ 64 ≤ (l ++ padL l.length).length := by
  rw [List.length_append, length_padL]; unfold zerosN; omega
theorem length_outL (L : List Nat) : (outL L).length = 4 * L.length := by
  induction L with
  | nil => rfl
  | cons x r ih => simp [outL, be4, ih]; omega
theorem length_shaL (l : List UInt8) : (shaL l).length = 32 := by
  unfold shaL; rw [length_outL, (hashed_ok _ _).1]

set_option maxRecDepth 100000 in
theorem sha_none : shaL [] = [0xe3, 0xb0, 0xc4, 0x42, 0x98, 0xfc, 0x1c, 0x14, 0x9a, 0xfb, 0xf4, 0xc8, 0x99, 0x6f, 0xb9, 0x24, 0x27, 0xae, 0x41, 0xe4, 0x64, 0x9b, 0x93, 0x4c, 0xa4, 0x95, 0x99, 0x1b, 0x78, 0x52, 0xb8, 0x55] := by
  decide +kernel
set_option maxRecDepth 100000 in
theorem sha_abc : shaL [97, 98, 99] = [0xba, 0x78, 0x16, 0xbf, 0x8f, 0x01, 0xcf, 0xea, 0x41, 0x41, 0x40, 0xde, 0x5d, 0xae, 0x22, 0x23, 0xb0, 0x03, 0x61, 0xa3, 0x96, 0x17, 0x7a, 0x9c, 0xb4, 0x10, 0xff, 0x61, 0xf2, 0x00, 0x15, 0xad] := by
  decide +kernel
end Go.Proofs.YtmmfnfndepijlaaDoor
