/-
  Plain mathematics of layer 6: a frame's bytes, and the frame that bytes begin with. No conditions.
-/
import Derived.Test.YtkbjhnlihnakkaaGetPut
namespace Go.Proofs.Ytkbjhnlihnakkaa
open Go.RowKit

/-- four bytes of a sum -/
def sum4 (x : Nat) : List UInt8 := [UInt8.ofNat (x / 16777216 % 256), UInt8.ofNat (x / 65536 % 256), UInt8.ofNat (x / 256 % 256), UInt8.ofNat (x % 256)]
theorem sum4_length (x : Nat) : (sum4 x).length = 4 := rfl
theorem ofNat_byte {x y : Nat} (h : UInt8.ofNat (x % 256) = UInt8.ofNat (y % 256)) : x % 256 = y % 256 := by
  have := congrArg UInt8.toNat h
  rw [UInt8.toNat_ofNat', UInt8.toNat_ofNat'] at this
  omega
theorem sum4_inj {x y : Nat} (hx : x < 4294967296) (hy : y < 4294967296) (h : sum4 x = sum4 y) : x = y := by
  unfold sum4 at h
  injection h with h1 h
  injection h with h2 h
  injection h with h3 h
  injection h with h4 _
  have h1 := ofNat_byte h1
  have h2 := ofNat_byte h2
  have h3 := ofNat_byte h3
  have h4 := ofNat_byte h4
  omega
theorem crcOf_lt (l : List UInt8) : crcOf l < 4294967296 :=
  Nat.xor_lt_two_pow (n := 32) (by have := crcL_lt l 4294967295 (by omega); omega) (by omega)
def sumOf (l : List UInt8) : List UInt8 := sum4 (crcOf l)
theorem sumOf_length (l : List UInt8) : (sumOf l).length = 4 := rfl

/-- a frame ahead of its sum -/
def headL (g s : Int) (d : List UInt8) : List UInt8 := 245 :: (putL d.length ++ (wideI g ++ (wideI s ++ d)))
def frameL (g s : Int) (d : List UInt8) : List UInt8 := headL g s d ++ sumOf (headL g s d)
theorem headL_length (g s : Int) (d : List UInt8) : (headL g s d).length = (putL d.length).length + d.length + 17 := by
  simp only [headL, List.length_cons, List.length_append, wideI_length]; omega
theorem frameL_length (g s : Int) (d : List UInt8) : (frameL g s d).length = (putL d.length).length + d.length + 21 := by
  rw [frameL, List.length_append, headL_length, sumOf_length]
theorem frameL_pos (g s : Int) (d : List UInt8) : 22 ≤ (frameL g s d).length := by
  rw [frameL_length]; have := putL_pos d.length; omega
def mayB (g s : Int) (n : Nat) : Bool := decide (0 ≤ g ∧ g ≤ 1152921504606846976 ∧ 0 ≤ s ∧ s ≤ 1152921504606846976 ∧ n ≤ 65536)
theorem mayB_true {g s : Int} {n : Nat} (h : mayB g s n = true) : 0 ≤ g ∧ g ≤ 1152921504606846976 ∧ 0 ≤ s ∧ s ≤ 1152921504606846976 ∧ n ≤ 65536 := of_decide_eq_true h
theorem mayB_false {g s : Int} {n : Nat} (h : mayB g s n = false) : ¬ (0 ≤ g ∧ g ≤ 1152921504606846976 ∧ 0 ≤ s ∧ s ≤ 1152921504606846976 ∧ n ≤ 65536) := of_decide_eq_false h
/-- a frame's bytes, or none -/
def encF (g s : Int) (d : List UInt8) : List UInt8 := if mayB g s d.length = true then frameL g s d else []
theorem encF_may {g s : Int} {d : List UInt8} (h : mayB g s d.length = true) : encF g s d = frameL g s d := if_pos h
theorem encF_not {g s : Int} {d : List UInt8} (h : mayB g s d.length = false) : encF g s d = [] := if_neg (by rw [h]; decide)
theorem putL3 {n : Nat} (h : n ≤ 65536) : (putL n).length ≤ 3 := putL_length 2 n (by have : 128 ^ 3 = 2097152 := by decide
                                                                                     omega)
theorem encF_fits (g s : Int) (d : List UInt8) : (encF g s d).length ≤ 65560 := by
  by_cases h : mayB g s d.length = true
  · have h5 := (mayB_true h).2.2.2.2
    have := putL3 h5
    rw [encF_may h, frameL_length]; omega
  · rw [encF_not (by simpa using h)]; simp
/-- a frame's size -/
def sizeL (n : Int) : Int := if n < 0 ∨ 65536 < n then 0 else ((putL n.toNat).length : Int) + n + 21
theorem sizeL_frame {g s : Int} {d : List UInt8} (h : mayB g s d.length = true) : sizeL (d.length : Int) = ((frameL g s d).length : Int) := by
  have := (mayB_true h).2.2.2.2
  rw [sizeL, if_neg (by omega), frameL_length]
  simp only [Int.toNat_natCast]
  omega

/-- what is read of bytes, but for the mark, the bounds and the sum -/
def readR (r : List UInt8) : Option (Int × Int × List UInt8) :=
  if (getL r 0 0).2 = 0 then none
  else if (r.drop (getL r 0 0).2).length < 16 + (getL r 0 0).1 then none
  else some (narI ((r.drop (getL r 0 0).2).take 8), narI (((r.drop (getL r 0 0).2).drop 8).take 8), (((r.drop (getL r 0 0).2).drop 8).drop 8).take (getL r 0 0).1)
def readF : List UInt8 → Option (Int × Int × List UInt8)
  | [] => none
  | _ :: r => readR r
/-- the frame that bytes begin with -/
def decF (b : List UInt8) : Option (Int × Int × List UInt8) :=
  match readF b with
  | none => none
  | some f => if mayB f.1 f.2.1 f.2.2.length = true ∧ b.take (frameL f.1 f.2.1 f.2.2).length = frameL f.1 f.2.1 f.2.2 then some f else none
theorem decF_some {b : List UInt8} {f : Int × Int × List UInt8} (h : decF b = some f) : readF b = some f ∧ mayB f.1 f.2.1 f.2.2.length = true ∧ b.take (frameL f.1 f.2.1 f.2.2).length = frameL f.1 f.2.1 f.2.2 := by
  unfold decF at h
  split at h
  · cases h
  · rename_i f' hf
    split at h
    · rename_i hc
      injection h with h
      subst h
      exact ⟨hf, hc⟩
    · cases h
theorem decF_fits {b : List UInt8} {f : Int × Int × List UInt8} (h : decF b = some f) : (frameL f.1 f.2.1 f.2.2).length ≤ b.length := by
  have := congrArg List.length (decF_some h).2.2
  rw [List.length_take] at this
  omega
theorem readR_some {r : List UInt8} {f : Int × Int × List UInt8} (h : readR r = some f) : (getL r 0 0).2 ≠ 0 ∧ 16 + (getL r 0 0).1 ≤ (r.drop (getL r 0 0).2).length ∧ f.2.2.length = (getL r 0 0).1 ∧ f.2.2 = (((r.drop (getL r 0 0).2).drop 8).drop 8).take (getL r 0 0).1 ∧
    f.1 = narI ((r.drop (getL r 0 0).2).take 8) ∧ f.2.1 = narI (((r.drop (getL r 0 0).2).drop 8).take 8) := by
  unfold readR at h
  split at h
  · cases h
  · rename_i hk
    split at h
    · cases h
    · rename_i hl
      injection h with h
      subst h
      refine ⟨hk, by omega, ?_, rfl, rfl, rfl⟩
      simp only [List.length_take, List.length_drop] at hl ⊢
      omega

theorem dec_enc {g s : Int} {d : List UInt8} (h : mayB g s d.length = true) (t : List UInt8) : decF (frameL g s d ++ t) = some (g, s, d) := by
  have hm := mayB_true h
  have e1 : frameL g s d ++ t = 245 :: (putL d.length ++ (wideI g ++ (wideI s ++ (d ++ (sumOf (headL g s d) ++ t))))) := by
    simp only [frameL, headL, List.cons_append, List.append_assoc]
  have hg := get_put0 (wideI g ++ (wideI s ++ (d ++ (sumOf (headL g s d) ++ t)))) d.length (by omega)
  have hr : readF (frameL g s d ++ t) = some (g, s, d) := by
    rw [e1, readF, readR, hg]
    have hp := putL_pos d.length
    have w8 := wideI_length g
    have w9 := wideI_length s
    rw [if_neg (by simp only; omega)]
    simp only [List.drop_left]
    rw [if_neg (by simp only [List.length_append, w8, w9]; omega)]
    have d1 : List.take 8 (wideI g ++ (wideI s ++ (d ++ (sumOf (headL g s d) ++ t)))) = wideI g := by rw [← w8]; exact List.take_left' rfl
    have d2 : List.drop 8 (wideI g ++ (wideI s ++ (d ++ (sumOf (headL g s d) ++ t)))) = wideI s ++ (d ++ (sumOf (headL g s d) ++ t)) := by rw [← w8]; exact List.drop_left' rfl
    have d3 : List.take 8 (wideI s ++ (d ++ (sumOf (headL g s d) ++ t))) = wideI s := by rw [← w9]; exact List.take_left' rfl
    have d4 : List.drop 8 (wideI s ++ (d ++ (sumOf (headL g s d) ++ t))) = d ++ (sumOf (headL g s d) ++ t) := by rw [← w9]; exact List.drop_left' rfl
    rw [d2, d1, d3, d4, List.take_left' rfl, nar_wideI (by omega) (by omega), nar_wideI (by omega) (by omega)]
  unfold decF
  rw [hr]
  simp only
  rw [if_pos ⟨h, List.take_left' rfl⟩]

/-! ### what the document asks -/
theorem head_read {b0 : UInt8} {r : List UInt8} {f : Int × Int × List UInt8} (h : readR r = some f) (h0 : b0 = 245) :
    headL f.1 f.2.1 f.2.2 = (b0 :: r).take (1 + (getL r 0 0).2 + 16 + (getL r 0 0).1) := by
  obtain ⟨hk, hl, hd, e3, e1, e2⟩ := readR_some h
  obtain ⟨t, ht, hkk, hn⟩ := put_of_get0 hk
  have hdrop : r.drop (getL r 0 0).2 = t := by
    rw [hkk]
    generalize (getL r 0 0).1 = n at ht
    rw [ht]
    exact List.drop_left' rfl
  rw [hdrop] at hl e3 e1 e2
  have w1 : wideI f.1 = t.take 8 := by rw [e1]; exact wide_nar (by rw [List.length_take]; omega)
  have w2 : wideI f.2.1 = (t.drop 8).take 8 := by rw [e2]; exact wide_nar (by rw [List.length_take, List.length_drop]; omega)
  rw [headL, w1, w2, hd, e3, h0]
  have e4 : 1 + (getL r 0 0).2 + 16 + (getL r 0 0).1 = ((getL r 0 0).2 + (16 + (getL r 0 0).1)) + 1 := by omega
  rw [e4, List.take_succ_cons]
  congr 1
  have e5 : r.take ((getL r 0 0).2 + (16 + (getL r 0 0).1)) = putL (getL r 0 0).1 ++ t.take (16 + (getL r 0 0).1) := by
    rw [hkk]
    generalize (getL r 0 0).1 = n at *
    rw [ht, List.take_length_add_append]
  rw [e5]
  congr 1
  rw [show 16 + (getL r 0 0).1 = 8 + (8 + (getL r 0 0).1) from by omega, List.take_add, List.take_add]
theorem doc_dec {b0 : UInt8} {r : List UInt8} {f : Int × Int × List UInt8} (h : readR r = some f) (h0 : b0 = 245) :
    decF (b0 :: r) = if mayB f.1 f.2.1 f.2.2.length = true ∧ sumOf ((b0 :: r).take (1 + (getL r 0 0).2 + 16 + (getL r 0 0).1)) = ((b0 :: r).drop (1 + (getL r 0 0).2 + 16 + (getL r 0 0).1)).take 4 then some f else none := by
  have hh := head_read h h0
  obtain ⟨hk, hl, hd, -, -, -⟩ := readR_some h
  obtain ⟨t, ht, hkk, hn⟩ := put_of_get0 hk
  have hr : readF (b0 :: r) = some f := h
  unfold decF
  rw [hr]
  simp only
  have e1 : (frameL f.1 f.2.1 f.2.2).length = (1 + (getL r 0 0).2 + 16 + (getL r 0 0).1) + 4 := by
    rw [frameL_length, hd, hkk]; omega
  have e2 : (b0 :: r).take (frameL f.1 f.2.1 f.2.2).length = (b0 :: r).take (1 + (getL r 0 0).2 + 16 + (getL r 0 0).1) ++ ((b0 :: r).drop (1 + (getL r 0 0).2 + 16 + (getL r 0 0).1)).take 4 := by
    rw [e1, List.take_add]
  have e3 : frameL f.1 f.2.1 f.2.2 = (b0 :: r).take (1 + (getL r 0 0).2 + 16 + (getL r 0 0).1) ++ sumOf ((b0 :: r).take (1 + (getL r 0 0).2 + 16 + (getL r 0 0).1)) := by
    rw [frameL, hh]
  have e4 : ((b0 :: r).take (frameL f.1 f.2.1 f.2.2).length = frameL f.1 f.2.1 f.2.2) ↔ sumOf ((b0 :: r).take (1 + (getL r 0 0).2 + 16 + (getL r 0 0).1)) = ((b0 :: r).drop (1 + (getL r 0 0).2 + 16 + (getL r 0 0).1)).take 4 := by
    rw [e2, e3]
    exact ⟨fun h => (List.append_cancel_left h).symm, fun h => by rw [h]⟩
  simp only [e4]
theorem dec_short {b : List UInt8} (h : b.length < 22) : decF b = none := by
  rcases hd : decF b with _ | f
  · rfl
  · have := decF_fits hd; have := frameL_pos f.1 f.2.1 f.2.2; omega
theorem dec_mark {b0 : UInt8} {r : List UInt8} (h : b0 ≠ 245) : decF (b0 :: r) = none := by
  rcases hd : decF (b0 :: r) with _ | f
  · rfl
  · have h1 := (decF_some hd).2.2
    rw [frameL, headL, List.cons_append, List.length_cons, List.take_succ_cons] at h1
    injection h1 with h1
    exact absurd h1 h
theorem dec_none {b0 : UInt8} {r : List UInt8} (h : (getL r 0 0).2 = 0 ∨ 65536 < (getL r 0 0).1 ∨ (b0 :: r).length < (putL (getL r 0 0).1).length + (getL r 0 0).1 + 21) : decF (b0 :: r) = none := by
  rcases hd : decF (b0 :: r) with _ | f
  · rfl
  · obtain ⟨h1, h2, h3⟩ := decF_some hd
    have h4 := readR_some (show readR r = some f from h1)
    have h5 := decF_fits hd
    rw [frameL_length, h4.2.2.1] at h5
    have h6 := (mayB_true h2).2.2.2.2
    rcases h with h | h | h
    · exact absurd h h4.1
    · omega
    · omega
theorem read_fits {b0 : UInt8} {r : List UInt8} (hk : (getL r 0 0).2 ≠ 0) (hs : (putL (getL r 0 0).1).length + (getL r 0 0).1 + 21 ≤ (b0 :: r).length) : ∃ f, readR r = some f := by
  obtain ⟨t, ht, hkk, hn⟩ := put_of_get0 hk
  rw [List.length_cons] at hs
  unfold readR
  rw [if_neg hk, if_neg (by rw [List.length_drop]; omega)]
  exact ⟨_, rfl⟩

/-! ### a byte that is another one -/
theorem spoil_shorter {g s : Int} {d : List UInt8} {k : Nat} {c : UInt8} (hk : k < (frameL g s d).length) (hne : (frameL g s d)[k] ≠ c) {f : Int × Int × List UInt8} (h : decF ((frameL g s d).set k c) = some f) :
    (frameL f.1 f.2.1 f.2.2).length < (frameL g s d).length := by
  have h1 := decF_fits h
  rw [List.length_set] at h1
  rcases Nat.lt_or_ge (frameL f.1 f.2.1 f.2.2).length (frameL g s d).length with hlt | hge
  · exact hlt
  · exfalso
    have heq : (frameL f.1 f.2.1 f.2.2).length = (frameL g s d).length := by omega
    have h2 := (decF_some h).2.2
    rw [heq, List.take_of_length_le (by rw [List.length_set]; omega)] at h2
    -- both are heads and sums, as long as one another
    have hl : (headL f.1 f.2.1 f.2.2).length = (headL g s d).length := by
      rw [frameL_length, frameL_length] at heq; rw [headL_length, headL_length]; omega
    unfold frameL at h2 hk hne
    generalize headL f.1 f.2.1 f.2.2 = H' at *
    generalize headL g s d = H at *
    by_cases hkH : k < H.length
    · rw [List.set_append_left _ _ hkH] at h2
      have h3 := List.append_inj h2 (by rw [List.length_set]; exact hl.symm)
      rw [List.getElem_append_left hkH] at hne
      have h4 := crc_changes H k hkH c hne
      rw [← h3.1] at h3
      exact h4 (sum4_inj (crcOf_lt _) (crcOf_lt _) h3.2)
    · rw [List.set_append_right _ _ (by omega)] at h2
      have h3 := List.append_inj h2 hl.symm
      have h4 := h3.2
      rw [← h3.1] at h4
      rw [List.getElem_append_right (by omega)] at hne
      apply hne
      have h5 : ((sumOf H).set (k - H.length) c)[k - H.length]? = some c := by
        rw [List.getElem?_set_self (by rw [List.length_append] at hk; omega)]
      rw [h4] at h5
      exact (List.getElem?_eq_some_iff.1 h5).2
end Go.Proofs.Ytkbjhnlihnakkaa
