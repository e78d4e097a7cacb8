/-
  What Behind comes to, the program's and the document's. Condition: the prefix is at most 2^47 bytes.
-/
import Derived.Test.YtooooppgdchjaaaBegins
namespace Go.Proofs.Ytooooppgdchjaaa
open Go.RowKit

theorem drop_highs (m : Nat) (r : List UInt8) : (List.replicate m (255 : UInt8) ++ r).dropWhile (· == 255) = r.dropWhile (· == 255) := by
  induction m with
  | zero => rfl
  | succ m ih => rw [List.replicate_succ, List.cons_append, List.dropWhile_cons_of_pos (by decide), ih]
theorem behind_all (m : Nat) : behindL (List.replicate m 255) = [] := by
  unfold behindL
  have h := drop_highs m []
  rw [List.append_nil] at h
  rw [List.reverse_replicate, h]
  rfl
theorem behind_at {q : List UInt8} {c : UInt8} (m : Nat) (h : c ≠ 255) : behindL (q ++ c :: List.replicate m 255) = q ++ [c + 1] := by
  unfold behindL
  rw [List.reverse_append, List.reverse_cons, List.reverse_replicate, List.append_assoc, drop_highs]
  have : ([c] ++ q.reverse).dropWhile (· == 255) = c :: q.reverse := by
    show (c :: q.reverse).dropWhile _ = _
    rw [List.dropWhile_cons_of_neg (by simpa using h)]
  rw [this]
  simp
theorem high_next {p : List UInt8} {k m : Nat} (h : k < p.length) (h1 : p.drop (k + 1) = List.replicate m 255) (h2 : p[k] = 255) : p.drop k = List.replicate (m + 1) 255 := by
  rw [List.drop_eq_getElem_cons h, h1, h2, List.replicate_succ]
theorem behind_out {p : List UInt8} {k m : Nat} (h : k < p.length) (h1 : p.drop (k + 1) = List.replicate m 255) (h2 : p[k] ≠ 255) : behindL p = (p.take (k + 1)).set k (p[k] + 1) := by
  have e : p = p.take k ++ p[k] :: List.replicate m 255 := by
    rw [← h1, ← List.drop_eq_getElem_cons h, List.take_append_drop]
  have e2 : behindL p = behindL (p.take k ++ p[k] :: List.replicate m 255) := congrArg behindL e
  rw [e2, behind_at m h2, List.take_succ_eq_append_getElem h]
  rw [List.set_append_right _ _ (by simp; omega), List.length_take, Nat.min_eq_left (by omega), Nat.sub_self]
  rfl

/-- what Behind answers -/
def BehindOut (w : World) (p : List UInt8) (e : Ending) (w' : World) : Prop :=
  ∃ (A : Option Addr) (n c : Nat), e = .returned (.slice A n c) ∧ (behindL p).length = n ∧ Seen w' A (behindL p) ∧ Below w.heap.size w w'

/-- ahead of the look at the byte k - 1 -/
def BH (w : World) (p : List UInt8) (i : Value) (wr : World) : Prop :=
  ∃ k : Nat, k ≤ p.length ∧ i = .int .i64 k ∧ Hid (∃ m, p.drop k = List.replicate m 255) ∧ w = wr

set_option maxRecDepth 100000 in
set_option maxHeartbeats 1000000 in
theorem behind_any (A : Option Addr) (p : List UInt8) (c : Nat) (w : World) (hs : Seen w A p) (hcap : p.length ≤ c) (hn : p.length ≤ 140737488355328) :
    Calls Try.prog 21 #[.slice A p.length c] w fun e w' => BehindOut w p e w' := by
  have HS := Lib.hid hs
  clear hs
  go_enter Try.func21, Try.ntmps21
  go_wp2_with fail
  go_loopw [3] (fun i wr => BH w p i wr) (fun i _ => (intOf i).toNat)
  case atStart => exact ⟨p.length, by omega, rfl, Lib.hid ⟨0, by simp⟩, rfl⟩
  case round =>
    obtain ⟨k, hk, rfl, hall, rfl⟩ := hrel
    rcases Nat.eq_zero_or_pos k with rfl | hpos
    · have HB : Hid (behindL p = []) := by
        obtain ⟨m, h⟩ := hall.out
        show _ = _
        rw [show p = List.replicate m 255 from h, behind_all]
      go_wp2_with fail
      go_ret
      exact ⟨none, 0, 0, rfl, by rw [HB.out]; rfl, by rw [HB.out]; exact .inl rfl, Below.refl _ _⟩
    · obtain ⟨j, rfl⟩ : ∃ j, k = j + 1 := ⟨k - 1, by omega⟩
      have hj : j < p.length := by omega
      obtain ⟨b, off, hA, hbw, hc⟩ := HS.out.at_ hj
      subst hA
      by_cases h255 : p[j] = 255
      · have HN : Hid (∃ m, p.drop j = List.replicate m 255) := by
          obtain ⟨m, h⟩ := hall.out
          exact ⟨m + 1, high_next hj h h255⟩
        have t1 : (((p[j]).toNat : Int) == 255) = true := byte_is 255 rfl h255
        clear h255
        generalize p[j] = y at *
        go_wp2_with fail
        go_roundw
        case rel => exact ⟨j, by omega, by go_num, HN, by first | rfl | trivial⟩
        case measure => simp [intOf]
      · have t1 : (((p[j]).toNat : Int) == 255) = false := byte_not 255 rfl h255
        have HB : Hid (behindL p = (p.take (j + 1)).set j (p[j] + 1)) := by
          obtain ⟨m, h⟩ := hall.out
          exact behind_out hj h h255
        have HY := Lib.hid (succ_nat h255)
        have hy : (p[j]).toNat < 255 := by
          have := (p[j]).toNat_lt
          have h3 : (p[j]).toNat ≠ 255 := fun e => h255 (UInt8.toNat_inj.1 e)
          omega
        have HC := Lib.hid (clone_any (some ⟨b, off, none⟩) (p.take (j + 1)) (j + 1) c w (by rw [List.length_take]; omega) (HS.out.first _) (by omega))
        have HG : Hid ((p.take (j + 1))[j]? = some p[j]) := by show _ = _; rw [List.getElem?_take, if_pos (by omega), List.getElem?_eq_getElem hj]
        have t2 : ((j : Int) + 1 == 0) = false := by rw [beq_eq_false_iff_ne]; omega
        have HL : Hid (j < (p.take (j + 1)).length) := by show _ < _; rw [List.length_take]; omega
        clear h255
        generalize p.take (j + 1) = q at *
        generalize p[j] = y at *
        go_wp2_with fail
        refine HC.out.mono ?_
        rintro e w2 ⟨A2, c2, rfl, hm2⟩
        obtain ⟨g, hA2, _, hf, hm3⟩ := hm2.set (show j < j + 1 by omega) (y + 1)
        obtain ⟨g', off', hA2', hg', hcj⟩ := hm2.at_len.2.at_ HL.out
        subst hA2
        injection hA2' with hA2'
        injection hA2' with e1 e2 _
        subst e1 e2
        have hg := HG.out
        rw [List.getElem?_eq_getElem HL.out] at hg
        injection hg with hg
        rw [hg, Nat.zero_add] at hcj
        rw [HY.out] at hm3
        have H3 := Lib.hid hm3
        clear hm2 hm3
        go_wp2_with fail
        go_ret
        exact ⟨_, j + 1, c2, rfl, by rw [HB.out]; exact H3.out.at_len.1, by rw [HB.out]; exact H3.out.at_len.2, H3.out.2⟩
end Go.Proofs.Ytooooppgdchjaaa
