/-
  A clone of bytes; a byte and a number. Condition: the bytes are at most 2^47.
  Plain mathematics: the order of bytes; what begins with a prefix lies from it up to the key behind. No program is named here.
  Begins, of the document: does a key begin with bytes? Condition: lengths fit.
  What Behind comes to, the program's and the document's. Condition: the prefix is at most 2^47 bytes.
-/
import Derived.Test.YtdaahapbpnjkfaaGreatChecked
import Derived.Test.YtdaahapbpnjkfaaGreatCFlat
import Derived.Lib.SliceRun
import Derived.Test.YtdaahapbpnjkfaaGreatCDkImage
import Derived.Deep.RegionHeldLaw
import Derived.BigQuiet
namespace Go.Proofs.YtdaahapbpnjkfaaGreat
open Go.RowKit
theorem infoByte : (Tryz.prog.info? 5).map (fun i => (i.zero, i.size, i.bytes)) = some (some (.int .u8 0), 1, 1) := by kernel_rfl
theorem kclone_any (A : Option Addr) (l : List UInt8) (n c : Nat) (w : World) (hn : l.length = n) (hs : Seen w A l) (hl : n ≤ 140737488355328) :
    Calls Tryz.prog 69 #[.slice A n c] w fun e w' => ∃ A' c', e = .returned (.slice A' n c') ∧ Made 5 w l (.slice A' n c') w' := by
  obtain ⟨i0, hi, hz0, hz1, hz2⟩ := info_parts infoByte
  have q22 : ∀ (w : World) (a : Option Addr) (n c n' c' : Nat), (binOp .eql 22 (.slice a n c) (.slice none n' c')).run Tryz.prog w = .ok (.bool a.isNone) w := fun w a n c n' c' => Lib.run_eql_slice_nil w _ _ a n c n' c' Tryz.underlying22
  rcases A with _ | ad
  · obtain rfl : l = [] := by
      rcases hs with h | ⟨_, _, h, _⟩
      · exact h
      · cases h
    obtain rfl : n = 0 := hn.symm
    go_enter Tryz.func69, Tryz.ntmps69
    go_wp2_with fail
    go_ret
    exact ⟨none, 0, rfl, Made.nil _ _⟩
  · have HS := Lib.hid hs
    have HO : Made 5 w [] (.slice (some ⟨w.heap.size, 0, none⟩) 0 0) (w.alloc (.cells #[] 5)) :=
      ⟨World.ownsRow_made w #[] 0 (Nat.le_refl _) (Nat.zero_le _) rfl, (Below.refl _ _).alloc (Nat.le_refl _) _⟩
    clear hs
    subst hn
    go_enter Tryz.func69, Tryz.ntmps69
    go_wp2_with (at_builtin; refine wpList_append_bytes _ rfl _ _ 22 rfl 5 i0 (.int .u8 0) Tryz.underlying22 hi hz0 hz1 hz2 rfl w _ [] (some ad) l c rfl rfl HO ?a1 ?a2 ?_)
    case a1 => exact HS.out.below HO.2
    case a2 => simpa using hl
    intro v1 w1 HM _
    obtain ⟨A1, c1, rfl, _⟩ := HM.form
    have H1 : Hid (Made 5 w l (.slice A1 l.length c1) w1) := by show Made _ _ _ _ _; simpa using HM
    clear HM HO
    go_wp2_with fail
    go_ret
    exact ⟨A1, c1, rfl, H1.out⟩
theorem byte_is {y c : UInt8} (n : Int) (hn : (c.toNat : Int) = n) (h : y = c) : ((y.toNat : Int) == n) = true := by
  subst h; rw [hn]; simp
theorem byte_not {y c : UInt8} (n : Int) (hn : (c.toNat : Int) = n) (h : y ≠ c) : ((y.toNat : Int) == n) = false := by
  rw [beq_eq_false_iff_ne, ← hn]
  intro e
  exact h (UInt8.toNat_inj.1 (by omega))
end Go.Proofs.YtdaahapbpnjkfaaGreat
namespace Go.Proofs.YtdaahapbpnjkfaaGreat
open Go.RowKit
def behindL (p : List UInt8) : List UInt8 :=
  match p.reverse.dropWhile (· == 255) with
  | [] => []
  | c :: r => r.reverse ++ [c + 1]
theorem behind_form (p : List UInt8) : (∃ m, p = List.replicate m 255 ∧ behindL p = []) ∨ ∃ q c m, c ≠ 255 ∧ p = q ++ c :: List.replicate m 255 ∧ behindL p = q ++ [c + 1] := by
  have key : ∀ r : List UInt8, (∃ m, r = List.replicate m 255 ∧ r.dropWhile (· == 255) = []) ∨ ∃ q c m, c ≠ 255 ∧ r = List.replicate m 255 ++ c :: q ∧ r.dropWhile (· == 255) = c :: q := by
    intro r
    induction r with
    | nil => exact .inl ⟨0, rfl, rfl⟩
    | cons x r ih =>
      by_cases hx : x = 255
      · subst hx
        rcases ih with ⟨m, h1, h2⟩ | ⟨q, c, m, hc, h1, h2⟩
        · exact .inl ⟨m + 1, by rw [h1, List.replicate_succ, ← h1], by simpa using h2⟩
        · exact .inr ⟨q, c, m + 1, hc, by rw [h1, List.replicate_succ]; rfl, by simpa using h2⟩
      · exact .inr ⟨r, x, 0, hx, rfl, by simp [hx]⟩
  rcases key p.reverse with ⟨m, h1, h2⟩ | ⟨q, c, m, hc, h1, h2⟩
  · refine .inl ⟨m, ?_, by rw [behindL, h2]⟩
    have := congrArg List.reverse h1
    simpa using this
  · refine .inr ⟨q.reverse, c, m, hc, ?_, by rw [behindL, h2]⟩
    have := congrArg List.reverse h1
    simpa using this
theorem succ_nat {c : UInt8} (h : c ≠ 255) : (c + 1).toNat = c.toNat + 1 := by
  have h2 := c.toNat_lt
  have h3 : c.toNat ≠ 255 := fun e => h (UInt8.toNat_inj.1 e)
  rw [UInt8.toNat_add]
  show (c.toNat + 1) % 256 = _
  omega
end Go.Proofs.YtdaahapbpnjkfaaGreat
namespace Go.Proofs.YtdaahapbpnjkfaaGreat
open Go.RowKit
theorem Seen.first {w : World} {A : Option Addr} {l : List UInt8} (h : Seen w A l) (n : Nat) : Seen w A (l.take n) := by
  rcases h with rfl | ⟨b, off, rfl, hlt, hc⟩
  · exact .inl (by simp)
  · refine .inr ⟨b, off, rfl, hlt, fun j hj => ?_⟩
    rw [List.length_take] at hj
    rw [List.getElem_take]
    exact hc j (by omega)
end Go.Proofs.YtdaahapbpnjkfaaGreat
namespace Go.Proofs.YtdaahapbpnjkfaaGreat
open Go.RowKit
theorem drop_highs (m : Nat) (r : List UInt8) : (List.replicate m (255 : UInt8) ++ r).dropWhile (· == 255) = r.dropWhile (· == 255) := by
  induction m with
  | zero => rfl
  | succ m ih => rw [List.replicate_succ, List.cons_append, List.dropWhile_cons_of_pos (by decide), ih]
theorem behind_all (m : Nat) : behindL (List.replicate m 255) = [] := by
  unfold behindL
  have h := drop_highs m []
  rw [List.append_nil] at h
  rw [List.reverse_replicate, h]
  rfl
theorem behind_at {q : List UInt8} {c : UInt8} (m : Nat) (h : c ≠ 255) : behindL (q ++ c :: List.replicate m 255) = q ++ [c + 1] := by
  unfold behindL
  rw [List.reverse_append, List.reverse_cons, List.reverse_replicate, List.append_assoc, drop_highs]
  have : ([c] ++ q.reverse).dropWhile (· == 255) = c :: q.reverse := by
    show (c :: q.reverse).dropWhile _ = _
    rw [List.dropWhile_cons_of_neg (by simpa using h)]
  rw [this]
  simp
theorem high_next {p : List UInt8} {k m : Nat} (h : k < p.length) (h1 : p.drop (k + 1) = List.replicate m 255) (h2 : p[k] = 255) : p.drop k = List.replicate (m + 1) 255 := by
  rw [List.drop_eq_getElem_cons h, h1, h2, List.replicate_succ]
theorem behind_out {p : List UInt8} {k m : Nat} (h : k < p.length) (h1 : p.drop (k + 1) = List.replicate m 255) (h2 : p[k] ≠ 255) : behindL p = (p.take (k + 1)).set k (p[k] + 1) := by
  have e : p = p.take k ++ p[k] :: List.replicate m 255 := by
    rw [← h1, ← List.drop_eq_getElem_cons h, List.take_append_drop]
  have e2 : behindL p = behindL (p.take k ++ p[k] :: List.replicate m 255) := congrArg behindL e
  rw [e2, behind_at m h2, List.take_succ_eq_append_getElem h]
  rw [List.set_append_right _ _ (by simp; omega), List.length_take, Nat.min_eq_left (by omega), Nat.sub_self]
  rfl
def BehindOut (w : World) (p : List UInt8) (e : Ending) (w' : World) : Prop :=
  ∃ (A : Option Addr) (n c : Nat), e = .returned (.slice A n c) ∧ (behindL p).length = n ∧ Seen w' A (behindL p) ∧ Below w.heap.size w w'
def BH (w : World) (p : List UInt8) (i : Value) (wr : World) : Prop :=
  ∃ k : Nat, k ≤ p.length ∧ i = .int .i64 k ∧ Hid (∃ m, p.drop k = List.replicate m 255) ∧ w = wr
set_option maxRecDepth 100000 in
set_option maxHeartbeats 1000000 in
theorem behind_any (A : Option Addr) (p : List UInt8) (c : Nat) (w : World) (hs : Seen w A p) (hcap : p.length ≤ c) (hn : p.length ≤ 140737488355328) :
    Calls Tryz.prog 36 #[.slice A p.length c] w fun e w' => BehindOut w p e w' := by
  have HS := Lib.hid hs
  clear hs
  go_enter Tryz.func36, Tryz.ntmps36
  go_wp2_with fail
  go_loopw [3] (fun i wr => BH w p i wr) (fun i _ => (intOf i).toNat)
  case atStart => exact ⟨p.length, by omega, rfl, Lib.hid ⟨0, by simp⟩, rfl⟩
  case round =>
    obtain ⟨k, hk, rfl, hall, rfl⟩ := hrel
    rcases Nat.eq_zero_or_pos k with rfl | hpos
    · have HB : Hid (behindL p = []) := by
        obtain ⟨m, h⟩ := hall.out
        show _ = _
        rw [show p = List.replicate m 255 from h, behind_all]
      go_wp2_with fail
      go_ret
      exact ⟨none, 0, 0, rfl, by rw [HB.out]; rfl, by rw [HB.out]; exact .inl rfl, Below.refl _ _⟩
    · obtain ⟨j, rfl⟩ : ∃ j, k = j + 1 := ⟨k - 1, by omega⟩
      have hj : j < p.length := by omega
      obtain ⟨b, off, hA, hbw, hc⟩ := HS.out.at_ hj
      subst hA
      by_cases h255 : p[j] = 255
      · have HN : Hid (∃ m, p.drop j = List.replicate m 255) := by
          obtain ⟨m, h⟩ := hall.out
          exact ⟨m + 1, high_next hj h h255⟩
        have t1 : (((p[j]).toNat : Int) == 255) = true := byte_is 255 rfl h255
        clear h255
        generalize p[j] = y at *
        go_wp2_with fail
        go_roundw
        case rel => exact ⟨j, by omega, by go_num, HN, by first | rfl | trivial⟩
        case measure => simp [intOf]
      · have t1 : (((p[j]).toNat : Int) == 255) = false := byte_not 255 rfl h255
        have HB : Hid (behindL p = (p.take (j + 1)).set j (p[j] + 1)) := by
          obtain ⟨m, h⟩ := hall.out
          exact behind_out hj h h255
        have HY := Lib.hid (succ_nat h255)
        have hy : (p[j]).toNat < 255 := by
          have := (p[j]).toNat_lt
          have h3 : (p[j]).toNat ≠ 255 := fun e => h255 (UInt8.toNat_inj.1 e)
          omega
        have HC := Lib.hid (kclone_any (some ⟨b, off, none⟩) (p.take (j + 1)) (j + 1) c w (by rw [List.length_take]; omega) (HS.out.first _) (by omega))
        have HG : Hid ((p.take (j + 1))[j]? = some p[j]) := by show _ = _; rw [List.getElem?_take, if_pos (by omega), List.getElem?_eq_getElem hj]
        have t2 : ((j : Int) + 1 == 0) = false := by rw [beq_eq_false_iff_ne]; omega
        have HL : Hid (j < (p.take (j + 1)).length) := by show _ < _; rw [List.length_take]; omega
        clear h255
        generalize p.take (j + 1) = q at *
        generalize p[j] = y at *
        go_wp2_with fail
        refine HC.out.mono ?_
        rintro e w2 ⟨A2, c2, rfl, hm2⟩
        obtain ⟨g, hA2, _, hf, hm3⟩ := hm2.set (show j < j + 1 by omega) (y + 1)
        obtain ⟨g', off', hA2', hg', hcj⟩ := hm2.at_len.2.at_ HL.out
        subst hA2
        injection hA2' with hA2'
        injection hA2' with e1 e2 _
        subst e1 e2
        have hg := HG.out
        rw [List.getElem?_eq_getElem HL.out] at hg
        injection hg with hg
        rw [hg, Nat.zero_add] at hcj
        rw [HY.out] at hm3
        have H3 := Lib.hid hm3
        clear hm2 hm3
        go_wp2_with fail
        go_ret
        exact ⟨_, j + 1, c2, rfl, by rw [HB.out]; exact H3.out.at_len.1, by rw [HB.out]; exact H3.out.at_len.2, H3.out.2⟩
end Go.Proofs.YtdaahapbpnjkfaaGreat
