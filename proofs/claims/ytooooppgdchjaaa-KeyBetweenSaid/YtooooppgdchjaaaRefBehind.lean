/-
  What the document's Behind comes to. Condition: the prefix is at most 2^47 bytes.
-/
import Derived.Test.YtooooppgdchjaaaBehind
namespace Go.Proofs.Ytooooppgdchjaaa
open Go.RowKit

/-- append(d, l...), the length of l named apart -/
theorem wpList_append_take {P : Program} (w : World) {ops : Array Oper} {rest : List Oper} {o : Oper} {a : Act} {Q : Exit → Act → World → Prop} (hgd : o.guard = none) (s x : Operand) (t : TypeId)
    (ho : o.op = .call { callee := .builtin .append, args := #[s, x], argTypes := #[t, t] })
    (e : TypeId) (i : TypeInfo) (z : Value) (ht : P.underlying t = some (.slice e)) (hi : P.info? e = some i) (hz : i.zero = some z)
    (hsize : i.size = 1) (hby : i.bytes = 1) (hzs : z.cells.size = 1)
    (w0 : World) (v : Value) (d : List UInt8) (A : Option Addr) (l : List UInt8) (n c : Nat) (hs : a.eval s = v) (hx : a.eval x = .slice A n c)
    (H : Made e w0 d v w) (hr : Seen w A l) (hn : l.length = n) (hb : d.length + n ≤ 140737488355328)
    (h : ∀ v' w', Made e w0 (d ++ l) v' w' → Below w0.heap.size w w' → wpList P ops Q rest (a.put o.dst v') w') :
    wpList P ops Q (o :: rest) a w := by
  subst hn
  exact wpList_append_bytes w hgd s x t ho e i z ht hi hz hsize hby hzs w0 v d A l c hs hx H hr hb h

set_option maxRecDepth 100000 in
set_option maxHeartbeats 1000000 in
theorem refBehind_any (A : Option Addr) (p : List UInt8) (c : Nat) (w : World) (hs : Seen w A p) (hcap : p.length ≤ c) (hn : p.length ≤ 140737488355328) :
    Calls Try.prog 22 #[.slice A p.length c] w fun e w' => BehindOut w p e w' := by
  obtain ⟨i0, hi, hz0, hz1, hz2⟩ := info_parts infoByte
  have HS := Lib.hid hs
  clear hs
  go_enter Try.func22, Try.ntmps22
  go_wp2_with fail
  go_loopw [3] (fun i wr => BH w p i wr) (fun i _ => (intOf i).toNat)
  case atStart => exact ⟨p.length, by omega, rfl, Lib.hid ⟨0, by simp⟩, rfl⟩
  case round =>
    obtain ⟨k, hk, rfl, hall, rfl⟩ := hrel
    rcases Nat.eq_zero_or_pos k with rfl | hpos
    · have HB : Hid (behindL p = []) := by
        obtain ⟨m, h⟩ := hall.out
        show _ = _
        rw [show p = List.replicate m 255 from h, behind_all]
      have HO := Made.nil 5 w
      go_wp2_with (at_builtin; refine wpList_append_bytes _ rfl _ _ 23 rfl 5 i0 (.int .u8 0) Try.underlying23 hi hz0 hz1 hz2 rfl w _ [] A [] c rfl rfl HO ?a1 ?a2 ?_)
      case a1 => exact .inl rfl
      case a2 => simp
      intro v1 w1 HM _
      obtain ⟨A1, c1, rfl, _⟩ := HM.form
      have H1 : Hid (Made 5 w [] (.slice A1 0 c1) w1) := HM
      clear HM HO
      go_wp2_with fail
      go_ret
      exact ⟨A1, 0, c1, rfl, by rw [HB.out]; rfl, by rw [HB.out]; exact .inl rfl, H1.out.2⟩
    · obtain ⟨j, rfl⟩ : ∃ j, k = j + 1 := ⟨k - 1, by omega⟩
      have hj : j < p.length := by omega
      obtain ⟨b, off, hA, hbw, hc⟩ := HS.out.at_ hj
      subst hA
      by_cases h255 : p[j] = 255
      · have HN : Hid (∃ m, p.drop j = List.replicate m 255) := by
          obtain ⟨m, h⟩ := hall.out
          exact ⟨m + 1, high_next hj h h255⟩
        have t1 : (((p[j]).toNat : Int) == 255) = true := byte_is 255 rfl h255
        clear h255
        generalize p[j] = y at *
        go_wp2_with fail
        go_roundw
        case rel => exact ⟨j, by omega, by go_num, HN, by first | rfl | trivial⟩
        case measure => simp [intOf]
      · have t1 : (((p[j]).toNat : Int) == 255) = false := byte_not 255 rfl h255
        have HB : Hid (behindL p = (p.take (j + 1)).set j (p[j] + 1)) := by
          obtain ⟨m, h⟩ := hall.out
          exact behind_out hj h h255
        have HY := Lib.hid (succ_nat h255)
        have hy : (p[j]).toNat < 255 := by
          have := (p[j]).toNat_lt
          have h3 : (p[j]).toNat ≠ 255 := fun e => h255 (UInt8.toNat_inj.1 e)
          omega
        have HQ := Lib.hid (HS.out.first (j + 1))
        have HQL : Hid ((p.take (j + 1)).length = j + 1) := by show _ = _; rw [List.length_take]; omega
        have HG : Hid ((p.take (j + 1))[j]? = some p[j]) := by show _ = _; rw [List.getElem?_take, if_pos (by omega), List.getElem?_eq_getElem hj]
        have t2 : (0 : Int) < (j : Int) + 1 := by omega
        have HL : Hid (j < (p.take (j + 1)).length) := by show _ < _; rw [List.length_take]; omega
        clear h255
        generalize p.take (j + 1) = q at *
        generalize p[j] = y at *
        have HO := Made.nil 5 w
        go_wp2_with (at_builtin; refine wpList_append_take w rfl _ _ 23 rfl 5 i0 (.int .u8 0) Try.underlying23 hi hz0 hz1 hz2 rfl w _ [] (some ⟨b, off, none⟩) q (j + 1) c rfl rfl HO HQ.out HQL.out (by simp; omega) ?_)
        intro v1 w1 HM _
        obtain ⟨A2, c2, hv, hM2⟩ := made_len HM HQL.out
        subst hv
        have H2 := Lib.hid hM2
        clear HM hM2 HO
        obtain ⟨g, hA2, _, hf, hm3⟩ := H2.out.set (show j < j + 1 by omega) (y + 1)
        obtain ⟨g', off', hA2', hg', hcj⟩ := H2.out.at_len.2.at_ HL.out
        subst hA2
        injection hA2' with hA2'
        injection hA2' with e1 e2 _
        subst e1 e2
        have hg := HG.out
        rw [List.getElem?_eq_getElem HL.out] at hg
        injection hg with hg
        rw [hg, Nat.zero_add] at hcj
        rw [HY.out] at hm3
        have H3 := Lib.hid hm3
        clear hm3 hg
        go_wp2_with fail
        go_ret
        exact ⟨_, j + 1, c2, rfl, by rw [HB.out]; exact H3.out.at_len.1, by rw [HB.out]; exact H3.out.at_len.2, H3.out.2⟩
end Go.Proofs.Ytooooppgdchjaaa
