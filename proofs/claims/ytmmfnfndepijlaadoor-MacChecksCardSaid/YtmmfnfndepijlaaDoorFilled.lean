/-
  What the document's filling up comes to. Condition: the bytes are at most 2^46.
-/
import Derived.Test.YtmmfnfndepijlaaDoorWrite
namespace Go.Proofs.YtmmfnfndepijlaaDoor
open Go.RowKit

/-- 'append(d, y)', one byte, the new slice written out -/
theorem wpList_append_one {P : Program} (w : World) {ops : Array Oper} {rest : List Oper} {o : Oper} {a : Act} {Q : Exit → Act → World → Prop} (hgd : o.guard = none) (s x : Operand) (t : TypeId)
    (ho : o.op = .call { callee := .builtin .append, args := #[s, x], argTypes := #[t, t] })
    (e : TypeId) (i : TypeInfo) (z : Value) (ht : P.underlying t = some (.slice e)) (hi : P.info? e = some i) (hz : i.zero = some z)
    (hsize : i.size = 1) (hby : i.bytes = 1) (hzs : z.cells.size = 1)
    (w0 : World) (A : Option Addr) (n c : Nat) (d : List UInt8) (y : Int) (b8 : UInt8) (hs : a.eval s = .slice A n c) (hx : a.eval x = .slice (some ⟨w.heap.size, 0, none⟩) 1 1)
    (H : Made e w0 d (.slice A n c) w) (hn : d.length = n) (hy : (b8.toNat : Int) = y) (hb : n + 1 ≤ 140737488355328)
    (h : ∀ A' c' w', Made e w0 (d ++ [b8]) (.slice A' (n + 1) c') w' → wpList P ops Q rest (a.put o.dst (.slice A' (n + 1) c')) w') :
    wpList P ops Q (o :: rest) a (w.alloc (.cells #[.int .u8 y] e)) := by
  have h8 := b8.toNat_lt
  refine wpList_append_byte w hgd s x t ho e i z ht hi hz hsize hby hzs w0 (.slice A n c) d y hs hx H (by omega) (by omega) (by omega) (fun v' w' HM => ?_)
  have e1 : pushed d y = d ++ [b8] := by
    unfold pushed; rw [← hy, Int.toNat_natCast, UInt8.ofNat_toNat]
  rw [e1] at HM
  obtain ⟨A', c', rfl, _⟩ := HM.form
  rw [List.length_append, hn] at HM ⊢
  exact h A' c' w' HM

def FR1 (w : World) (l : List UInt8) (s : Value) (wr : World) : Prop :=
  ∃ j A c, j ≤ zerosN l.length ∧ s = .slice A (l.length + 1 + j) c ∧ Made 5 w (l ++ ((128 : UInt8) :: List.replicate j 0)) (.slice A (l.length + 1 + j) c) wr
def FR2 (w : World) (P : List UInt8) (n u : Nat) (s i : Value) (wr : World) : Prop :=
  ∃ (k : Nat) (A : Option Addr) (c : Nat), k ≤ 8 ∧ i = .int .i64 (7 - (k : Int)) ∧ s = .slice A (n + k) c ∧ Made 5 w (P ++ (be8 u).take k) (.slice A (n + k) c) wr

theorem fr1_next {w wr : World} {l : List UInt8} {j : Nat} {v : Value} (h : Made 5 w ((l ++ ((128 : UInt8) :: List.replicate j 0)) ++ [0]) v wr) : Made 5 w (l ++ ((128 : UInt8) :: List.replicate (j + 1) 0)) v wr := by
  have e : (l ++ ((128 : UInt8) :: List.replicate j 0)) ++ [0] = l ++ ((128 : UInt8) :: List.replicate (j + 1) 0) := by
    rw [List.append_assoc, List.cons_append, List.replicate_succ']
  rw [← e]; exact h

set_option maxRecDepth 100000 in
set_option maxHeartbeats 1000000 in
theorem filled_any (A : Option Addr) (l : List UInt8) (c : Nat) (w : World) (hs : Seen w A l) (hn : l.length ≤ 70368744177664) :
    Calls Tryd.prog 23 #[.slice A l.length c] w fun e w' => ∃ A' c', e = .returned (.slice A' (l.length + (zerosN l.length + 9)) c') ∧ Made 5 w (l ++ padL l.length) (.slice A' (l.length + (zerosN l.length + 9)) c') w' := by
  obtain ⟨i0, hi, hz0, hz1, hz2⟩ := info_parts info5
  have HS := Lib.hid hs
  have hz : zerosN l.length < 64 := by unfold zerosN; omega
  clear hs
  go_enter Tryd.func23, Tryd.ntmps23
  have HO := Made.nil 5 w
  go_wp2_with (at_builtin; refine wpList_append_bytes _ rfl _ _ 22 rfl 5 i0 (.int .u8 0) Tryd.underlying22 hi hz0 hz1 hz2 rfl w _ [] A l c rfl rfl HO ?a1 ?a2 ?_)
  case a1 => exact HS.out
  case a2 => simp; omega
  intro v1 w1 HM1 _
  obtain ⟨A1, c1, rfl, _⟩ := HM1.form
  clear HO
  go_wp2_with (refine wpList_append_one w1 rfl (.tmp 8) (.tmp 9) 22 rfl 5 i0 (.int .u8 0) Tryd.underlying22 hi hz0 hz1 hz2 rfl w A1 l.length c1 l 128 128 rfl rfl HM1 rfl rfl (by omega) ?_; intro A2 c2 w2 HM2)
  have H2 := Lib.hid HM2
  clear HM1 HM2
  go_wp2_with fail
  go_loopw [3] (fun s wr => FR1 w l s wr) (fun s _ => l.length + 1 + zerosN l.length - lenOf s)
  case atStart => exact ⟨0, A2, c2, by omega, rfl, H2.out⟩
  case round =>
    clear H2
    obtain ⟨j, A3, c3, hj, rfl, HM⟩ := hrel
    have H3 := Lib.hid HM
    clear HM
    by_cases hjz : j < zerosN l.length
    · have t1 : (((l.length : Int) + 1 + (j : Int)) % 64 != 56) = true := by
        rw [bne_iff_ne]; unfold zerosN at hjz; omega
      go_wp2_with (refine wpList_append_one wr rfl (.tmp 15) (.tmp 16) 22 rfl 5 i0 (.int .u8 0) Tryd.underlying22 hi hz0 hz1 hz2 rfl w A3 (l.length + 1 + j) c3 _ 0 0 rfl rfl H3.out (by simp; omega) rfl (by omega) ?_; intro A4 c4 w4 HM4)
      have H4 := Lib.hid (fr1_next HM4)
      clear HM4
      go_wp2_with fail
      go_roundw
      case rel => exact ⟨j + 1, A4, c4, by omega, rfl, H4.out⟩
      case measure => show l.length + 1 + zerosN l.length - (l.length + 1 + j + 1) < l.length + 1 + zerosN l.length - (l.length + 1 + j); omega
    · have ej : j = zerosN l.length := by omega
      have t1 : (((l.length : Int) + 1 + (j : Int)) % 64 != 56) = false := by
        rw [bne_eq_false_iff_eq]; unfold zerosN at ej; omega
      have HZ := Lib.hid ej
      clear ej hjz
      obtain ⟨P, hP⟩ : ∃ P, P = l ++ ((128 : UInt8) :: List.replicate j 0) := ⟨_, rfl⟩
      rw [← hP] at H3
      have HP : Hid (P ++ be8 (8 * l.length) = l ++ padL l.length) := by show _ = _; rw [hP, HZ.out]; simp [padL]
      have HPL : Hid (P.length = l.length + 1 + j) := by show _ = _; rw [hP]; simp; omega
      clear hP
      go_wp2_with fail
      obtain ⟨u, hu⟩ : ∃ u : Nat, u = 8 * l.length := ⟨_, rfl⟩
      have hlt : u < 18446744073709551616 := by omega
      rw [show (l.length : Int) * 8 = (u : Int) by omega]
      rw [← hu] at HP
      clear hu t1
      obtain ⟨n, hn'⟩ : ∃ n, n = l.length + 1 + j := ⟨_, rfl⟩
      have hnb : n ≤ 70368744177800 := by omega
      rw [← hn'] at H3 HPL ⊢
      have HN : Hid (n + 8 = l.length + (zerosN l.length + 9)) := by show _ = _; rw [hn', HZ.out]; omega
      clear hn'
      go_loopw [3, 5] (fun s i wr => FR2 w P n u s i wr) (fun _ i _ => (intOf i + 1).toNat)
      case atStart => exact ⟨0, A3, c3, by omega, rfl, rfl, by simpa using H3.out⟩
      case round =>
        clear H3
        obtain ⟨k, A5, c5, hk, rfl, rfl, HM⟩ := hrel
        have H5 := Lib.hid HM
        clear HM
        by_cases h8 : k < 8
        · have t2 : decide ((k : Int) ≤ 7) = true := by simp; omega
          have HBG : Hid ((be8 u).take (k + 1) = (be8 u).take k ++ [(be8 u)[k]'(by rw [length_be8]; omega)]) := List.take_succ_eq_append_getElem _
          have HY : Hid ((((be8 u)[k]'(by rw [length_be8]; omega)).toNat : Int) = (u : Int) / 2 ^ (8 * (7 - k)) % 256) := by
            show _ = _; rw [pad_shift, be8_get u k h8]
          generalize (be8 u)[k]'(by rw [length_be8]; omega) = b8 at *
          go_wp2_with (refine wpList_append_one wr rfl (.tmp 26) (.tmp 33) 22 rfl 5 i0 (.int .u8 0) Tryd.underlying22 hi hz0 hz1 hz2 rfl w A5 (n + k) c5 _ _ b8 rfl rfl H5.out (by rw [List.length_append, HPL.out, List.length_take, length_be8]; omega) HY.out (by omega) ?_; intro A6 c6 w6 HM6)
          have H6 : Hid (Made 5 w (P ++ (be8 u).take (k + 1)) (.slice A6 (n + (k + 1)) c6) w6) := by
            show Made _ _ _ _ _
            rw [HBG.out, ← List.append_assoc]; exact HM6
          clear HM6
          go_wp2_with fail
          go_roundw
          case rel => exact ⟨k + 1, A6, c6, by omega, by go_num, rfl, H6.out⟩
          case measure => simp [intOf]; omega
        · obtain rfl : k = 8 := by omega
          have H7 : Hid (Made 5 w (l ++ padL l.length) (.slice A5 (l.length + (zerosN l.length + 9)) c5) wr) := by
            have h := H5.out
            rw [List.take_of_length_le (Nat.le_of_eq (length_be8 u)), HP.out, HN.out] at h
            exact h
          rw [HN.out]
          clear H5
          go_wp2_with fail
          go_ret
          exact ⟨A5, c5, rfl, H7.out⟩
end Go.Proofs.YtmmfnfndepijlaaDoor
