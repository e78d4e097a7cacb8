/-
  What the program's Looks, Equal and Check come to. Conditions: as each says.
-/
import Derived.Test.YtmmfnfndepijlaaDoorMac
import Derived.BigQuiet
namespace Go.Proofs.YtmmfnfndepijlaaDoor
open Go.RowKit

theorem looks_any (A : Option Addr) (n c : Nat) (B : Option Addr) (m d : Nat) (w : World) :
    Calls Tryd.prog 11 #[.slice A n c, .slice B m d] w fun e w' => e = .returned (.int .i64 (if n = m then n else 0 : Nat)) ∧ w = w' := by
  by_cases h : n = m
  · subst h
    rw [if_pos rfl]
    go_enter Tryd.func11, Tryd.ntmps11
    go_wp2
    go_ret
    exact ⟨rfl, rfl⟩
  · rw [if_neg h]
    have h' : ¬ (n : Int) = (m : Int) := by omega
    go_enter Tryd.func11, Tryd.ntmps11
    go_wp2
    go_ret
    exact ⟨rfl, rfl⟩

/-- ahead of round k: the differences are none just if the first k are the same -/
def EqAt (w : World) (a b : List UInt8) (s i : Value) (wr : World) : Prop :=
  ∃ (k : Nat) (x : UInt8), k ≤ a.length ∧ i = .int .i64 k ∧ s = .int .u8 (x.toNat : Int) ∧ (x = 0 ↔ a.take k = b.take k) ∧ Below w.heap.size w wr
theorem bits_or8 (a b : UInt8) : bits .or .u8 (a.toNat : Int) (b.toNat : Int) = ((a ||| b).toNat : Int) := by
  rw [u8_or_nat _ _ a.toNat_lt b.toNat_lt, UInt8.toNat_or]
theorem or_none (x y z : UInt8) : (x ||| (y ^^^ z) = 0) ↔ (x = 0 ∧ y = z) := by
  rw [UInt8.or_eq_zero_iff, UInt8.xor_eq_zero_iff]
theorem eq_next {a b : List UInt8} {k : Nat} {x : UInt8} (h : x = 0 ↔ a.take k = b.take k) (ha : k < a.length) (hb : k < b.length) : (x ||| (a[k] ^^^ b[k]) = 0) ↔ a.take (k + 1) = b.take (k + 1) := by
  rw [or_none, h, List.take_succ_eq_append_getElem ha, List.take_succ_eq_append_getElem hb]
  constructor
  · rintro ⟨h1, h2⟩; rw [h1, h2]
  · intro h1
    have := List.append_inj h1 (by simp; omega)
    exact ⟨this.1, by simpa using this.2⟩

set_option maxRecDepth 100000 in
set_option maxHeartbeats 1000000 in
theorem equal_any (A : Option Addr) (a : List UInt8) (c : Nat) (B : Option Addr) (b : List UInt8) (d : Nat) (w : World) (hs : Seen w A a) (hs' : Seen w B b) (hn : a.length ≤ 140737488355328) (hn' : b.length ≤ 140737488355328) :
    Calls Tryd.prog 10 #[.slice A a.length c, .slice B b.length d] w fun e w' => e = .returned (.bool (decide (a = b))) ∧ Below w.heap.size w w' := by
  have HS := Lib.hid hs
  have HS' := Lib.hid hs'
  clear hs hs'
  by_cases hl : a.length = b.length
  · have hb : b.length = a.length := hl.symm
    rw [hb]
    have HB := Lib.hid hb
    obtain ⟨v, hv⟩ : ∃ v, v = decide (a = b) := ⟨_, rfl⟩
    rw [← hv]
    have HV := Lib.hid hv
    clear hb hl hn' hv
    have lk := looks_any A a.length c B a.length d w
    rw [if_pos rfl] at lk
    go_enter Tryd.func10, Tryd.ntmps10
    go_wp2_with fail
    refine lk.mono ?_
    rintro e w' ⟨rfl, rfl⟩
    go_wp2_with fail
    go_loopw [5, 15] (fun s i wr => EqAt w a b s i wr) (fun _ i _ => a.length - (intOf i).toNat)
    case atStart => exact ⟨0, 0, by omega, rfl, rfl, by simp, Below.refl _ _⟩
    case round =>
      clear lk
      obtain ⟨k, x, hk, rfl, rfl, hx, hw⟩ := hrel
      have BW := Lib.hid hw
      have HX := Lib.hid hx
      clear hw hx
      by_cases hlt : k < a.length
      · have hbk : k < b.length := by rw [HB.out]; exact hlt
        obtain ⟨g, off, hA, c0⟩ := (HS.out.below BW.out).byte k hlt
        obtain ⟨g', off', hB, c1⟩ := (HS'.out.below BW.out).byte k hbk
        have HN := Lib.hid (eq_next HX.out hlt hbk)
        obtain ⟨y, hy⟩ : ∃ y, a[k] = y := ⟨_, rfl⟩
        obtain ⟨z, hz⟩ : ∃ z, b[k] = z := ⟨_, rfl⟩
        rw [hy] at c0 HN
        rw [hz] at c1 HN
        subst hA hB
        clear hy hz
        have hx8 := x.toNat_lt
        have hy8 := y.toNat_lt
        have hz8 := z.toNat_lt
        have l1 : (k : Int) < a.length := by omega
        go_wp2_with fail
        go_region
        go_wp2_with fail
        go_roundw
        case rel => exact ⟨k + 1, x ||| (y ^^^ z), by omega, by go_num, by rw [bits_xor8, bits_or8], HN.out, BW.out.drew⟩
        case measure => simp [intOf]; omega
      · obtain rfl : k = a.length := by omega
        have HE : Hid ((x = 0) ↔ a = b) := by
          have h := HX.out
          rw [List.take_length] at h
          have e : b.take a.length = b := by rw [← HB.out, List.take_length]
          rw [e] at h
          exact h
        have HD : Hid (((x.toNat : Int) == 0) = v) := by
          show decide ((x.toNat : Int) = 0) = _
          rw [HV.out]
          apply decide_eq_decide.2
          rw [← HE.out, ← UInt8.toNat_inj]
          show _ ↔ x.toNat = 0
          omega
        clear HX hlt hk
        have hx8 := x.toNat_lt
        go_wp2_with fail
        go_ret
        exact ⟨congrArg (fun v => Ending.returned (.bool v)) HD.out, BW.out⟩
  · have HV : Hid (decide (a = b) = false) := by
      show _ = _
      rw [decide_eq_false_iff_not]
      rintro rfl
      exact hl rfl
    rw [HV.out]
    have h' : ¬ (a.length : Int) = (b.length : Int) := by omega
    go_enter Tryd.func10, Tryd.ntmps10
    go_wp2_with fail
    go_ret
    exact ⟨rfl, Below.refl _ _⟩
/-- the same, the length named apart -/
theorem equal_len (A : Option Addr) (a : List UInt8) (n c : Nat) (B : Option Addr) (b : List UInt8) (d : Nat) (w : World) (hn : a.length = n) (hs : Seen w A a) (hs' : Seen w B b) (hn1 : n ≤ 140737488355328) (hn' : b.length ≤ 140737488355328) :
    Calls Tryd.prog 10 #[.slice A n c, .slice B b.length d] w fun e w' => e = .returned (.bool (decide (a = b))) ∧ Below w.heap.size w w' := by
  subst hn
  exact equal_any A a c B b d w hs hs' hn1 hn'
set_option maxHeartbeats 400000 in
theorem check_any (A : Option Addr) (key : List UInt8) (c : Nat) (B : Option Addr) (b : List UInt8) (d : Nat) (E : Option Addr) (code : List UInt8) (k : Nat) (w : World) (hs : Seen w A key) (hc : key.length ≤ c) (hn : key.length ≤ 70368744177600)
    (hs' : Seen w B b) (hd : b.length ≤ d) (hn' : b.length ≤ 70368744177600) (hs2 : Seen w E code) (hn2 : code.length ≤ 140737488355328) (ht : Tabs w) :
    Calls Tryd.prog 12 #[.slice A key.length c, .slice B b.length d, .slice E code.length k] w fun e w' => e = .returned (.bool (decide (macL key b = code))) ∧ Below w.heap.size w w' := by
  have HS2 := Lib.hid hs2
  have HM := Lib.hid (mac_any A key c B b d w hs hc hn hs' hd hn' ht)
  have L32 := Lib.hid (length_macL key b)
  clear hs hs' hs2 ht
  obtain ⟨M, hM⟩ : ∃ M, M = macL key b := ⟨_, rfl⟩
  rw [← hM] at HM L32 ⊢
  clear hM
  go_enter Tryd.func12, Tryd.ntmps12
  go_wp2_with fail
  refine HM.out.mono ?_
  rintro e w1 ⟨A1, rfl, hs1, hb1⟩
  have S1 := Lib.hid hs1
  have B1 := Lib.hid hb1
  clear hs1 hb1 HM
  go_wp2_with fail
  refine (equal_len A1 M 32 32 E code k _ L32.out S1.out (HS2.out.below B1.out) (by omega) hn2).mono ?_
  rintro e w2 ⟨rfl, hb2⟩
  have B2 := Lib.hid (hop B1.out hb2)
  clear hb2
  go_wp2_with fail
  go_ret
  exact ⟨rfl, B2.out⟩
end Go.Proofs.YtmmfnfndepijlaaDoor
