/-
  What Parse, the program's and the document's, comes to: one Lean function of the text's bytes. Condition: a string's length fits an int.
-/
import Derived.Test.YtjjefjkaepbhpaaDoorChecked
import Derived.Test.YtjjefjkaepbhpaaDoorMem
namespace Go.Proofs.YtjjefjkaepbhpaaDoor
open Go.RowKit

def dig (c : UInt8) : Bool := decide (48 ≤ c.toNat) && decide (c.toNat ≤ 57)
def decL : List UInt8 → Nat → Nat
  | [], x => x
  | c :: r, x => decL r (10 * x + (c.toNat - 48))
def badForm (l : List UInt8) : Bool := decide (l.length = 0 ∨ 18 < l.length ∨ (1 < l.length ∧ (l.getD 0 0).toNat = 48))
def parseOf (l : List UInt8) : Nat × Bool := if badForm l then (0, false) else if l.all dig then (decL l 0, true) else (0, false)

theorem decL_snoc (l : List UInt8) (c : UInt8) : ∀ x, decL (l ++ [c]) x = 10 * decL l x + (c.toNat - 48) := by
  induction l with
  | nil => intro x; rfl
  | cons d r ih => intro x; simp only [List.cons_append, decL]; exact ih _
theorem decL_lt (l : List UInt8) : l.all dig = true → ∀ x k, x < 10 ^ k → decL l x < 10 ^ (k + l.length) := by
  induction l with
  | nil => intro _ x k h; exact h
  | cons d r ih =>
    intro hd x k h
    simp only [List.all_cons, Bool.and_eq_true] at hd
    have h9 : d.toNat - 48 ≤ 9 := by have := hd.1; simp [dig] at this; omega
    have := ih hd.2 (10 * x + (d.toNat - 48)) (k + 1) (by rw [Nat.pow_succ]; omega)
    simpa [decL, Nat.add_assoc, Nat.add_comm 1] using this
theorem decL_small {l : List UInt8} {k : Nat} (h : k ≤ 17) (hd : (l.take k).all dig = true) : decL (l.take k) 0 < 100000000000000000 := by
  have h1 := decL_lt (l.take k) hd 0 0 (by omega)
  have h2 : 10 ^ (0 + (l.take k).length) ≤ 10 ^ 17 := Nat.pow_le_pow_right (by omega) (by have := List.length_take_le k l; omega)
  have h3 : 10 ^ 17 = 100000000000000000 := by decide
  omega

theorem empty_of {s : ByteArray} (h : s.size = 0) : s = ByteArray.empty := by
  apply ByteArray.ext
  exact Array.eq_empty_of_size_eq_zero h
theorem byte_of (s : ByteArray) (k : Nat) (h : k < s.size) : (s.data.toList.getD k 0).toNat = s[k].toNat := by
  have h' : k < s.data.toList.length := by simpa using h
  rw [List.getD_eq_getElem?_getD, List.getElem?_eq_getElem h']; rfl

def digOf (l : List UInt8) : Nat × Bool := if l.all dig then (decL l 0, true) else (0, false)
theorem dig_next (s : ByteArray) (k : Nat) (h : k < s.size) (hd : (s.data.toList.take k).all dig = true) :
    (48 ≤ s[k].toNat → s[k].toNat ≤ 57 → 10 * decL (s.data.toList.take k) 0 + (s[k].toNat - 48) = decL (s.data.toList.take (k + 1)) 0 ∧ (s.data.toList.take (k + 1)).all dig = true) ∧
    (¬ (48 ≤ s[k].toNat ∧ s[k].toNat ≤ 57) → digOf s.data.toList = (0, false)) := by
  have h' : k < s.data.toList.length := by simpa using h
  have e : s.data.toList.take (k + 1) = s.data.toList.take k ++ [s[k]] := by
    rw [List.take_succ_eq_append_getElem h']; rfl
  refine ⟨fun h1 h2 => ⟨by rw [e, decL_snoc], by rw [e, List.all_append, hd]; simp [dig, h1, h2]⟩, fun hn => ?_⟩
  have : ¬ s.data.toList.all dig = true := by
    intro ha
    have := List.all_eq_true.1 ha s[k] (List.getElem_mem h')
    simp [dig] at this
    omega
  rw [digOf, if_neg this]

set_option maxHeartbeats 400000 in
theorem parse_bad (s : ByteArray) (w : World) (hm : s.size ≤ 9223372036854775807) (hb : badForm s.data.toList = true) :
    Calls Tryd.prog 16 #[.string s] w fun e w' =>
      e = .returned (.tuple #[.int .i64 0, .bool false]) ∧ w = w' := by
  have hsz : s.data.toList.length = s.size := by simp
  simp only [badForm, hsz, decide_eq_true_eq] at hb
  clear hsz
  by_cases h0 : s.size = 0
  · obtain rfl : s = ByteArray.empty := empty_of h0
    clear h0 hb hm
    go_enter Tryd.func16, Tryd.ntmps16
    go_wp2_with fail
    all_goals go_ret2
    all_goals exact ⟨rfl, rfl⟩
  · have hne : ¬ s = ByteArray.empty := fun e => h0 (by rw [e]; rfl)
    have t0 : ((s.size : Int) == 0) = false := by simp [h0]
    by_cases h18 : 18 < s.size
    · clear hb h0
      go_enter Tryd.func16, Tryd.ntmps16
      go_wp2_with fail
      all_goals go_ret2
      all_goals exact ⟨rfl, rfl⟩
    · obtain ⟨h1, h48⟩ : 1 < s.size ∧ (s.data.toList.getD 0 0).toNat = 48 := by omega
      have hpos : 0 < s.size := by omega
      have t48 : ((s[0].toNat : Int) == 48) = true := by rw [← byte_of s 0 hpos, h48]; rfl
      clear hb h0 h48
      go_enter Tryd.func16, Tryd.ntmps16
      go_wp2_with fail
      all_goals go_ret2
      all_goals exact ⟨rfl, rfl⟩

set_option maxHeartbeats 400000 in
theorem parse_one (s : ByteArray) (w : World) (hpos : 0 < s.size) (h18 : s.size ≤ 18) (t0 : ((s.size : Int) == 0) = false)
    (h1 : s.size ≤ 1) :
    Calls Tryd.prog 16 #[.string s] w fun e w' =>
      e = .returned (.tuple #[.int .i64 ((digOf s.data.toList).1 : Nat), .bool (digOf s.data.toList).2]) ∧ w = w' := by
  go_enter Tryd.func16, Tryd.ntmps16
  go_wp2_with fail
  go_loop [4, 26] (fun n i => ∃ k y : Nat, k ≤ s.size ∧ i = .int .i64 k ∧ n = .int .i64 y ∧ Hid (y = decL (s.data.toList.take k) 0 ∧ (s.data.toList.take k).all dig = true)) (fun _ i => s.size - (intOf i).toNat)
  case atStart => exact ⟨0, 0, by omega, rfl, rfl, rfl, rfl⟩
  case round =>
    obtain ⟨k, y, hk, rfl, rfl, H⟩ := hrel
    by_cases hlt : k < s.size
    · have hy : y < 100000000000000000 := by rw [H.out.1]; exact decL_small (by omega) H.out.2
      have hx := s[k].toNat_lt
      have HN := Lib.hid (dig_next s k hlt H.out.2)
      by_cases hd : 48 ≤ s[k].toNat ∧ s[k].toNat ≤ 57
      · obtain ⟨d1, d2⟩ := hd
        have HG : Hid (10 * y + (s[k].toNat - 48) = decL (s.data.toList.take (k + 1)) 0 ∧ (s.data.toList.take (k + 1)).all dig = true) := by
          rw [H.out.1]; exact HN.out.1 d1 d2
        clear HN
        go_wp2_with fail
        go_round
        case rel => exact ⟨k + 1, 10 * y + (s[k].toNat - 48), by omega, by go_num, by go_num, HG.out⟩
        case measure => simp [intOf]; omega
      · have HG : Hid (digOf s.data.toList = (0, false)) := HN.out.2 hd
        clear HN
        by_cases d1 : 48 ≤ s[k].toNat
        · have d2 : 57 < s[k].toNat := by omega
          clear hd
          go_wp2_with fail
          all_goals go_ret2
          all_goals exact ⟨by rw [HG.out]; rfl, rfl⟩
        · clear hd
          go_wp2_with fail
          all_goals go_ret2
          all_goals exact ⟨by rw [HG.out]; rfl, rfl⟩
    · have HG : Hid (digOf s.data.toList = (y, true)) := by
        have e : s.data.toList.take k = s.data.toList := List.take_of_length_le (by simp; omega)
        have hh := H.out
        rw [e] at hh
        show _ = _
        rw [digOf, if_pos hh.2, hh.1]
      go_wp2_with fail
      all_goals go_ret2
      all_goals exact ⟨by rw [HG.out]; rfl, rfl⟩

set_option maxHeartbeats 400000 in
theorem parse_plain (s : ByteArray) (w : World) (hpos : 0 < s.size) (h18 : s.size ≤ 18) (t0 : ((s.size : Int) == 0) = false)
    (h1 : 1 < s.size) (t48 : ((s[0].toNat : Int) == 48) = false) :
    Calls Tryd.prog 16 #[.string s] w fun e w' =>
      e = .returned (.tuple #[.int .i64 ((digOf s.data.toList).1 : Nat), .bool (digOf s.data.toList).2]) ∧ w = w' := by
  go_enter Tryd.func16, Tryd.ntmps16
  go_wp2_with fail
  go_loop [4, 26] (fun n i => ∃ k y : Nat, k ≤ s.size ∧ i = .int .i64 k ∧ n = .int .i64 y ∧ Hid (y = decL (s.data.toList.take k) 0 ∧ (s.data.toList.take k).all dig = true)) (fun _ i => s.size - (intOf i).toNat)
  case atStart => exact ⟨0, 0, by omega, rfl, rfl, rfl, rfl⟩
  case round =>
    obtain ⟨k, y, hk, rfl, rfl, H⟩ := hrel
    by_cases hlt : k < s.size
    · have hy : y < 100000000000000000 := by rw [H.out.1]; exact decL_small (by omega) H.out.2
      have hx := s[k].toNat_lt
      have HN := Lib.hid (dig_next s k hlt H.out.2)
      by_cases hd : 48 ≤ s[k].toNat ∧ s[k].toNat ≤ 57
      · obtain ⟨d1, d2⟩ := hd
        have HG : Hid (10 * y + (s[k].toNat - 48) = decL (s.data.toList.take (k + 1)) 0 ∧ (s.data.toList.take (k + 1)).all dig = true) := by
          rw [H.out.1]; exact HN.out.1 d1 d2
        clear HN
        go_wp2_with fail
        go_round
        case rel => exact ⟨k + 1, 10 * y + (s[k].toNat - 48), by omega, by go_num, by go_num, HG.out⟩
        case measure => simp [intOf]; omega
      · have HG : Hid (digOf s.data.toList = (0, false)) := HN.out.2 hd
        clear HN
        by_cases d1 : 48 ≤ s[k].toNat
        · have d2 : 57 < s[k].toNat := by omega
          clear hd
          go_wp2_with fail
          all_goals go_ret2
          all_goals exact ⟨by rw [HG.out]; rfl, rfl⟩
        · clear hd
          go_wp2_with fail
          all_goals go_ret2
          all_goals exact ⟨by rw [HG.out]; rfl, rfl⟩
    · have HG : Hid (digOf s.data.toList = (y, true)) := by
        have e : s.data.toList.take k = s.data.toList := List.take_of_length_le (by simp; omega)
        have hh := H.out
        rw [e] at hh
        show _ = _
        rw [digOf, if_pos hh.2, hh.1]
      go_wp2_with fail
      all_goals go_ret2
      all_goals exact ⟨by rw [HG.out]; rfl, rfl⟩

theorem parse_any (s : ByteArray) (w : World) (hm : s.size ≤ 9223372036854775807) :
    Calls Tryd.prog 16 #[.string s] w fun e w' =>
      e = .returned (.tuple #[.int .i64 ((parseOf s.data.toList).1 : Nat), .bool (parseOf s.data.toList).2]) ∧ w = w' := by
  unfold parseOf
  by_cases hb : badForm s.data.toList = true
  · rw [if_pos hb]; exact parse_bad s w hm hb
  · rw [if_neg hb]
    have hsz : s.data.toList.length = s.size := by simp
    simp only [badForm, hsz, decide_eq_true_eq] at hb
    have h0 : ¬ s.size = 0 := by omega
    have hpos : 0 < s.size := by omega
    have t0 : ((s.size : Int) == 0) = false := by simp [h0]
    by_cases h1 : s.size ≤ 1
    · exact parse_one s w hpos (by omega) t0 h1
    · exact parse_plain s w hpos (by omega) t0 (by omega) (beq_eq_false_iff_ne.2 (by rw [← byte_of s 0 hpos]; omega))

set_option maxHeartbeats 400000 in
theorem refParse_bad (s : ByteArray) (w : World) (hm : s.size ≤ 9223372036854775807) (hb : badForm s.data.toList = true) :
    Calls Tryd.prog 17 #[.string s] w fun e w' =>
      e = .returned (.tuple #[.int .i64 0, .bool false]) ∧ w = w' := by
  have hsz : s.data.toList.length = s.size := by simp
  simp only [badForm, hsz, decide_eq_true_eq] at hb
  clear hsz
  by_cases h0 : s.size = 0
  · obtain rfl : s = ByteArray.empty := empty_of h0
    clear h0 hb hm
    go_enter Tryd.func17, Tryd.ntmps17
    go_wp2_with fail
    all_goals go_ret2
    all_goals exact ⟨rfl, rfl⟩
  · have hne : ¬ s = ByteArray.empty := fun e => h0 (by rw [e]; rfl)
    have t0 : ((s.size : Int) == 0) = false := by simp [h0]
    by_cases h18 : 18 < s.size
    · clear hb h0
      go_enter Tryd.func17, Tryd.ntmps17
      go_wp2_with fail
      all_goals go_ret2
      all_goals exact ⟨rfl, rfl⟩
    · obtain ⟨h1, h48⟩ : 1 < s.size ∧ (s.data.toList.getD 0 0).toNat = 48 := by omega
      have hpos : 0 < s.size := by omega
      have t48 : ((s[0].toNat : Int) == 48) = true := by rw [← byte_of s 0 hpos, h48]; rfl
      clear hb h0 h48
      go_enter Tryd.func17, Tryd.ntmps17
      go_wp2_with fail
      all_goals go_ret2
      all_goals exact ⟨rfl, rfl⟩

set_option maxHeartbeats 400000 in
theorem refParse_one (s : ByteArray) (w : World) (hpos : 0 < s.size) (h18 : s.size ≤ 18) (t0 : ((s.size : Int) == 0) = false)
    (h1 : s.size ≤ 1) (t48 : ((s[0].toNat : Int) == 48) = true) :
    Calls Tryd.prog 17 #[.string s] w fun e w' =>
      e = .returned (.tuple #[.int .i64 ((digOf s.data.toList).1 : Nat), .bool (digOf s.data.toList).2]) ∧ w = w' := by
  go_enter Tryd.func17, Tryd.ntmps17
  go_wp2_with fail
  go_loop [4, 5] (fun n i => ∃ k y : Nat, k ≤ s.size ∧ i = .int .i64 k ∧ n = .int .i64 y ∧ Hid (y = decL (s.data.toList.take k) 0 ∧ (s.data.toList.take k).all dig = true)) (fun _ i => s.size - (intOf i).toNat)
  case atStart => exact ⟨0, 0, by omega, rfl, rfl, rfl, rfl⟩
  case round =>
    obtain ⟨k, y, hk, rfl, rfl, H⟩ := hrel
    by_cases hlt : k < s.size
    · have hy : y < 100000000000000000 := by rw [H.out.1]; exact decL_small (by omega) H.out.2
      have hx := s[k].toNat_lt
      have HN := Lib.hid (dig_next s k hlt H.out.2)
      by_cases hd : 48 ≤ s[k].toNat ∧ s[k].toNat ≤ 57
      · obtain ⟨d1, d2⟩ := hd
        have HG : Hid (10 * y + (s[k].toNat - 48) = decL (s.data.toList.take (k + 1)) 0 ∧ (s.data.toList.take (k + 1)).all dig = true) := by
          rw [H.out.1]; exact HN.out.1 d1 d2
        clear HN
        go_wp2_with fail
        go_round
        case rel => exact ⟨k + 1, 10 * y + (s[k].toNat - 48), by omega, by go_num, by go_num, HG.out⟩
        case measure => simp [intOf]; omega
      · have HG : Hid (digOf s.data.toList = (0, false)) := HN.out.2 hd
        clear HN
        by_cases d1 : 48 ≤ s[k].toNat
        · have d2 : 57 < s[k].toNat := by omega
          clear hd
          go_wp2_with fail
          all_goals go_ret2
          all_goals exact ⟨by rw [HG.out]; rfl, rfl⟩
        · clear hd
          go_wp2_with fail
          all_goals go_ret2
          all_goals exact ⟨by rw [HG.out]; rfl, rfl⟩
    · have HG : Hid (digOf s.data.toList = (y, true)) := by
        have e : s.data.toList.take k = s.data.toList := List.take_of_length_le (by simp; omega)
        have hh := H.out
        rw [e] at hh
        show _ = _
        rw [digOf, if_pos hh.2, hh.1]
      go_wp2_with fail
      all_goals go_ret2
      all_goals exact ⟨by rw [HG.out]; rfl, rfl⟩

set_option maxHeartbeats 400000 in
theorem refParse_plain (s : ByteArray) (w : World) (hpos : 0 < s.size) (h18 : s.size ≤ 18) (t0 : ((s.size : Int) == 0) = false)
    (t48 : ((s[0].toNat : Int) == 48) = false) :
    Calls Tryd.prog 17 #[.string s] w fun e w' =>
      e = .returned (.tuple #[.int .i64 ((digOf s.data.toList).1 : Nat), .bool (digOf s.data.toList).2]) ∧ w = w' := by
  go_enter Tryd.func17, Tryd.ntmps17
  go_wp2_with fail
  go_loop [4, 5] (fun n i => ∃ k y : Nat, k ≤ s.size ∧ i = .int .i64 k ∧ n = .int .i64 y ∧ Hid (y = decL (s.data.toList.take k) 0 ∧ (s.data.toList.take k).all dig = true)) (fun _ i => s.size - (intOf i).toNat)
  case atStart => exact ⟨0, 0, by omega, rfl, rfl, rfl, rfl⟩
  case round =>
    obtain ⟨k, y, hk, rfl, rfl, H⟩ := hrel
    by_cases hlt : k < s.size
    · have hy : y < 100000000000000000 := by rw [H.out.1]; exact decL_small (by omega) H.out.2
      have hx := s[k].toNat_lt
      have HN := Lib.hid (dig_next s k hlt H.out.2)
      by_cases hd : 48 ≤ s[k].toNat ∧ s[k].toNat ≤ 57
      · obtain ⟨d1, d2⟩ := hd
        have HG : Hid (10 * y + (s[k].toNat - 48) = decL (s.data.toList.take (k + 1)) 0 ∧ (s.data.toList.take (k + 1)).all dig = true) := by
          rw [H.out.1]; exact HN.out.1 d1 d2
        clear HN
        go_wp2_with fail
        go_round
        case rel => exact ⟨k + 1, 10 * y + (s[k].toNat - 48), by omega, by go_num, by go_num, HG.out⟩
        case measure => simp [intOf]; omega
      · have HG : Hid (digOf s.data.toList = (0, false)) := HN.out.2 hd
        clear HN
        by_cases d1 : 48 ≤ s[k].toNat
        · have d2 : 57 < s[k].toNat := by omega
          clear hd
          go_wp2_with fail
          all_goals go_ret2
          all_goals exact ⟨by rw [HG.out]; rfl, rfl⟩
        · clear hd
          go_wp2_with fail
          all_goals go_ret2
          all_goals exact ⟨by rw [HG.out]; rfl, rfl⟩
    · have HG : Hid (digOf s.data.toList = (y, true)) := by
        have e : s.data.toList.take k = s.data.toList := List.take_of_length_le (by simp; omega)
        have hh := H.out
        rw [e] at hh
        show _ = _
        rw [digOf, if_pos hh.2, hh.1]
      go_wp2_with fail
      all_goals go_ret2
      all_goals exact ⟨by rw [HG.out]; rfl, rfl⟩

theorem refParse_any (s : ByteArray) (w : World) (hm : s.size ≤ 9223372036854775807) :
    Calls Tryd.prog 17 #[.string s] w fun e w' =>
      e = .returned (.tuple #[.int .i64 ((parseOf s.data.toList).1 : Nat), .bool (parseOf s.data.toList).2]) ∧ w = w' := by
  unfold parseOf
  by_cases hb : badForm s.data.toList = true
  · rw [if_pos hb]; exact refParse_bad s w hm hb
  · rw [if_neg hb]
    have hsz : s.data.toList.length = s.size := by simp
    simp only [badForm, hsz, decide_eq_true_eq] at hb
    have h0 : ¬ s.size = 0 := by omega
    have hpos : 0 < s.size := by omega
    have t0 : ((s.size : Int) == 0) = false := by simp [h0]
    by_cases h48 : (s.data.toList.getD 0 0).toNat = 48
    · exact refParse_one s w hpos (by omega) t0 (by omega) (by rw [← byte_of s 0 hpos, h48]; rfl)
    · exact refParse_plain s w hpos (by omega) t0 (beq_eq_false_iff_ne.2 (by rw [← byte_of s 0 hpos]; omega))
end Go.Proofs.YtjjefjkaepbhpaaDoor
