/-
  What Unhex, the program's and the document's, comes to: one Lean function of the text's bytes. Condition: the text is at most 2^47 - 4096 bytes.
-/
import Derived.Test.YtjjefjkaepbhpaaDoorChecked
import Derived.Test.YtjjefjkaepbhpaaDoorApp
namespace Go.Proofs.YtjjefjkaepbhpaaDoor
open Go.RowKit

theorem info8u : (Tryd.prog.info? 5).map (fun i => (i.zero, i.size, i.bytes)) = some (some (.int .u8 0), 1, 1) := by kernel_rfl

/-- what a sign says; 16: nothing -/
def half (c : Nat) : Nat := if 48 ≤ c ∧ c ≤ 57 then c - 48 else if 97 ≤ c ∧ c ≤ 102 then c - 87 else 16
def hb (c : Nat) : Bool := decide (half c < 16)
def hv (c : Nat) : Nat := if half c < 16 then half c else 0
/-- the bytes that signs say, behind acc -/
def unh : List UInt8 → List UInt8 → Option (List UInt8)
  | [], acc => some acc
  | [_], _ => none
  | a :: b :: r, acc => if hb a.toNat && hb b.toNat then unh r (acc ++ [UInt8.ofNat (16 * hv a.toNat + hv b.toNat)]) else none

theorem hv_le (c : Nat) : hv c ≤ 15 := by unfold hv; split <;> omega
theorem unh_odd : ∀ (l acc : List UInt8), l.length % 2 = 1 → unh l acc = none
  | [], _, h => by simp at h
  | [_], _, _ => rfl
  | a :: b :: r, acc, h => by
    rw [unh]
    split
    · exact unh_odd r _ (by simp at h; omega)
    · rfl

set_option maxHeartbeats 400000 in
theorem hexValue_any (c : Nat) (hc : c < 256) (w : World) :
    Calls Tryd.prog 30 #[.int .u8 (c : Int)] w fun e w' =>
      e = .returned (.tuple #[.int .u8 (hv c : Nat), .bool (hb c)]) ∧ w = w' := by
  by_cases h1 : 48 ≤ c ∧ c ≤ 57
  · have H : Hid (hb c = true ∧ hv c = c - 48) := by
      have h : half c = c - 48 := by rw [half, if_pos h1]
      exact ⟨by rw [hb, h]; simp; omega, by rw [hv, h, if_pos (by omega)]⟩
    obtain ⟨a1, a2⟩ := h1
    go_enter Tryd.func30, Tryd.ntmps30
    go_wp2
    all_goals go_ret2
    all_goals exact ⟨by rw [H.out.1, H.out.2, Int.natCast_sub a1]; rfl, rfl⟩
  · by_cases h2 : 97 ≤ c ∧ c ≤ 102
    · have H : Hid (hb c = true ∧ hv c = c - 87) := by
        have h : half c = c - 87 := by rw [half, if_neg h1, if_pos h2]
        exact ⟨by rw [hb, h]; simp; omega, by rw [hv, h, if_pos (by omega)]⟩
      obtain ⟨a1, a2⟩ := h2
      have a3 : 57 < c := by omega
      clear h1
      have e : ((c : Int) - 97 + 10) = ((c - 87 : Nat) : Int) := by omega
      have E := Lib.hid e
      clear e
      go_enter Tryd.func30, Tryd.ntmps30
      go_wp2
      all_goals go_ret2
      all_goals exact ⟨by rw [H.out.1, H.out.2, ← E.out]; rfl, rfl⟩
    · have H : Hid (hb c = false ∧ hv c = 0) := by
        have h : half c = 16 := by rw [half, if_neg h1, if_neg h2]
        exact ⟨by rw [hb, h]; rfl, by rw [hv, h]; rfl⟩
      by_cases a1 : 48 ≤ c <;> by_cases a2 : 97 ≤ c
      all_goals
        have a3 : c < 48 ∨ 57 < c := by omega
        have a4 : c < 97 ∨ 102 < c := by omega
        go_enter Tryd.func30, Tryd.ntmps30
        go_wp2
        all_goals (try omega)
        all_goals go_ret2
        all_goals exact ⟨by rw [H.out.1, H.out.2]; rfl, rfl⟩

def hi (c : Nat) : Int := if hb c then (hv c : Int) else -1

set_option maxHeartbeats 400000 in
theorem half_any (c : Nat) (hc : c < 256) (w : World) :
    Calls Tryd.prog 31 #[.int .u8 (c : Int)] w fun e w' =>
      e = .returned (.int .i64 (hi c)) ∧ w = w' := by
  by_cases h1 : 48 ≤ c ∧ c ≤ 57
  · have H : Hid (hi c = (c : Int) - 48) := by
      have h : half c = c - 48 := by rw [half, if_pos h1]
      show _ = _
      rw [hi, if_pos (by rw [hb, h]; simp; omega), hv, h, if_pos (by omega)]; omega
    obtain ⟨a1, a2⟩ := h1
    go_enter Tryd.func31, Tryd.ntmps31
    go_wp2
    all_goals go_ret
    all_goals exact ⟨ret_int H.out.symm, rfl⟩
  · by_cases h2 : 97 ≤ c ∧ c ≤ 102
    · have H : Hid (hi c = (c : Int) - 97 + 10) := by
        have h : half c = c - 87 := by rw [half, if_neg h1, if_pos h2]
        show _ = _
        rw [hi, if_pos (by rw [hb, h]; simp; omega), hv, h, if_pos (by omega)]; omega
      obtain ⟨a1, a2⟩ := h2
      have a3 : 57 < c := by omega
      clear h1
      go_enter Tryd.func31, Tryd.ntmps31
      go_wp2
      all_goals go_ret
      all_goals exact ⟨ret_int H.out.symm, rfl⟩
    · have H : Hid (hi c = -1) := by
        have h : half c = 16 := by rw [half, if_neg h1, if_neg h2]
        show _ = _
        rw [hi, if_neg (by rw [hb, h]; simp)]
      by_cases a1 : 48 ≤ c <;> by_cases a2 : 97 ≤ c
      all_goals
        have a3 : c < 48 ∨ 57 < c := by omega
        have a4 : c < 97 ∨ 102 < c := by omega
        go_enter Tryd.func31, Tryd.ntmps31
        go_wp2
        all_goals (try omega)
        all_goals go_ret
        all_goals exact ⟨ret_int H.out.symm, rfl⟩

theorem make1 (n : Nat) (h : n ≤ 140737488351232) (W : World) : (Instr.makeSlice 22 (.int .i64 (n : Int)) (.int .i64 (n : Int))).run Tryd.prog W = .ok (.slice (some ⟨W.heap.size, 0, none⟩) n n) (W.alloc (.cells (madeCells #[.int .u8 0] n) 5)) :=
  run_make_row' (P := Tryd.prog) 22 5 (.int .u8 0) 1 Tryd.underlying22 info8u rfl .i64 .i64 n (by omega) (by omega) W

def rowOf (d : List UInt8) (j : Nat) : Value := (d.map bv).getD j (.int .u8 0)
theorem rowOf_next (d : List UInt8) (c : UInt8) (j : Nat) : (if j = d.length then bv c else rowOf d j) = rowOf (d ++ [c]) j := by
  unfold rowOf
  rw [List.map_append, List.getD_eq_getElem?_getD, List.getD_eq_getElem?_getD, List.map_cons, List.map_nil]
  by_cases h : j = d.length
  · subst h; simp
  · rw [if_neg h]
    by_cases hl : j < d.length
    · rw [List.getElem?_append_left (by simpa using hl)]
    · rw [List.getElem?_eq_none (by simp; omega), List.getElem?_eq_none (by simp; omega)]
theorem pair_next (s : ByteArray) (k : Nat) (h : 2 * k + 1 < s.size) (d : List UInt8) :
    unh (s.data.toList.drop (2 * k)) d = if hb s[2 * k].toNat && hb s[2 * k + 1].toNat then unh (s.data.toList.drop (2 * (k + 1))) (d ++ [UInt8.ofNat (16 * hv s[2 * k].toNat + hv s[2 * k + 1].toNat)]) else none := by
  have h1 : 2 * k < s.data.toList.length := by simp; omega
  have h2 : 2 * k + 1 < s.data.toList.length := by simp; omega
  rw [List.drop_eq_getElem_cons h1, List.drop_eq_getElem_cons h2, unh, show 2 * k + 1 + 1 = 2 * (k + 1) from by omega]
  rfl

set_option maxHeartbeats 400000 in
theorem unhex_odd (s : ByteArray) (w : World) (hm : s.size ≤ 9223372036854775807) (ho : s.size % 2 = 1) :
    Calls Tryd.prog 12 #[.string s] w fun e w' => e = .returned (.tuple #[.slice none 0 0, .bool false]) ∧ w = w' := by
  have t0 : ((s.size : Int) % 2 != 0) = true := by simp; omega
  go_enter Tryd.func12, Tryd.ntmps12
  go_wp2_with fail
  go_ret2
  exact ⟨rfl, rfl⟩

/-- What Unhex leaves: the bytes, or none. -/
def UnhexPost (s : ByteArray) (w : World) (e : Ending) (w' : World) : Prop :=
  ∃ A c, e = .returned (.tuple #[.slice A ((unh s.data.toList []).getD []).length c, .bool (unh s.data.toList []).isSome]) ∧ Seen w' A ((unh s.data.toList []).getD []) ∧ Below w.heap.size w w'

theorem unhexPost_none {s : ByteArray} {w w' : World} (h : unh s.data.toList [] = none) (hb : Below w.heap.size w w') : UnhexPost s w (.returned (.tuple #[.slice none 0 0, .bool false])) w' :=
  ⟨none, 0, by rw [h]; rfl, by rw [h]; exact .inl rfl, hb⟩
theorem unhexPost_some {s : ByteArray} {w w' : World} {d : List UInt8} {A : Option Addr} {n c : Nat} (h : unh s.data.toList [] = some d) (hn : n = d.length) (hs : Seen w' A d) (hb : Below w.heap.size w w') : UnhexPost s w (.returned (.tuple #[.slice A n c, .bool true])) w' :=
  ⟨A, c, by rw [h, hn]; rfl, by rw [h]; exact hs, hb⟩

set_option maxHeartbeats 400000 in
theorem unhex_even (s : ByteArray) (w : World) (hm : s.size ≤ 281474976702464) (ho : s.size % 2 = 0) :
    Calls Tryd.prog 12 #[.string s] w (UnhexPost s w) := by
  have t0 : ((s.size : Int) % 2 != 0) = false := by simp; omega
  obtain ⟨n, hn⟩ : ∃ n, n = s.size / 2 := ⟨_, rfl⟩
  have e0 : (s.size : Int) / 2 = (n : Int) := by omega
  have hmk := make1 n (by omega)
  have hn2 : 2 * n ≤ s.size := by omega
  have hn3 : s.size ≤ 2 * n := by omega
  clear hn ho
  go_enter Tryd.func12, Tryd.ntmps12
  go_wp2_with fail
  clear hmk e0
  go_loopw [20] (fun i wr => ∃ (k : Nat) (d : List UInt8), k ≤ n ∧ i = .int .i64 k ∧ Hid (d.length = k ∧ unh s.data.toList [] = unh (s.data.toList.drop (2 * k)) d) ∧ wr.rowIs w.heap.size 5 n (rowOf d) ∧ Below w.heap.size w wr) (fun i _ => n - (intOf i).toNat)
  case atStart => exact ⟨0, [], by omega, rfl, ⟨rfl, rfl⟩, World.rowIs_made w (.int .u8 0) n 5, (Below.refl _ _).alloc (Nat.le_refl _) _⟩
  case round =>
    obtain ⟨k, d, hk, rfl, H, hrow, hbel⟩ := hrel
    have HR := Lib.hid hrow
    have HB := Lib.hid hbel
    clear hbel
    by_cases hlt : k < n
    · have hc : wr.cell? ⟨w.heap.size, k, none⟩ = some (rowOf d k) := hrow.cell (by omega)
      have hf : wr.frozen? ⟨w.heap.size, k, none⟩ = false := hrow.frozen _
      clear hrow
      have g1 : 2 * k < s.size := by omega
      have g2 : 2 * k + 1 < s.size := by omega
      have HN := Lib.hid (pair_next s k g2 d)
      have b1 := s[2 * k].toNat_lt
      have b2 := s[2 * k + 1].toNat_lt
      have v1 := hv_le s[2 * k].toNat
      have v2 := hv_le s[2 * k + 1].toNat
      cases h1 : hb s[2 * k].toNat
      · have HG : Hid (unh s.data.toList [] = none) := by show _ = _; rw [H.out.2, HN.out, h1]; rfl
        go_wp2_with fail
        refine (hexValue_any _ b1 _).mono ?_
        rintro e w' ⟨rfl, rfl⟩
        go_wp2_with fail
        refine (hexValue_any _ b2 _).mono ?_
        rintro e w' ⟨rfl, rfl⟩
        go_wp2_with fail
        all_goals go_ret2
        all_goals exact unhexPost_none HG.out HB.out
      · cases h2 : hb s[2 * k + 1].toNat
        · have HG : Hid (unh s.data.toList [] = none) := by show _ = _; rw [H.out.2, HN.out, h1, h2]; rfl
          go_wp2_with fail
          refine (hexValue_any _ b1 _).mono ?_
          rintro e w' ⟨rfl, rfl⟩
          go_wp2_with fail
          refine (hexValue_any _ b2 _).mono ?_
          rintro e w' ⟨rfl, rfl⟩
          go_wp2_with fail
          all_goals go_ret2
          all_goals exact unhexPost_none HG.out HB.out
        · have HG : Hid (unh s.data.toList [] = unh (s.data.toList.drop (2 * (k + 1))) (d ++ [UInt8.ofNat (16 * hv s[2 * k].toNat + hv s[2 * k + 1].toNat)])) := by show _ = _; rw [H.out.2, HN.out, h1, h2]; rfl
          have HO : Hid (bits .or .u8 ((hv s[2 * k].toNat : Int) * 16) (hv s[2 * k + 1].toNat : Int) = ((16 * hv s[2 * k].toNat + hv s[2 * k + 1].toNat : Nat) : Int)) := by
            show _ = _
            rw [show (hv s[2 * k].toNat : Int) * 16 = ((hv s[2 * k].toNat * 16 : Nat) : Int) from by omega, u8_or_nat _ _ (by omega) (by omega), nat_join 4 _ _ (by omega) (by omega), Nat.mul_comm]
          go_wp2_with fail
          refine (hexValue_any _ b1 _).mono ?_
          rintro e w' ⟨rfl, rfl⟩
          go_wp2_with fail
          refine (hexValue_any _ b2 _).mono ?_
          rintro e w' ⟨rfl, rfl⟩
          go_wp2_with fail
          go_roundw
          case rel =>
            refine ⟨k + 1, _, by omega, by go_num, ⟨by simp [H.out.1], HG.out⟩, ?_, HB.out.setCell (Nat.le_refl _) _⟩
            rw [HO.out]
            refine (HR.out.set k _).congr (fun j _ => ?_)
            rw [← rowOf_next, H.out.1]
            congr 1
            unfold bv
            rw [UInt8.toNat_ofNat']
            congr 1
            omega
          case measure => simp [intOf]; omega
    · have HG : Hid (unh s.data.toList [] = some d) := by
        show _ = _
        rw [H.out.2, List.drop_eq_nil_of_le (by simp; omega)]; rfl
      have HS : Seen wr (some ⟨w.heap.size, 0, none⟩) d := Seen.of_row hrow (by have := H.out.1; omega) (fun i hi => by unfold rowOf; simp [hi]; rfl)
      clear hrow
      go_wp2_with fail
      go_ret2
      exact unhexPost_some HG.out (by have := H.out.1; omega) HS HB.out

set_option maxHeartbeats 400000 in
theorem refUnhex_odd (s : ByteArray) (w : World) (hm : s.size ≤ 9223372036854775807) (ho : s.size % 2 = 1) :
    Calls Tryd.prog 13 #[.string s] w fun e w' => e = .returned (.tuple #[.slice none 0 0, .bool false]) ∧ w = w' := by
  have t0 : ((s.size : Int) % 2 == 1) = true := by simp; omega
  go_enter Tryd.func13, Tryd.ntmps13
  go_wp2_with fail
  go_ret2
  exact ⟨rfl, rfl⟩

set_option maxHeartbeats 400000 in
theorem refUnhex_even (s : ByteArray) (w : World) (hm : s.size ≤ 281474976702464) (ho : s.size % 2 = 0) :
    Calls Tryd.prog 13 #[.string s] w (UnhexPost s w) := by
  obtain ⟨i0, hi0, hz0, hz1, hz2⟩ := info_parts info8u
  have t0 : ((s.size : Int) % 2 == 1) = false := by simp; omega
  obtain ⟨n, hn⟩ : ∃ n, n = s.size / 2 := ⟨_, rfl⟩
  have hn2 : 2 * n ≤ s.size := by omega
  have hn3 : s.size ≤ 2 * n := by omega
  clear hn ho
  go_enter Tryd.func13, Tryd.ntmps13
  go_wp2_with fail
  go_loopw [4, 5] (fun v i wr => ∃ (k : Nat) (d : List UInt8) (V : Value), k ≤ n ∧ i = .int .i64 (2 * (k : Int)) ∧ V = v ∧ Hid (d.length = k ∧ unh s.data.toList [] = unh (s.data.toList.drop (2 * k)) d) ∧ Made 5 w d V wr) (fun _ i _ => 2 * n - (intOf i).toNat)
  case atStart => exact ⟨0, [], _, by omega, rfl, rfl, ⟨rfl, rfl⟩, Made.nil _ _⟩
  case round =>
    obtain ⟨k, d, V, hk, rfl, rfl, H, HD⟩ := hrel
    by_cases hlt : k < n
    · have g1 : 2 * k < s.size := by omega
      have g2 : 2 * k + 1 < s.size := by omega
      have HN := Lib.hid (pair_next s k g2 d)
      have b1 := s[2 * k].toNat_lt
      have b2 := s[2 * k + 1].toNat_lt
      have v1 := hv_le s[2 * k].toNat
      have v2 := hv_le s[2 * k + 1].toNat
      have HB := Lib.hid HD.2
      have hdl : d.length ≤ 140737488351232 := by have := H.out.1; omega
      cases h1 : hb s[2 * k].toNat
      · have HG : Hid (unh s.data.toList [] = none) := by show _ = _; rw [H.out.2, HN.out, h1]; rfl
        have e1 : hi s[2 * k].toNat = -1 := by rw [hi, h1]; rfl
        clear h1
        go_wp2_with fail
        refine (half_any _ b1 _).mono ?_
        rintro e w' ⟨rfl, rfl⟩
        go_wp2_with fail
        refine (half_any _ b2 _).mono ?_
        rintro e w' ⟨rfl, rfl⟩
        go_wp2_with fail
        all_goals go_ret2
        all_goals exact unhexPost_none HG.out HB.out
      · have e1 : hi s[2 * k].toNat = (hv s[2 * k].toNat : Int) := by rw [hi, h1]; rfl
        cases h2 : hb s[2 * k + 1].toNat
        · have HG : Hid (unh s.data.toList [] = none) := by show _ = _; rw [H.out.2, HN.out, h1, h2]; rfl
          have e2 : hi s[2 * k + 1].toNat = -1 := by rw [hi, h2]; rfl
          clear h1 h2
          go_wp2_with fail
          refine (half_any _ b1 _).mono ?_
          rintro e w' ⟨rfl, rfl⟩
          go_wp2_with fail
          refine (half_any _ b2 _).mono ?_
          rintro e w' ⟨rfl, rfl⟩
          go_wp2_with fail
          all_goals go_ret2
          all_goals exact unhexPost_none HG.out HB.out
        · have HG : Hid (unh s.data.toList [] = unh (s.data.toList.drop (2 * (k + 1))) (pushed d (16 * (hv s[2 * k].toNat : Int) + (hv s[2 * k + 1].toNat : Int)))) := by
            show _ = _; rw [H.out.2, HN.out, h1, h2, pushed, show (16 * (hv s[2 * k].toNat : Int) + (hv s[2 * k + 1].toNat : Int)).toNat = 16 * hv s[2 * k].toNat + hv s[2 * k + 1].toNat from by omega]; rfl
          have e2 : hi s[2 * k + 1].toNat = (hv s[2 * k + 1].toNat : Int) := by rw [hi, h2]; rfl
          clear h1 h2
          go_wp2_with fail
          refine (half_any _ b1 _).mono ?_
          rintro e w' ⟨rfl, rfl⟩
          go_wp2_with fail
          refine (half_any _ b2 _).mono ?_
          rintro e w' ⟨rfl, rfl⟩
          go_wp2_with (at_builtin; refine wpList_append_byte _ rfl _ _ 22 rfl 5 i0 (.int .u8 0) Tryd.underlying22 hi0 hz0 hz1 hz2 rfl w V d _ rfl rfl HD ?c1 ?c2 ?c3 ?_)
          case c1 => omega
          case c2 => omega
          case c3 => omega
          intro v' w' HD'
          go_wp2_with fail
          go_roundw
          case rel => exact ⟨k + 1, _, _, by omega, by go_num, rfl, ⟨by simp [pushed, H.out.1], HG.out⟩, HD'⟩
          case measure => simp [intOf]; omega
    · have HG : Hid (unh s.data.toList [] = some d) := by
        show _ = _
        rw [H.out.2, List.drop_eq_nil_of_le (by simp; omega)]; rfl
      have HB := Lib.hid HD.2
      obtain ⟨A, c, rfl, HS⟩ := HD.form
      go_wp2_with fail
      go_ret2
      exact unhexPost_some HG.out rfl HS HB.out

theorem unhex_any (s : ByteArray) (w : World) (hm : s.size ≤ 281474976702464) : Calls Tryd.prog 12 #[.string s] w (UnhexPost s w) := by
  by_cases ho : s.size % 2 = 0
  · exact unhex_even s w hm ho
  · refine (unhex_odd s w (by omega) (by omega)).mono ?_
    rintro e w' ⟨rfl, rfl⟩
    exact unhexPost_none (unh_odd _ _ (by simp; omega)) (Below.refl _ _)
theorem refUnhex_any (s : ByteArray) (w : World) (hm : s.size ≤ 281474976702464) : Calls Tryd.prog 13 #[.string s] w (UnhexPost s w) := by
  by_cases ho : s.size % 2 = 0
  · exact refUnhex_even s w hm ho
  · refine (refUnhex_odd s w (by omega) (by omega)).mono ?_
    rintro e w' ⟨rfl, rfl⟩
    exact unhexPost_none (unh_odd _ _ (by simp; omega)) (Below.refl _ _)
end Go.Proofs.YtjjefjkaepbhpaaDoor
