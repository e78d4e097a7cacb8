/-
  How many bytes of a word a text begins with, and a sign's text (conciergeref11's word, sign). Condition: a string's length fits an int.
  The tokens of a text (conciergeref11's Tokens). Condition: it has at most 5,000 bytes.
-/
import Derived.Test.YtehabjiacgibpaaCRowT
import Derived.Deep.QuietTactic
import Derived.BigQuiet
namespace Go.Proofs.Ytehabjiacgibpaa
open Go.RowKit
def WdTo (s : ByteArray) (k : Nat) : Prop := ∀ j (_ : j < k) (h : j < s.size), (j = 0 → lowB s[j] = true) ∧ nmB s[j] = true
theorem low_nm {c : UInt8} (h : lowB c = true) : nmB c = true := by unfold nmB; rw [h]; rfl
theorem WdTo.next {s : ByteArray} {k : Nat} (H : WdTo s k) (h : k < s.size) (h0 : k = 0 → lowB s[k] = true) (h1 : nmB s[k] = true) : WdTo s (k + 1) := by
  intro j hj h2
  by_cases hjk : j < k
  · exact H j hjk h2
  · obtain rfl : j = k := by omega
    exact ⟨h0, h1⟩
theorem WdTo.end_ {s : ByteArray} {k : Nat} (H : WdTo s k) (hk : k ≤ s.size) (hend : ∀ h : k < s.size, if k = 0 then lowB s[k] = false else nmB s[k] = false) : wordL s.data.toList = k := by
  have hl : s.data.toList.length = s.size := size_list s
  have hget : ∀ j (h : j < s.size), s.data.toList[j]'(by rw [hl]; exact h) = s[j] := fun j h => rfl
  cases hd : s.data.toList with
  | nil =>
    rw [hd] at hl
    simp at hl
    rw [wordL]; omega
  | cons c r =>
    have h0 : 0 < s.size := by rw [← hl, hd]; simp
    have hc : s[0] = c := by
      have := hget 0 h0
      rw [← this]
      simp only [hd, List.getElem_cons_zero]
    have hr : ∀ j (h : j + 1 < s.size), r[j]'(by have := hl; rw [hd] at this; simp at this; omega) = s[j + 1] := fun j h => by
      have := hget (j + 1) h
      rw [← this]
      simp only [hd, List.getElem_cons_succ]
    have hrl : r.length + 1 = s.size := by rw [← hl, hd]; simp
    rw [wordL]
    by_cases hk0 : k = 0
    · subst hk0
      have := hend h0
      rw [if_pos rfl, hc] at this
      rw [this]; rfl
    · have h1 := (H 0 (by omega) h0).1 rfl
      rw [hc] at h1
      rw [if_pos h1]
      have e : r.takeWhile nmB = r.take (k - 1) := by
        have hp : ∀ a ∈ r.take (k - 1), nmB a = true := by
          intro a ha
          obtain ⟨j, hj, rfl⟩ := List.getElem_of_mem ha
          rw [List.length_take] at hj
          rw [List.getElem_take, hr j (by omega)]
          exact (H (j + 1) (by omega) (by omega)).2
        have hq : (r.drop (k - 1)).takeWhile nmB = [] := by
          by_cases hlt : k < s.size
          · have h2 := hend hlt
            rw [if_neg hk0] at h2
            rw [List.drop_eq_getElem_cons (by omega), List.takeWhile_cons, hr (k - 1) (by omega)]
            have e2 : s[k - 1 + 1]'(by omega) = s[k] := by congr 1; omega
            rw [e2, h2]; rfl
          · rw [List.drop_of_length_le (by omega)]; rfl
        have h3 := List.takeWhile_append_of_pos (l₂ := r.drop (k - 1)) hp
        rw [List.take_append_drop, hq, List.append_nil] at h3
        exact h3
      rw [e, List.length_take]; omega
set_option maxHeartbeats 1000000 in
theorem word_of_any (s : ByteArray) (w : World) (hm : s.size ≤ 9223372036854775807) :
    Calls Try.prog 60 #[.string s] w fun e w' => e = .returned (.int .i64 (wordL s.data.toList)) ∧ w' = w := by
  go_enter Try.func60, Try.ntmps60
  go_wp2_with fail
  go_loop [3] (fun i => ∃ k : Nat, k ≤ s.size ∧ i = .int .i64 k ∧ Hid (WdTo s k)) (fun i => s.size - (intOf i).toNat)
  case atStart => exact ⟨0, by omega, rfl, Lib.hid (fun j hj => absurd hj (by omega))⟩
  case round =>
    obtain ⟨k, hk, rfl, H⟩ := hrel
    by_cases hlt : k < s.size
    · have hx := s[k].toNat_lt
      by_cases hlow : 97 ≤ s[k].toNat ∧ s[k].toNat ≤ 122
      · obtain ⟨d1, d2⟩ := hlow
        have hl : lowB s[k] = true := by simp [lowB, d1, d2]
        have HG := Lib.hid (H.out.next hlt (fun _ => hl) (low_nm hl))
        clear hl
        go_wp2_with fail
        go_round
        case rel => exact ⟨k + 1, by omega, by go_num, HG⟩
        case measure => simp [intOf]; omega
      · have hnl : lowB s[k] = false := by simp [lowB]; omega
        have hlc : s[k].toNat < 97 ∨ (97 ≤ s[k].toNat ∧ 122 < s[k].toNat ∧ decide ((s[k].toNat : Int) ≤ 122) = false) := by simp only [decide_eq_false_iff_not]; omega
        by_cases h0 : 0 < k
        · by_cases hmore : s[k].toNat = 95 ∨ (48 ≤ s[k].toNat ∧ s[k].toNat ≤ 57)
          · have hnm : nmB s[k] = true := by
              rcases hmore with h | ⟨h1, h2⟩
              · simp [nmB, h]
              · simp [nmB, numB, h1, h2]
            have HG := Lib.hid (H.out.next hlt (fun h => absurd h (by omega)) hnm)
            have hm2 : (s[k].toNat : Int) = 95 ∨ (¬ (s[k].toNat : Int) = 95 ∧ 48 ≤ s[k].toNat ∧ s[k].toNat ≤ 57 ∧ s[k].toNat < 97) := by omega
            clear hlow hmore hnm hnl
            rcases hm2 with e95 | ⟨e95, b1, b2, b3⟩
            · have b3 : s[k].toNat < 97 := by omega
              clear hlc
              go_wp2_with fail
              go_round
              case rel => exact ⟨k + 1, by omega, by go_num, HG⟩
              case measure => simp [intOf]; omega
            · clear hlc
              go_wp2_with fail
              go_round
              case rel => exact ⟨k + 1, by omega, by go_num, HG⟩
              case measure => simp [intOf]; omega
          · have hnm : nmB s[k] = false := by simp [nmB, lowB, numB]; omega
            have HG : Hid (wordL s.data.toList = k) := Lib.hid (H.out.end_ hk (fun _ => by rw [if_neg (by omega)]; exact hnm))
            have e95 : ¬ (s[k].toNat : Int) = 95 := by omega
            have hc : s[k].toNat < 48 ∨ (48 ≤ s[k].toNat ∧ 57 < s[k].toNat ∧ s[k].toNat < 97 ∧ decide ((s[k].toNat : Int) ≤ 57) = false) ∨ (48 ≤ s[k].toNat ∧ 57 < s[k].toNat ∧ 97 ≤ s[k].toNat ∧ 122 < s[k].toNat ∧ decide ((s[k].toNat : Int) ≤ 122) = false ∧ decide ((s[k].toNat : Int) ≤ 57) = false) := by simp only [decide_eq_false_iff_not]; omega
            clear hlow hmore hnm hnl hlc
            rcases hc with c1 | ⟨c1, c2, c3, c4⟩ | ⟨c1, c2, c3, c4, c5, c6⟩
            all_goals go_wp2_with fail
            all_goals go_ret
            all_goals exact ⟨by rw [HG.out]; rfl, rfl⟩
        · have HG : Hid (wordL s.data.toList = k) := Lib.hid (H.out.end_ hk (fun _ => by rw [if_pos (by omega)]; exact hnl))
          have hd : decide (0 < k) = false := decide_eq_false h0
          clear hlow hnl
          rcases hlc with c1 | ⟨c1, c2, c3⟩
          all_goals go_wp2_with fail
          all_goals go_ret
          all_goals exact ⟨by rw [HG.out]; rfl, rfl⟩
    · have HG : Hid (wordL s.data.toList = k) := Lib.hid (H.out.end_ hk (fun h => absurd h hlt))
      go_wp2_with fail
      go_ret
      exact ⟨by rw [HG.out]; rfl, rfl⟩
theorem extract_one (s : ByteArray) (k : Nat) (h : k < s.size) : s.extract k (k + 1) = ⟨#[s[k]]⟩ := by
  rw [extract_list, take_list s k h, List.drop_append_of_le_length (by rw [List.length_take, size_list]; omega)]
  congr 1
  rw [List.drop_of_length_le (by rw [List.length_take]; omega)]; rfl
set_option maxHeartbeats 1000000 in
theorem sign_any (c : UInt8) (w : World) :
    Calls Try.prog 61 #[.int .u8 (c.toNat : Int)] w fun e w' => e = .returned (strV (signT c)) ∧ w' = w := by
  obtain ⟨S, hS⟩ : ∃ S : ByteArray, S = ⟨#[58, 124, 35, 43, 45, 38, 46, 40, 41]⟩ := ⟨_, rfl⟩
  have hsz : S.size ≤ 1000 := by rw [hS]; decide
  have hls : S.data.toList = signs := by rw [hS]; rfl
  have hmem : ∀ k (h : k < S.size), S[k] ∈ signs := by
    intro k h
    rw [← hls]
    exact List.getElem_mem (l := S.data.toList) (n := k) (by rw [size_list]; exact h)
  have hall : (∀ k (h : k < S.size), S[k] ≠ c) → c ∉ signs := by
    intro h hc
    rw [← hls] at hc
    obtain ⟨k, hk, hkc⟩ := List.getElem_of_mem hc
    exact h k (by rw [size_list] at hk; exact hk) hkc
  have HS := Lib.hid hS
  have HM := Lib.hid hmem
  have HA := Lib.hid hall
  clear hS hmem hall hls
  go_enter Try.func61, Try.ntmps61
  go_wp2_with fail
  rw [← HS.out]
  go_loop [4] (fun i => ∃ k : Nat, k ≤ S.size ∧ i = .int .i64 k ∧ Hid (∀ j (_ : j < k) (h : j < S.size), S[j] ≠ c)) (fun i => S.size - (intOf i).toNat)
  case atStart => exact ⟨0, by omega, rfl, Lib.hid (fun j hj => absurd hj (by omega))⟩
  case round =>
    obtain ⟨k, hk, rfl, H⟩ := hrel
    by_cases hlt : k < S.size
    · have hks : k < S.size := hlt
      have hx := S[k].toNat_lt
      by_cases hc : S[k] = c
      · have hsg : signT c = [c] := by unfold signT; rw [if_pos (by rw [← hc]; exact HM.out k hks)]
        have HE : Hid (S.extract k (k + 1) = ⟨(signT c).toArray⟩) := Lib.hid (by rw [extract_one S k hks, hc, hsg])
        have e1 : (S[k].toNat : Int) = (c.toNat : Int) := by rw [hc]
        clear hc hsg
        have c1 : (0 : Int) ≤ (k : Int) := by omega
        have c2 : (k : Int) ≤ (k : Int) + 1 := by omega
        have c3 : (k : Int) + 1 ≤ (S.size : Int) := by omega
        go_wp2_with fail
        go_ret
        exact ⟨by show Ending.returned (.string (S.extract k (k + 1))) = _; rw [HE.out], rfl⟩
      · have HG : Hid (∀ j (_ : j < k + 1) (h : j < S.size), S[j] ≠ c) := Lib.hid (fun j hj h => by
          by_cases hjk : j < k
          · exact H.out j hjk h
          · obtain rfl : j = k := by omega
            exact hc)
        have e1 : ¬ (S[k].toNat : Int) = (c.toNat : Int) := fun h => hc (UInt8.toNat_inj.1 (by omega))
        clear hc
        go_wp2_with fail
        go_round
        case rel => exact ⟨k + 1, by omega, by go_num, HG⟩
        case measure => simp [intOf]; omega
    · have HG : Hid (signT c = [63]) := Lib.hid (by
        unfold signT
        rw [if_neg (HA.out (fun k' h => H.out k' (by omega) h))])
      go_wp2_with fail
      go_ret
      exact ⟨by rw [HG.out]; rfl, rfl⟩
end Go.Proofs.Ytehabjiacgibpaa
namespace Go.Proofs.Ytehabjiacgibpaa
open Go.RowKit
def tkC (t : Tk) : List Value := [strV t.1, .int .i64 (t.2.1 : Int), .int .i64 (t.2.2 : Int)]
theorem rowTok : ∃ i z, RowT Try.prog 84 91 3 32 i z := by
  have hf : (Try.prog.info? 91).map (fun i => (i.zero, i.size, i.bytes)) = some (some (.agg #[.string ⟨#[]⟩, .int .i64 0, .int .i64 0]), 3, 32) := by kernel_rfl
  obtain ⟨i, hi, hz, hs, hb⟩ := info_parts hf
  exact ⟨i, _, Try.underlying84, hi, hz, hs, hb, rfl⟩
theorem tk_one (t : Tk) : ∀ u ∈ tkC t, u.oneCell' = true := by
  intro u hu
  simp only [tkC, List.mem_cons, List.not_mem_nil, or_false] at hu
  rcases hu with rfl | rfl | rfl <;> rfl
theorem drop_at (s : ByteArray) (k : Nat) (h : k < s.size) : s.data.toList.drop k = s[k] :: s.data.toList.drop (k + 1) :=
  List.drop_eq_getElem_cons (by rw [size_list]; exact h)
set_option maxHeartbeats 2000000 in
theorem tokens_any (s : ByteArray) (w : World) (hm : s.size ≤ 5000) :
    Calls Try.prog 41 #[.string s] w fun e w' => ∃ A n c, e = .returned (.slice A n c) ∧ n = (tokL s.data.toList 1 1).length ∧ n ≤ 5001 ∧
      w'.ownsRow w.heap.size 91 3 (.slice A n c) n ((tokL s.data.toList 1 1).map tkC).flatten ∧ Below w.heap.size w w' := by
  obtain ⟨V, hV⟩ : ∃ V, V = tokL s.data.toList 1 1 := ⟨_, rfl⟩
  rw [← hV]
  have HV := Lib.hid hV
  obtain ⟨i0, z0, hR⟩ := rowTok
  have HR := Lib.hid hR
  clear hV hR
  go_enter Try.func41, Try.ntmps41
  go_wp2_with fail
  go_loopw [3, 4, 5, 6] (fun so sl sc i wr => ∃ (k line col n c : Nat) (A : Option Addr) (ts : List Tk), k ≤ s.size ∧ i = .int .i64 k ∧ sl = .int .i64 line ∧ sc = .int .i64 col ∧ so = .slice A n c ∧ (line ≤ k + 1 ∧ col ≤ k + 1 ∧ n ≤ k) ∧ ts.length = n ∧
      Hid (ts ++ tokL (s.data.toList.drop k) line col = V) ∧ Hid (wr.ownsRow w.heap.size 91 3 (.slice A n c) n (ts.map tkC).flatten) ∧ Hid (Below w.heap.size w wr)) (fun _ _ _ i _ => s.size - (intOf i).toNat)
  case atStart => exact ⟨0, 1, 1, 0, 0, none, [], by omega, rfl, rfl, rfl, rfl, by omega, rfl, Lib.hid HV.out.symm, Lib.hid (World.ownsRow_nil _ _ _ _), Lib.hid (Below.refl _ _)⟩
  case round =>
    obtain ⟨k, line, col, n, c, A, ts, hk, rfl, rfl, rfl, rfl, ⟨b1, b2, b3⟩, hlen, HQ, HO, BW⟩ := hrel
    by_cases hlt : k < s.size
    · have hx := s[k].toNat_lt
      have HD : Hid (tokL (s.data.toList.drop k) line col = tokL (s[k] :: s.data.toList.drop (k + 1)) line col) := Lib.hid (by rw [drop_at s k hlt])
      by_cases h10 : s[k].toNat = 10
      · have e10 : (s[k].toNat : Int) = 10 := by omega
        have HN : Hid (ts ++ tokL (s.data.toList.drop (k + 1)) (line + 1) 1 = V) := by
          show _ = _
          rw [← HQ.out, HD.out, tokL, if_pos (UInt8.toNat_inj.1 (by rw [h10]; rfl))]
        clear h10
        go_wp2_with fail
        go_roundw
        case rel => exact ⟨k + 1, line + 1, 1, n, c, A, ts, by omega, by go_num, by go_num, rfl, rfl, by omega, hlen, HN, HO, BW⟩
        case measure => simp [intOf]; omega
      · by_cases h32 : s[k].toNat = 32 ∨ s[k].toNat = 9
        · have HN : Hid (ts ++ tokL (s.data.toList.drop (k + 1)) line (col + 1) = V) := by
            show _ = _
            rw [← HQ.out, HD.out, tokL, if_neg (fun e => h10 (by rw [e]; rfl)), if_pos (h32.elim (fun h => .inl (UInt8.toNat_inj.1 (by rw [h]; rfl))) (fun h => .inr (UInt8.toNat_inj.1 (by rw [h]; rfl))))]
          clear h10
          rcases h32 with h | h
          all_goals have e32 : (s[k].toNat : Int) = (s[k].toNat : Int) := rfl
          · have e1 : (s[k].toNat : Int) = 32 := by omega
            clear h e32
            go_wp2_with fail
            go_roundw
            case rel => exact ⟨k + 1, line, col + 1, n, c, A, ts, by omega, by go_num, rfl, by go_num, rfl, by omega, hlen, HN, HO, BW⟩
            case measure => simp [intOf]; omega
          · have e1 : (s[k].toNat : Int) = 9 := by omega
            clear h e32
            go_wp2_with fail
            go_roundw
            case rel => exact ⟨k + 1, line, col + 1, n, c, A, ts, by omega, by go_num, rfl, by go_num, rfl, by omega, hlen, HN, HO, BW⟩
            case measure => simp [intOf]; omega
        · have a1 : ¬ (s[k].toNat : Int) = 10 := by omega
          have a2 : ¬ (s[k].toNat : Int) = 32 := by omega
          have a3 : ¬ (s[k].toNat : Int) = 9 := by omega
          have d1 : ((s[k].toNat : Int) == 10) = false := beq_eq_false_iff_ne.2 a1
          have d2 : ((s[k].toNat : Int) == 32) = false := beq_eq_false_iff_ne.2 a2
          have d3 : ((s[k].toNat : Int) == 9) = false := beq_eq_false_iff_ne.2 a3
          have c1 : (0 : Int) ≤ (k : Int) := by omega
          have c2 : (k : Int) ≤ (s.size : Int) := by omega
          obtain ⟨n0, hn0⟩ : ∃ n0, n0 = wordL (s.data.toList.drop k) := ⟨_, rfl⟩
          have hext : (s.extract k s.size).data.toList = s.data.toList.drop k := by
            rw [extract_list, List.take_of_length_le (by rw [size_list]; omega)]
          have hesz : (s.extract k s.size).size ≤ 9223372036854775807 := by rw [← size_list, hext, List.length_drop, size_list]; omega
          have hle := wordL_le (s.data.toList.drop k)
          rw [← hn0, List.length_drop, size_list] at hle
          have HW : Hid (∀ W, Calls Try.prog 60 #[.string (s.extract k s.size)] W fun e w' => e = .returned (.int .i64 n0) ∧ w' = W) := Lib.hid (fun W => by
            have h := word_of_any (s.extract k s.size) W hesz
            rw [hext, ← hn0] at h
            exact h)
          have HSG := Lib.hid (fun W => sign_any s[k] W)
          have c3 : (k : Int) ≤ (k : Int) + (n0 : Int) := by omega
          have c4 : (k : Int) + (n0 : Int) ≤ (s.size : Int) := by omega
          have HTok : Hid (∀ (h : ¬ s[k] = 10) (h2 : ¬ (s[k] = 32 ∨ s[k] = 9)), tokL (s.data.toList.drop k) line col = if n0 = 0 then (if signT s[k] = [63] then [([63], line, col)] else (signT s[k], line, col) :: tokL (s.data.toList.drop (k + 1)) line (col + 1))
              else ((s.data.toList.drop k).take n0, line, col) :: tokL (s.data.toList.drop (k + n0)) line (col + n0)) := Lib.hid (fun h h2 => by
            rw [drop_at s k hlt] at hn0
            rw [drop_at s k hlt, tokL, if_neg h, if_neg h2, ← hn0]
            by_cases h3 : n0 = 0
            · rw [dif_pos h3, if_pos h3]
            · rw [dif_neg h3, if_neg h3]
              congr 2
              rw [← drop_at s k hlt, List.drop_drop])
          have HT2 := Lib.hid (HTok.out (fun e => h10 (by rw [e]; rfl)) (fun e => h32 (e.elim (fun e => .inl (by rw [e]; rfl)) (fun e => .inr (by rw [e]; rfl)))))
          have HN0 := Lib.hid hn0
          clear hext hesz h10 h32 HD HTok hn0
          have hn5 : n ≤ 1000000 := by omega
          by_cases h3 : n0 = 0
          · subst h3
            have HT3 : Hid (tokL (s.data.toList.drop k) line col = if signT s[k] = [63] then [([63], line, col)] else (signT s[k], line, col) :: tokL (s.data.toList.drop (k + 1)) line (col + 1)) := by
              show _ = _
              rw [HT2.out, if_pos rfl]
            obtain ⟨g, hg⟩ : ∃ g, signT s[k] = g := ⟨_, rfl⟩
            rw [hg] at HSG HT3
            clear hg HT2
            by_cases h63 : g = [63]
            · have HN : Hid (V = ts ++ [([63], line, col)]) := by
                show _ = _
                rw [← HQ.out, HT3.out, if_pos h63]
              subst h63
              go_wp2_with fail
              with_reducible refine (HW.out _).mono ?_
              rintro e w2 ⟨rfl, hw2⟩
              obtain rfl := hw2.symm
              go_wp2_with fail
              with_reducible refine (HSG.out _).mono ?_
              rintro e w3 ⟨rfl, hw3⟩
              obtain rfl := hw3.symm
              go_wp2_with (at_builtin; refine wpList_append_struct wr rfl (.tmp 49) (.tmp 54) 84 rfl HR.out (by decide) (by decide) w A n c _ [strV [63], .int .i64 (line : Int), .int .i64 (col : Int)] rfl rfl (by simp [Act.eval]) BW.out HO.out (by intro u hu; simp only [List.mem_cons, List.not_mem_nil, or_false] at hu; rcases hu with rfl | rfl | rfl <;> rfl) hn5 ?_; intro A' c' w' hown hbel _ _)
              go_ret
              refine ⟨A', n + 1, c', rfl, ?_, by omega, ?_, hbel⟩
              · rw [HN.out, List.length_append, hlen]; rfl
              · rw [HN.out, List.map_append, List.flatten_append]; simpa [tkC] using hown
            · have hq : (g == [63]) = false := beq_eq_false_iff_ne.2 h63
              have HN : Hid ((ts ++ [(g, line, col)]) ++ tokL (s.data.toList.drop (k + 1)) line (col + 1) = V) := by
                show _ = _
                rw [← HQ.out, HT3.out, if_neg h63]; simp
              clear h63
              go_wp2_with fail
              with_reducible refine (HW.out _).mono ?_
              rintro e w2 ⟨rfl, hw2⟩
              obtain rfl := hw2.symm
              go_wp2_with fail
              with_reducible refine (HSG.out _).mono ?_
              rintro e w3 ⟨rfl, hw3⟩
              obtain rfl := hw3.symm
              go_wp2_with (at_builtin; refine wpList_append_struct wr rfl (.tmp 49) (.tmp 54) 84 rfl HR.out (by decide) (by decide) w A n c _ [strV g, .int .i64 (line : Int), .int .i64 (col : Int)] rfl rfl (by simp [Act.eval]) BW.out HO.out (by intro u hu; simp only [List.mem_cons, List.not_mem_nil, or_false] at hu; rcases hu with rfl | rfl | rfl <;> rfl) hn5 ?_; intro A' c' w' hown hbel _ _)
              go_roundw
              case rel => exact ⟨k + 1, line, col + 1, n + 1, c', A', ts ++ [(g, line, col)], by omega, by go_num, rfl, by go_num, rfl, by omega, by rw [List.length_append, hlen]; rfl, HN, Lib.hid (by rw [List.map_append, List.flatten_append]; simpa [tkC] using hown), Lib.hid hbel⟩
              case measure => simp [intOf]; omega
          · have hd : ((n0 : Int) == 0) = false := beq_eq_false_iff_ne.2 (by omega)
            have HX : Hid (s.extract k (k + n0) = ⟨((s.data.toList.drop k).take n0).toArray⟩) := Lib.hid (by
              rw [extract_list, List.take_drop])
            have h63 : ((s.extract k (k + n0)).toList == [63]) = false := by
              rw [HX.out, toList_data]
              refine beq_eq_false_iff_ne.2 (fun e => ?_)
              have h1 : s.data.toList.drop k = s[k] :: s.data.toList.drop (k + 1) := drop_at s k hlt
              have h2 := HN0.out
              rw [h1, wordL] at h2
              by_cases hl : lowB s[k] = true
              · have e2 : ((s.data.toList.drop k).take n0).head? = some 63 := by
                  have e3 : (s.data.toList.drop k).take n0 = [63] := e
                  rw [e3]; rfl
                obtain ⟨m, hm0⟩ : ∃ m, n0 = m + 1 := ⟨n0 - 1, by omega⟩
                rw [h1, hm0, List.take_succ_cons] at e2
                simp only [List.head?_cons, Option.some.injEq] at e2
                rw [e2] at hl; revert hl; decide
              · rw [if_neg hl] at h2; exact h3 h2
            have HN : Hid ((ts ++ [((s.data.toList.drop k).take n0, line, col)]) ++ tokL (s.data.toList.drop (k + n0)) line (col + n0) = V) := by
              show _ = _
              rw [← HQ.out, HT2.out, if_neg h3]; simp
            clear HT2
            go_wp2_with fail
            with_reducible refine (HW.out _).mono ?_
            rintro e w2 ⟨rfl, hw2⟩
            obtain rfl := hw2.symm
            go_wp2_with (at_builtin; refine wpList_append_struct wr rfl (.tmp 49) (.tmp 54) 84 rfl HR.out (by decide) (by decide) w A n c _ [.string (s.extract k (k + n0)), .int .i64 (line : Int), .int .i64 (col : Int)] rfl rfl (by simp [Act.eval]) BW.out HO.out (by intro u hu; simp only [List.mem_cons, List.not_mem_nil, or_false] at hu; rcases hu with rfl | rfl | rfl <;> rfl) hn5 ?_; intro A' c' w' hown hbel _ _)
            go_roundw
            case rel => exact ⟨k + n0, line, col + n0, n + 1, c', A', ts ++ [((s.data.toList.drop k).take n0, line, col)], by omega, by go_num, rfl, by go_num, rfl, by omega, by rw [List.length_append, hlen]; rfl, HN, Lib.hid (by rw [List.map_append, List.flatten_append]; rw [HX.out] at hown; simpa [tkC] using hown), Lib.hid hbel⟩
            case measure => simp [intOf]; omega
    · have HN : Hid (V = ts ++ [([], line, col)]) := by
        show _ = _
        rw [← HQ.out, List.drop_of_length_le (by rw [size_list]; omega), tokL]
      have hs : s.size ≤ 5000 := hm
      have hn5 : n ≤ 1000000 := by omega
      go_wp2_with (at_builtin; refine wpList_append_struct wr rfl (.tmp 65) (.tmp 69) 84 rfl HR.out (by decide) (by decide) w A n c _ (tkC ([], line, col)) rfl rfl (by simp [Act.eval]) BW.out HO.out (tk_one _) hn5 ?_; intro A' c' w' hown hbel _ _)
      go_ret
      refine ⟨A', n + 1, c', rfl, ?_, by omega, ?_, hbel⟩
      · rw [HN.out, List.length_append, hlen]; rfl
      · rw [HN.out, List.map_append, List.flatten_append]; simpa using hown
end Go.Proofs.Ytehabjiacgibpaa
