/-
  How many bytes of a word a text begins with, and a sign's text (conciergeref11's word, sign). Condition: a string's length fits an int.
-/
import Derived.Test.YtehabjiacgibpaaGreatCRoCx
import Derived.Deep.QuietTactic
import Derived.BigQuiet
namespace Go.Proofs.YtehabjiacgibpaaGreat
open Go.RowKit
def WdTo (s : ByteArray) (k : Nat) : Prop := ∀ j (_ : j < k) (h : j < s.size), (j = 0 → lowB s[j] = true) ∧ nmB s[j] = true
theorem low_nm {c : UInt8} (h : lowB c = true) : nmB c = true := by unfold nmB; rw [h]; rfl
theorem WdTo.next {s : ByteArray} {k : Nat} (H : WdTo s k) (h : k < s.size) (h0 : k = 0 → lowB s[k] = true) (h1 : nmB s[k] = true) : WdTo s (k + 1) := by
  intro j hj h2
  by_cases hjk : j < k
  · exact H j hjk h2
  · obtain rfl : j = k := by omega
    exact ⟨h0, h1⟩
theorem WdTo.end_ {s : ByteArray} {k : Nat} (H : WdTo s k) (hk : k ≤ s.size) (hend : ∀ h : k < s.size, if k = 0 then lowB s[k] = false else nmB s[k] = false) : wordL s.data.toList = k := by
  have hl : s.data.toList.length = s.size := size_list s
  have hget : ∀ j (h : j < s.size), s.data.toList[j]'(by rw [hl]; exact h) = s[j] := fun j h => rfl
  cases hd : s.data.toList with
  | nil =>
    rw [hd] at hl
    simp at hl
    rw [wordL]; omega
  | cons c r =>
    have h0 : 0 < s.size := by rw [← hl, hd]; simp
    have hc : s[0] = c := by
      have := hget 0 h0
      rw [← this]
      simp only [hd, List.getElem_cons_zero]
    have hr : ∀ j (h : j + 1 < s.size), r[j]'(by have := hl; rw [hd] at this; simp at this; omega) = s[j + 1] := fun j h => by
      have := hget (j + 1) h
      rw [← this]
      simp only [hd, List.getElem_cons_succ]
    have hrl : r.length + 1 = s.size := by rw [← hl, hd]; simp
    rw [wordL]
    by_cases hk0 : k = 0
    · subst hk0
      have := hend h0
      rw [if_pos rfl, hc] at this
      rw [this]; rfl
    · have h1 := (H 0 (by omega) h0).1 rfl
      rw [hc] at h1
      rw [if_pos h1]
      have e : r.takeWhile nmB = r.take (k - 1) := by
        have hp : ∀ a ∈ r.take (k - 1), nmB a = true := by
          intro a ha
          obtain ⟨j, hj, rfl⟩ := List.getElem_of_mem ha
          rw [List.length_take] at hj
          rw [List.getElem_take, hr j (by omega)]
          exact (H (j + 1) (by omega) (by omega)).2
        have hq : (r.drop (k - 1)).takeWhile nmB = [] := by
          by_cases hlt : k < s.size
          · have h2 := hend hlt
            rw [if_neg hk0] at h2
            rw [List.drop_eq_getElem_cons (by omega), List.takeWhile_cons, hr (k - 1) (by omega)]
            have e2 : s[k - 1 + 1]'(by omega) = s[k] := by congr 1; omega
            rw [e2, h2]; rfl
          · rw [List.drop_of_length_le (by omega)]; rfl
        have h3 := List.takeWhile_append_of_pos (l₂ := r.drop (k - 1)) hp
        rw [List.take_append_drop, hq, List.append_nil] at h3
        exact h3
      rw [e, List.length_take]; omega
set_option maxHeartbeats 1000000 in
theorem word_of_any (s : ByteArray) (w : World) (hm : s.size ≤ 9223372036854775807) :
    Calls Tryz.prog 50 #[.string s] w fun e w' => e = .returned (.int .i64 (wordL s.data.toList)) ∧ w' = w := by
  go_enter Tryz.func50, Tryz.ntmps50
  go_wp2_with fail
  go_loop [3] (fun i => ∃ k : Nat, k ≤ s.size ∧ i = .int .i64 k ∧ Hid (WdTo s k)) (fun i => s.size - (intOf i).toNat)
  case atStart => exact ⟨0, by omega, rfl, Lib.hid (fun j hj => absurd hj (by omega))⟩
  case round =>
    obtain ⟨k, hk, rfl, H⟩ := hrel
    by_cases hlt : k < s.size
    · have hx := s[k].toNat_lt
      by_cases hlow : 97 ≤ s[k].toNat ∧ s[k].toNat ≤ 122
      · obtain ⟨d1, d2⟩ := hlow
        have hl : lowB s[k] = true := by simp [lowB, d1, d2]
        have HG := Lib.hid (H.out.next hlt (fun _ => hl) (low_nm hl))
        clear hl
        go_wp2_with fail
        go_round
        case rel => exact ⟨k + 1, by omega, by go_num, HG⟩
        case measure => simp [intOf]; omega
      · have hnl : lowB s[k] = false := by simp [lowB]; omega
        have hlc : s[k].toNat < 97 ∨ (97 ≤ s[k].toNat ∧ 122 < s[k].toNat ∧ decide ((s[k].toNat : Int) ≤ 122) = false) := by simp only [decide_eq_false_iff_not]; omega
        by_cases h0 : 0 < k
        · by_cases hmore : s[k].toNat = 95 ∨ (48 ≤ s[k].toNat ∧ s[k].toNat ≤ 57)
          · have hnm : nmB s[k] = true := by
              rcases hmore with h | ⟨h1, h2⟩
              · simp [nmB, h]
              · simp [nmB, numB, h1, h2]
            have HG := Lib.hid (H.out.next hlt (fun h => absurd h (by omega)) hnm)
            have hm2 : (s[k].toNat : Int) = 95 ∨ (¬ (s[k].toNat : Int) = 95 ∧ 48 ≤ s[k].toNat ∧ s[k].toNat ≤ 57 ∧ s[k].toNat < 97) := by omega
            clear hlow hmore hnm hnl
            rcases hm2 with e95 | ⟨e95, b1, b2, b3⟩
            · have b3 : s[k].toNat < 97 := by omega
              clear hlc
              go_wp2_with fail
              go_round
              case rel => exact ⟨k + 1, by omega, by go_num, HG⟩
              case measure => simp [intOf]; omega
            · clear hlc
              go_wp2_with fail
              go_round
              case rel => exact ⟨k + 1, by omega, by go_num, HG⟩
              case measure => simp [intOf]; omega
          · have hnm : nmB s[k] = false := by simp [nmB, lowB, numB]; omega
            have HG : Hid (wordL s.data.toList = k) := Lib.hid (H.out.end_ hk (fun _ => by rw [if_neg (by omega)]; exact hnm))
            have e95 : ¬ (s[k].toNat : Int) = 95 := by omega
            have hc : s[k].toNat < 48 ∨ (48 ≤ s[k].toNat ∧ 57 < s[k].toNat ∧ s[k].toNat < 97 ∧ decide ((s[k].toNat : Int) ≤ 57) = false) ∨ (48 ≤ s[k].toNat ∧ 57 < s[k].toNat ∧ 97 ≤ s[k].toNat ∧ 122 < s[k].toNat ∧ decide ((s[k].toNat : Int) ≤ 122) = false ∧ decide ((s[k].toNat : Int) ≤ 57) = false) := by simp only [decide_eq_false_iff_not]; omega
            clear hlow hmore hnm hnl hlc
            rcases hc with c1 | ⟨c1, c2, c3, c4⟩ | ⟨c1, c2, c3, c4, c5, c6⟩
            all_goals go_wp2_with fail
            all_goals go_ret
            all_goals exact ⟨by rw [HG.out]; rfl, rfl⟩
        · have HG : Hid (wordL s.data.toList = k) := Lib.hid (H.out.end_ hk (fun _ => by rw [if_pos (by omega)]; exact hnl))
          have hd : decide (0 < k) = false := decide_eq_false h0
          clear hlow hnl
          rcases hlc with c1 | ⟨c1, c2, c3⟩
          all_goals go_wp2_with fail
          all_goals go_ret
          all_goals exact ⟨by rw [HG.out]; rfl, rfl⟩
    · have HG : Hid (wordL s.data.toList = k) := Lib.hid (H.out.end_ hk (fun h => absurd h hlt))
      go_wp2_with fail
      go_ret
      exact ⟨by rw [HG.out]; rfl, rfl⟩
theorem extract_one (s : ByteArray) (k : Nat) (h : k < s.size) : s.extract k (k + 1) = ⟨#[s[k]]⟩ := by
  rw [extract_list, take_list s k h, List.drop_append_of_le_length (by rw [List.length_take, size_list]; omega)]
  congr 1
  rw [List.drop_of_length_le (by rw [List.length_take]; omega)]; rfl
set_option maxHeartbeats 1000000 in
theorem sign_any (c : UInt8) (w : World) :
    Calls Tryz.prog 51 #[.int .u8 (c.toNat : Int)] w fun e w' => e = .returned (strV (signT c)) ∧ w' = w := by
  obtain ⟨S, hS⟩ : ∃ S : ByteArray, S = ⟨#[58, 124, 35, 43, 45, 38, 46, 40, 41]⟩ := ⟨_, rfl⟩
  have hsz : S.size ≤ 1000 := by rw [hS]; decide
  have hls : S.data.toList = signs := by rw [hS]; rfl
  have hmem : ∀ k (h : k < S.size), S[k] ∈ signs := by
    intro k h
    rw [← hls]
    exact List.getElem_mem (l := S.data.toList) (n := k) (by rw [size_list]; exact h)
  have hall : (∀ k (h : k < S.size), S[k] ≠ c) → c ∉ signs := by
    intro h hc
    rw [← hls] at hc
    obtain ⟨k, hk, hkc⟩ := List.getElem_of_mem hc
    exact h k (by rw [size_list] at hk; exact hk) hkc
  have HS := Lib.hid hS
  have HM := Lib.hid hmem
  have HA := Lib.hid hall
  clear hS hmem hall hls
  go_enter Tryz.func51, Tryz.ntmps51
  go_wp2_with fail
  rw [← HS.out]
  go_loop [4] (fun i => ∃ k : Nat, k ≤ S.size ∧ i = .int .i64 k ∧ Hid (∀ j (_ : j < k) (h : j < S.size), S[j] ≠ c)) (fun i => S.size - (intOf i).toNat)
  case atStart => exact ⟨0, by omega, rfl, Lib.hid (fun j hj => absurd hj (by omega))⟩
  case round =>
    obtain ⟨k, hk, rfl, H⟩ := hrel
    by_cases hlt : k < S.size
    · have hks : k < S.size := hlt
      have hx := S[k].toNat_lt
      by_cases hc : S[k] = c
      · have hsg : signT c = [c] := by unfold signT; rw [if_pos (by rw [← hc]; exact HM.out k hks)]
        have HE : Hid (S.extract k (k + 1) = ⟨(signT c).toArray⟩) := Lib.hid (by rw [extract_one S k hks, hc, hsg])
        have e1 : (S[k].toNat : Int) = (c.toNat : Int) := by rw [hc]
        clear hc hsg
        have c1 : (0 : Int) ≤ (k : Int) := by omega
        have c2 : (k : Int) ≤ (k : Int) + 1 := by omega
        have c3 : (k : Int) + 1 ≤ (S.size : Int) := by omega
        go_wp2_with fail
        go_ret
        exact ⟨by show Ending.returned (.string (S.extract k (k + 1))) = _; rw [HE.out], rfl⟩
      · have HG : Hid (∀ j (_ : j < k + 1) (h : j < S.size), S[j] ≠ c) := Lib.hid (fun j hj h => by
          by_cases hjk : j < k
          · exact H.out j hjk h
          · obtain rfl : j = k := by omega
            exact hc)
        have e1 : ¬ (S[k].toNat : Int) = (c.toNat : Int) := fun h => hc (UInt8.toNat_inj.1 (by omega))
        clear hc
        go_wp2_with fail
        go_round
        case rel => exact ⟨k + 1, by omega, by go_num, HG⟩
        case measure => simp [intOf]; omega
    · have HG : Hid (signT c = [63]) := Lib.hid (by
        unfold signT
        rw [if_neg (HA.out (fun k' h => H.out k' (by omega) h))])
      go_wp2_with fail
      go_ret
      exact ⟨by rw [HG.out]; rfl, rfl⟩
end Go.Proofs.YtehabjiacgibpaaGreat
