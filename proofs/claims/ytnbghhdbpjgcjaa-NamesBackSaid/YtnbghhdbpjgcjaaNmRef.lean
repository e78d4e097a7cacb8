/-
  What the document's Name and ID come to. Condition: a string's length fits an int.
-/
import Derived.Test.YtnbghhdbpjgcjaaNmL
namespace Go.Proofs.Ytnbghhdbpjgcjaa
open Go.RowKit

set_option maxHeartbeats 400000 in
theorem refName_bad (s : ByteArray) (w : World) (hm : s.size ≤ 9223372036854775807) (hb : nameBad s.data.toList) :
    Calls Try.prog 10 #[.string s] w fun e w' => e = .returned (.bool false) ∧ w = w' := by
  have hp := name_parts s hb
  clear hb
  rcases hp with rfl | ⟨h0, h1⟩ | ⟨h0, h1, h2⟩ | ⟨h0, h1, h2, h3⟩ | ⟨h0, h1, h2, h3, h4⟩
  all_goals go_enter Try.func10, Try.ntmps10
  all_goals go_wp2_with fail
  all_goals go_ret
  all_goals exact ⟨rfl, rfl⟩
set_option maxHeartbeats 400000 in
theorem refName_any (s : ByteArray) (w : World) (hm : s.size ≤ 9223372036854775807) :
    Calls Try.prog 10 #[.string s] w fun e w' => e = .returned (.bool (nameL s.data.toList)) ∧ w = w' := by
  by_cases hb : nameBad s.data.toList
  · rw [name_bad hb]; exact refName_bad s w hm hb
  obtain ⟨h0, h1, h2, h3, h4, h5⟩ := name_fine s hb
  have HB := Lib.hid hb
  clear hb
  go_enter Try.func10, Try.ntmps10
  go_wp2_with fail
  go_loop [3] (fun i => ∃ k : Nat, k ≤ s.size ∧ i = .int .i64 k ∧ Hid (NmTo s k)) (fun i => s.size - (intOf i).toNat)
  case atStart => exact ⟨0, by omega, rfl, Lib.hid (NmTo.zero s)⟩
  case round =>
    obtain ⟨k, hk, rfl, H⟩ := hrel
    by_cases hlt : k < s.size
    · have hx := s[k].toNat_lt
      by_cases hlow : 97 ≤ s[k].toNat ∧ s[k].toNat ≤ 122
      · obtain ⟨d1, d2⟩ := hlow
        have HG := Lib.hid (H.out.low hlt d1 d2)
        go_wp2_with fail
        go_round
        case rel => exact ⟨k + 1, by omega, by go_num, HG⟩
        case measure => simp [intOf]; omega
      · by_cases h0 : 0 < k
        · have k0 : ((k : Int) == 0) = false := beq_eq_false_iff_ne.2 (by omega)
          by_cases h95 : s[k].toNat = 95
          · have HG := Lib.hid (H.out.more hlt h0 (.inl h95))
            have e95 : (s[k].toNat : Int) = 95 := by omega
            clear h95 hlow
            go_wp2_with fail
            go_round
            case rel => exact ⟨k + 1, by omega, by go_num, HG⟩
            case measure => simp [intOf]; omega
          · have e95 : ¬ (s[k].toNat : Int) = 95 := by omega
            have n95 : ((s[k].toNat : Int) != 95) = true := bne_iff_ne.2 (by omega)
            by_cases hdig : 48 ≤ s[k].toNat ∧ s[k].toNat ≤ 57
            · have HG := Lib.hid (H.out.more hlt h0 (.inr hdig))
              obtain ⟨b1, b2⟩ := hdig
              have a1 : ¬ 97 ≤ s[k].toNat := by omega
              clear h95 hlow
              go_wp2_with fail
              go_round
              case rel => exact ⟨k + 1, by omega, by go_num, HG⟩
              case measure => simp [intOf]; omega
            · have HG : Hid (nameL s.data.toList = false) := Lib.hid (H.out.other hlt hlow h95 hdig)
              have hc : s[k].toNat < 48 ∨ (48 ≤ s[k].toNat ∧ 57 < s[k].toNat ∧ s[k].toNat < 97) ∨ (48 ≤ s[k].toNat ∧ 57 < s[k].toNat ∧ 97 ≤ s[k].toNat ∧ 122 < s[k].toNat ∧ decide ((s[k].toNat : Int) ≤ 122) = false) := by simp only [decide_eq_false_iff_not]; omega
              clear h95 hlow hdig
              rcases hc with c1 | ⟨c1, c2, c3⟩ | ⟨c1, c2, c3, c4, c5⟩
              all_goals go_wp2_with fail
              all_goals go_ret
              all_goals exact ⟨by rw [HG.out]; rfl, rfl⟩
        · obtain rfl : k = 0 := by omega
          have HG : Hid (nameL s.data.toList = false) := Lib.hid (NmTo.first h1 hlow)
          have hc : s[0].toNat < 97 ∨ (97 ≤ s[0].toNat ∧ 122 < s[0].toNat ∧ decide ((s[0].toNat : Int) ≤ 122) = false) := by simp only [decide_eq_false_iff_not]; omega
          clear hlow
          rcases hc with c1 | ⟨c1, c2, c3⟩
          all_goals go_wp2_with fail
          all_goals go_ret
          all_goals exact ⟨by rw [HG.out]; rfl, rfl⟩
    · have HG : Hid (nameL s.data.toList = true) := Lib.hid (H.out.done hlt (by omega) HB.out)
      go_wp2_with fail
      all_goals go_ret
      all_goals exact ⟨by rw [HG.out]; rfl, rfl⟩

set_option maxHeartbeats 400000 in
theorem refID_any (s : ByteArray) (w : World) (hm : s.size ≤ 9223372036854775807) :
    Calls Try.prog 12 #[.string s] w fun e w' => e = .returned (.bool (idL s.data.toList)) ∧ w = w' := by
  by_cases hb : s.data.toList.length = 0 ∨ 24 < s.data.toList.length
  · rw [id_bad hb]
    rw [size_list] at hb
    by_cases h0 : s = ByteArray.empty
    · subst h0
      clear hb
      go_enter Try.func12, Try.ntmps12
      go_wp2_with fail
      all_goals go_ret
      all_goals exact ⟨rfl, rfl⟩
    · have h1 : 24 < s.size := by
        rcases hb with h | h
        · exact absurd ((empty_iff s).2 (by rw [size_list]; exact h)) h0
        · exact h
      clear hb
      go_enter Try.func12, Try.ntmps12
      go_wp2_with fail
      all_goals go_ret
      all_goals exact ⟨rfl, rfl⟩
  obtain ⟨h0, h1, h2, h3⟩ := id_fine s hb
  have HB := Lib.hid hb
  clear hb
  go_enter Try.func12, Try.ntmps12
  go_wp2_with fail
  go_loop [3] (fun i => ∃ k : Nat, k ≤ s.size ∧ i = .int .i64 k ∧ Hid ((s.data.toList.take k).all idB = true)) (fun i => s.size - (intOf i).toNat)
  case atStart => exact ⟨0, by omega, rfl, Lib.hid rfl⟩
  case round =>
    obtain ⟨k, hk, rfl, H⟩ := hrel
    by_cases hlt : k < s.size
    · have hx := s[k].toNat_lt
      have HN := Lib.hid (all_next (p := idB) s k hlt H.out)
      rcases id_class s[k].toNat with hc | hc | hc | hc | hc | hc | ⟨hc, ⟨n1, m1⟩, ⟨n2, m2⟩, ⟨n3, m3⟩⟩
      case inr.inr.inr.inr.inr.inr =>
        have HG : Hid (idL s.data.toList = false) := Lib.hid (id_other H.out hlt (id_no (by omega) n1 n2 n3))
        clear HN H
        rcases hc with c1 | ⟨c1, c2, c3, c4⟩ | ⟨c1, c2, c3, c4, c5, c6, c7⟩ | ⟨c1, c2, c3, c4, c5, c6, c7, c8, c9⟩
        all_goals go_wp2_with fail
        all_goals go_ret
        all_goals exact ⟨by rw [HG.out]; rfl, rfl⟩
      case inl =>
        have HG := Lib.hid (HN.out.1 (id_yes (.inl hc)))
        obtain ⟨d1, d2⟩ := hc
        clear HN
        go_wp2_with fail
        go_round
        case rel => exact ⟨k + 1, by omega, by go_num, HG⟩
        case measure => simp [intOf]; omega
      case inr.inl =>
        have HG := Lib.hid (HN.out.1 (id_yes (.inr (.inl hc))))
        obtain ⟨d1, d2⟩ := hc
        clear HN
        go_wp2_with fail
        go_round
        case rel => exact ⟨k + 1, by omega, by go_num, HG⟩
        case measure => simp [intOf]; omega
      case inr.inr.inl =>
        have HG := Lib.hid (HN.out.1 (id_yes (.inr (.inr (.inl hc)))))
        obtain ⟨d1, d2⟩ := hc
        clear HN
        go_wp2_with fail
        go_round
        case rel => exact ⟨k + 1, by omega, by go_num, HG⟩
        case measure => simp [intOf]; omega
      case inr.inr.inr.inl =>
        have HG := Lib.hid (HN.out.1 (id_yes (.inr (.inr (.inr (.inl hc))))))
        clear HN
        go_wp2_with fail
        go_round
        case rel => exact ⟨k + 1, by omega, by go_num, HG⟩
        case measure => simp [intOf]; omega
      case inr.inr.inr.inr.inl =>
        have HG := Lib.hid (HN.out.1 (id_yes (.inr (.inr (.inr (.inr (.inl hc)))))))
        clear HN
        go_wp2_with fail
        go_round
        case rel => exact ⟨k + 1, by omega, by go_num, HG⟩
        case measure => simp [intOf]; omega
      case inr.inr.inr.inr.inr.inl =>
        have HG := Lib.hid (HN.out.1 (id_yes (.inr (.inr (.inr (.inr (.inr hc)))))))
        clear HN
        go_wp2_with fail
        go_round
        case rel => exact ⟨k + 1, by omega, by go_num, HG⟩
        case measure => simp [intOf]; omega
    · have HG : Hid (idL s.data.toList = true) := Lib.hid (id_done H.out hlt HB.out)
      go_wp2_with fail
      all_goals go_ret
      all_goals exact ⟨by rw [HG.out]; rfl, rfl⟩
end Go.Proofs.Ytnbghhdbpjgcjaa
