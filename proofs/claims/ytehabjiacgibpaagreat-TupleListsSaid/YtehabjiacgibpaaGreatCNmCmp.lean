/-
  What cmp.Compare of texts and cmp.Or of numbers come to over this program. No conditions.
-/
import Derived.Test.YtehabjiacgibpaaGreatCTuE
import Derived.Test.YtehabjiacgibpaaGreatCNmSub
import Derived.Test.YtehabjiacgibpaaGreatCFlat
import Derived.Laws.Cover1
namespace Go.Proofs.YtehabjiacgibpaaGreat
open Go.RowKit
def cmpL (a b : Txt) : Int := if ltK a b = true then -1 else if ltK b a = true then 1 else 0
def orL : List Int → Int
  | [] => 0
  | x :: r => if x = 0 then orL r else x
theorem lessF_or : ∀ X Y : List Txt, lessF X Y = decide (orL (List.zipWith cmpL X Y) < 0)
  | [], _ => by simp [lessF, orL]
  | _ :: _, [] => by simp [lessF, orL]
  | x :: xs, y :: ys => by
    rw [lessF_cons, List.zipWith_cons_cons, orL]
    by_cases e : x = y
    · subst e
      rw [if_pos rfl, if_pos (by unfold cmpL; rw [ltK_self]; rfl)]
      exact lessF_or xs ys
    · rw [if_neg e]
      unfold cmpL
      cases h : ltK x y
      · cases h2 : ltK y x
        · exact absurd (ltK_eq h h2) e
        · rfl
      · rfl
theorem nan_any (l : Txt) (w : World) : Calls Tryz.prog 84 #[strV l] w fun e w' => e = .returned (.bool false) ∧ w' = w := by
  go_enter Tryz.func84, Tryz.ntmps84
  go_wp2_with fail
  go_ret
  exact ⟨by simp, rfl⟩
theorem compare_any (a b : Txt) (w : World) : Calls Tryz.prog 48 #[strV a, strV b] w fun e w' => e = .returned (.int .i64 (cmpL a b)) ∧ w' = w := by
  have HN := Lib.hid (fun l W => nan_any l W)
  obtain ⟨v, hv⟩ : ∃ v, v = cmpL a b := ⟨_, rfl⟩
  have hc : (ltK a b = true ∧ Hid (v = -1)) ∨ (ltK a b = false ∧ (a == b) = false ∧ Hid (v = 1)) ∨ (ltK a b = false ∧ (a == b) = true ∧ Hid (v = 0)) := by
    unfold cmpL at hv
    cases h : ltK a b
    · cases h2 : ltK b a
      · rw [h, h2] at hv; exact .inr (.inr ⟨rfl, beq_iff_eq.2 (ltK_eq h h2), Lib.hid hv⟩)
      · rw [h, h2] at hv; exact .inr (.inl ⟨rfl, beq_eq_false_iff_ne.2 (fun e => ltK_ne h2 e.symm), Lib.hid hv⟩)
    · rw [h] at hv; exact .inl ⟨rfl, Lib.hid hv⟩
  rw [← hv]
  clear hv
  unfold ltK at hc
  rcases hc with ⟨h1, H⟩ | ⟨h1, h2, H⟩ | ⟨h1, h2, H⟩
  all_goals go_enter Tryz.func48, Tryz.ntmps48
  all_goals go_wp2_with (go_at_call 84; with_reducible refine (HN.out _ _).mono ?_; rintro e w' ⟨rfl, rfl⟩)
  all_goals go_ret
  all_goals exact ⟨by rw [H.out]; rfl, rfl⟩
theorem orL_drop {L : List Int} {k : Nat} (h : k < L.length) : orL (L.drop k) = if L[k] = 0 then orL (L.drop (k + 1)) else L[k] := by
  rw [List.drop_eq_getElem_cons h, orL]
set_option maxHeartbeats 400000 in
theorem or_any (L : List Int) (g c : Nat) (w : World) (hg : Blk w g (L.map (Value.int .i64)) 3) (hL : L.length ≤ 1000) :
    Calls Tryz.prog 47 #[.slice (some ⟨g, 0, none⟩) L.length c] w fun e w' => e = .returned (.int .i64 (orL L)) ∧ w' = w := by
  obtain ⟨v, hv⟩ : ∃ v, v = orL L := ⟨_, rfl⟩
  rw [← hv]
  have HG := Lib.hid hg
  have HV := Lib.hid hv
  clear hg hv
  go_enter Tryz.func47, Tryz.ntmps47
  go_wp2_with fail
  go_loop [8] (fun i => ∃ k : Nat, k ≤ L.length ∧ i = .int .i64 k ∧ Hid (orL (L.drop k) = v)) (fun i => L.length - (intOf i).toNat)
  case atStart => exact ⟨0, by omega, rfl, Lib.hid HV.out.symm⟩
  case round =>
    obtain ⟨k, hk, rfl, H⟩ := hrel
    by_cases hlt : k < L.length
    · have hd := orL_drop hlt
      have hc := HG.out.cell (i := k) (by simpa using hlt)
      rw [List.getElem_map] at hc
      generalize L[k] = x at *
      by_cases hx : x = 0
      · subst hx
        have HN : Hid (orL (L.drop (k + 1)) = v) := Lib.hid (by rw [← H.out, hd, if_pos rfl])
        clear hd
        go_wp2_with fail
        go_round
        case rel => exact ⟨k + 1, by omega, by go_num, HN⟩
        case measure => simp [intOf]; omega
      · have HN : Hid (x = v) := Lib.hid (by rw [← H.out, hd, if_neg hx])
        have hx2 : (x != 0) = true := bne_iff_ne.2 hx
        clear hd
        go_wp2_with fail
        go_ret
        exact ⟨by rw [HN.out]; rfl, rfl⟩
    · have HN : Hid (v = 0) := Lib.hid (by rw [← H.out, List.drop_of_length_le (by omega)]; rfl)
      go_wp2_with fail
      go_ret
      exact ⟨by rw [HN.out]; rfl, rfl⟩
end Go.Proofs.YtehabjiacgibpaaGreat
