/-
  The statement MacChecks: any code is that of any bytes under any key, or not, as the document says; its own is, and one with a changed byte is not. Condition: the row's own.
-/
import Derived.Test.YtmmfnfndepijlaaDoorMacHelp
import Derived.Test.YtmmfnfndepijlaaDoorRefMac
import Derived.Deep.RegionHeldLaw
import Derived.Deep.DrawnRows
namespace Go.Proofs.YtmmfnfndepijlaaDoor
open Go.RowKit
attribute [local go_sem ↓] Go.wp_at_zero Go.wp_at_succ

/-- one byte of a row of the call's own, written -/
theorem Made.set {e : TypeId} {w0 w : World} {l : List UInt8} {A : Option Addr} {n c k : Nat} (h : Made e w0 l (.slice A n c) w) (hk : k < n) (x : UInt8) :
    ∃ g, A = some ⟨g, 0, none⟩ ∧ (∃ v, w.cell? ⟨g, k, none⟩ = some v) ∧ w.frozen? ⟨g, k, none⟩ = false ∧ Made e w0 (l.set k x) (.slice A n c) (w.setCell ⟨g, k, none⟩ (.int .u8 (x.toNat : Int))) := by
  have hl := h.at_len.1
  obtain ⟨hown, hbel⟩ := h
  rcases hown.2 with ⟨hv, h0⟩ | ⟨g, cap, cur, hv, hg, hh, hnc, hcm, hcs, ht⟩
  · injection hv with _ h2 _; omega
  · injection hv with h1 h2 h3
    subst h1 h3
    have hB : Blk w g cur.toList e := by unfold Blk; rw [Array.toArray_toList]; exact hh
    have hkc : k < cur.toList.length := by rw [Array.length_toList, hcs]; omega
    refine ⟨g, rfl, ⟨_, hB.cell hkc⟩, hB.free k, ⟨⟨?_, .inr ⟨g, c, (cur.toList.set k (.int .u8 (x.toNat : Int))).toArray, ?_, hg, hB.set k _, by rw [List.length_set]; omega, hcm, ?_, ?_⟩⟩, hbel.setCell hg _⟩⟩
    · simp
    · rw [List.length_set, hl]
    · simpa using hcs
    · have hx : bv x = .int .u8 (x.toNat : Int) := rfl
      rw [List.length_set, List.map_set, ← ht, ← hx]
      simp [List.take_set]

set_option maxRecDepth 100000 in
set_option maxHeartbeats 1000000 in
theorem macChecks_long (A : Option Addr) (key : List UInt8) (c : Nat) (B : Option Addr) (b : List UInt8) (d : Nat) (E : Option Addr) (code : List UInt8) (k : Nat) (at_ : Int) (to : UInt8) (w : World) (ht : Tabs w) (h : 1000 < key.length ∨ 1000 < b.length) :
    Calls Tryd.prog 5 #[.slice A key.length c, .slice B b.length d, .slice E code.length k, .int .i64 at_, .int .u8 (to.toNat : Int)] w fun e w' => e = .returned (.bool true) ∧ Below w.heap.size w w' := by
  have HT := Lib.hid ht
  clear ht
  by_cases h1 : (1000 : Int) < key.length
  · clear h
    go_enter Tryd.func5, Tryd.ntmps5
    go_wp2_with fail
    refine (awake_any _ HT.out).mono ?_
    rintro e w1 ⟨rfl, hb1⟩
    have B1 := Lib.hid hb1
    clear hb1
    go_wp2_with fail
    go_ret
    exact ⟨rfl, B1.out⟩
  · have h2 : (1000 : Int) < b.length := by omega
    clear h
    go_enter Tryd.func5, Tryd.ntmps5
    go_wp2_with fail
    refine (awake_any _ HT.out).mono ?_
    rintro e w1 ⟨rfl, hb1⟩
    have B1 := Lib.hid hb1
    clear hb1
    go_wp2_with fail
    go_ret
    exact ⟨rfl, B1.out⟩

set_option maxRecDepth 100000 in
set_option maxHeartbeats 2000000 in
theorem macChecks_below (A : Option Addr) (key : List UInt8) (c : Nat) (B : Option Addr) (b : List UInt8) (d : Nat) (E : Option Addr) (code : List UInt8) (k : Nat) (at_ : Int) (to : UInt8) (w : World) (hl : key.length ≤ 1000) (hs : Seen w A key) (hc : key.length ≤ c)
    (hl' : b.length ≤ 1000) (hs' : Seen w B b) (hd : b.length ≤ d) (hl2 : code.length ≤ 140737488351232) (hs2 : Seen w E code) (hat : at_ < 0) (ht : Tabs w) :
    Calls Tryd.prog 5 #[.slice A key.length c, .slice B b.length d, .slice E code.length k, .int .i64 at_, .int .u8 (to.toNat : Int)] w fun e w' => e = .returned (.bool true) ∧ Below w.heap.size w w' := by
  have HS := Lib.hid hs
  have HS' := Lib.hid hs'
  have HS2 := Lib.hid hs2
  have HT := Lib.hid ht
  have n1 : ¬ (1000 : Int) < key.length := by omega
  have n2 : ¬ (1000 : Int) < b.length := by omega
  obtain ⟨i0, hi, hz0, hz1, hz2⟩ := info_parts info5
  clear hs hs' hs2 ht
  go_enter Tryd.func5, Tryd.ntmps5
  go_wp2_with fail
  refine (awake_any _ HT.out).mono ?_
  rintro e w1 ⟨rfl, hb1⟩
  have B1 := Lib.hid hb1
  clear hb1
  go_wp2_with fail
  refine (refMac_any A key c B b d _ (HS.out.below B1.out) (by omega) (HS'.out.below B1.out) (by omega)).mono ?_
  rintro e w2 ⟨A2, c2, rfl, hm2⟩
  have B2 := Lib.hid (hop B1.out hm2.2)
  have N32 := Lib.hid (length_macL key b)
  have K1 : Hid (∀ (X : Option Addr) (x : List UInt8) (r : Nat) (w' : World), Below w.heap.size w w' → Seen w' X x → x.length ≤ 140737488351232 → Calls Tryd.prog 12 #[.slice A key.length c, .slice B b.length d, .slice X x.length r] w' fun e w'' => e = .returned (.bool (decide (macL key b = x))) ∧ Below w'.heap.size w' w'') :=
    fun X x r w' hb hx hn => check_any A key c B b d X x r w' (HS.out.below hb) hc (by omega) (HS'.out.below hb) hd (by omega) hx (by omega) (HT.out.below hb)
  have S2 := Lib.hid hm2.at_len.2
  clear hm2
  obtain ⟨M, hM⟩ : ∃ M, M = macL key b := ⟨_, rfl⟩
  rw [← hM] at N32 K1 S2
  clear hM
  have HO := Made.nil 5 w2
  go_wp2_with (at_builtin; refine wpList_append_bytes _ rfl _ _ 22 rfl 5 i0 (.int .u8 0) Tryd.underlying22 hi hz0 hz1 hz2 rfl w2 _ [] A2 M c2 rfl (by show Value.slice A2 32 c2 = .slice A2 M.length c2; rw [N32.out]) HO S2.out (by simp [N32.out]) ?_)
  intro v3 w3 HM3 _
  obtain ⟨A3, c3, rfl, HM4⟩ := made_len HM3 N32.out
  have HM5 := HM4
  have S3 := Lib.hid HM5.at_len.2
  have B3 := Lib.hid (hop B2.out HM5.2)
  have S2' := Lib.hid (S2.out.below HM5.2)
  have ND : Hid (M.length = 32) := HM5.at_len.1
  clear HM3 HM4 HM5 HO S2
  obtain ⟨D, hD⟩ : ∃ D, D = M := ⟨_, rfl⟩
  rw [← hD] at S3 ND
  clear hD
  obtain ⟨v1, hv1⟩ : ∃ v1, v1 = decide (M = code) := ⟨_, rfl⟩
  obtain ⟨v2, hv2⟩ : ∃ v2, v2 = decide (M = D) := ⟨_, rfl⟩
  have hq1 := text_beq code M
  have hq2 := text_beq D M
  rw [show decide (code = M) = v1 by rw [hv1]; exact decide_eq_decide.2 eq_comm] at hq1
  rw [show decide (D = M) = v2 by rw [hv2]; exact decide_eq_decide.2 eq_comm] at hq2
  go_wp2_with fail
  obtain ⟨w4, hw4⟩ : ∃ w4, w4 = w3 := ⟨_, rfl⟩
  rw [← hw4] at S3 B3 S2' ⊢
  have E1 : Hid (∀ w', Below w4.heap.size w4 w' → Calls Tryd.prog 12 #[.slice A key.length c, .slice B b.length d, .slice E code.length k] w' fun e w'' => e = .returned (.bool v1) ∧ Below w'.heap.size w' w'') := by
    rw [hv1]; exact fun w' hb => K1.out E code k w' (hop B3.out hb) (HS2.out.below (hop B3.out hb)) hl2
  have E2 : Hid (∀ w', Below w4.heap.size w4 w' → Calls Tryd.prog 12 #[.slice A key.length c, .slice B b.length d, .slice A2 32 c2] w' fun e w'' => e = .returned (.bool true) ∧ Below w'.heap.size w' w'') := by
    intro w' hb
    have := K1.out A2 M c2 w' (hop B3.out hb) (S2'.out.below hb) (by rw [N32.out]; omega)
    rw [decide_eq_true rfl, N32.out] at this
    exact this
  have E3 : Hid (∀ w', Below w4.heap.size w4 w' → Calls Tryd.prog 12 #[.slice A key.length c, .slice B b.length d, .slice A3 32 c3] w' fun e w'' => e = .returned (.bool v2) ∧ Below w'.heap.size w' w'') := by
    intro w' hb
    have := K1.out A3 D c3 w' (hop B3.out hb) (S3.out.below hb) (by rw [ND.out]; omega)
    rw [← hv2, ND.out] at this
    exact this
  have U1 := text_on (HS2.out.below B3.out) code.length k rfl
  have U2 := text_on S2'.out 32 c2 N32.out
  have U3 := text_on S3.out 32 c3 ND.out
  have bd : Below w4.heap.size w4 w4.drew := (Below.refl _ _).drew
  clear hv1 hv2 hw4 K1 S2' S3
  generalize (⟨code.toArray⟩ : ByteArray) = tc at hq1 U1
  generalize (⟨M.toArray⟩ : ByteArray) = tm at hq1 hq2 U2
  generalize (⟨D.toArray⟩ : ByteArray) = td at hq2 U3
  go_region_held_law (fun w' => Below w4.heap.size w4 w') (first | exact (Below.refl _ _).drew | assumption | (exact hop ‹Below w4.heap.size w4 _› (by assumption)))
    (first | (go_at_call 12; (first | (with_reducible refine (E1.out _ ?_).mono ?_) | (with_reducible refine (E2.out _ ?_).mono ?_) | (with_reducible refine (E3.out _ ?_).mono ?_)); (assumption); rintro e w5 ⟨rfl, hb5⟩))
  all_goals go_wp2_with fail
  all_goals go_ret
  all_goals exact ⟨rfl, hop B3.out (by assumption)⟩

set_option maxRecDepth 100000 in
set_option maxHeartbeats 2000000 in
theorem macChecks_above (A : Option Addr) (key : List UInt8) (c : Nat) (B : Option Addr) (b : List UInt8) (d : Nat) (E : Option Addr) (code : List UInt8) (k : Nat) (at_ : Int) (to : UInt8) (w : World) (hl : key.length ≤ 1000) (hs : Seen w A key) (hc : key.length ≤ c)
    (hl' : b.length ≤ 1000) (hs' : Seen w B b) (hd : b.length ≤ d) (hl2 : code.length ≤ 140737488351232) (hs2 : Seen w E code) (hat : 32 ≤ at_) (ht : Tabs w) :
    Calls Tryd.prog 5 #[.slice A key.length c, .slice B b.length d, .slice E code.length k, .int .i64 at_, .int .u8 (to.toNat : Int)] w fun e w' => e = .returned (.bool true) ∧ Below w.heap.size w w' := by
  have HS := Lib.hid hs
  have HS' := Lib.hid hs'
  have HS2 := Lib.hid hs2
  have HT := Lib.hid ht
  have n1 : ¬ (1000 : Int) < key.length := by omega
  have n2 : ¬ (1000 : Int) < b.length := by omega
  obtain ⟨i0, hi, hz0, hz1, hz2⟩ := info_parts info5
  clear hs hs' hs2 ht
  have n3 : 0 ≤ at_ := by omega
  have n4 : ¬ at_ < 32 := by omega
  go_enter Tryd.func5, Tryd.ntmps5
  go_wp2_with fail
  refine (awake_any _ HT.out).mono ?_
  rintro e w1 ⟨rfl, hb1⟩
  have B1 := Lib.hid hb1
  clear hb1
  go_wp2_with fail
  refine (refMac_any A key c B b d _ (HS.out.below B1.out) (by omega) (HS'.out.below B1.out) (by omega)).mono ?_
  rintro e w2 ⟨A2, c2, rfl, hm2⟩
  have B2 := Lib.hid (hop B1.out hm2.2)
  have N32 := Lib.hid (length_macL key b)
  have K1 : Hid (∀ (X : Option Addr) (x : List UInt8) (r : Nat) (w' : World), Below w.heap.size w w' → Seen w' X x → x.length ≤ 140737488351232 → Calls Tryd.prog 12 #[.slice A key.length c, .slice B b.length d, .slice X x.length r] w' fun e w'' => e = .returned (.bool (decide (macL key b = x))) ∧ Below w'.heap.size w' w'') :=
    fun X x r w' hb hx hn => check_any A key c B b d X x r w' (HS.out.below hb) hc (by omega) (HS'.out.below hb) hd (by omega) hx (by omega) (HT.out.below hb)
  have S2 := Lib.hid hm2.at_len.2
  clear hm2
  obtain ⟨M, hM⟩ : ∃ M, M = macL key b := ⟨_, rfl⟩
  rw [← hM] at N32 K1 S2
  clear hM
  have HO := Made.nil 5 w2
  go_wp2_with (at_builtin; refine wpList_append_bytes _ rfl _ _ 22 rfl 5 i0 (.int .u8 0) Tryd.underlying22 hi hz0 hz1 hz2 rfl w2 _ [] A2 M c2 rfl (by show Value.slice A2 32 c2 = .slice A2 M.length c2; rw [N32.out]) HO S2.out (by simp [N32.out]) ?_)
  intro v3 w3 HM3 _
  obtain ⟨A3, c3, rfl, HM4⟩ := made_len HM3 N32.out
  have HM5 := HM4
  have S3 := Lib.hid HM5.at_len.2
  have B3 := Lib.hid (hop B2.out HM5.2)
  have S2' := Lib.hid (S2.out.below HM5.2)
  have ND : Hid (M.length = 32) := HM5.at_len.1
  clear HM3 HM4 HM5 HO S2
  obtain ⟨D, hD⟩ : ∃ D, D = M := ⟨_, rfl⟩
  rw [← hD] at S3 ND
  clear hD
  obtain ⟨v1, hv1⟩ : ∃ v1, v1 = decide (M = code) := ⟨_, rfl⟩
  obtain ⟨v2, hv2⟩ : ∃ v2, v2 = decide (M = D) := ⟨_, rfl⟩
  have hq1 := text_beq code M
  have hq2 := text_beq D M
  rw [show decide (code = M) = v1 by rw [hv1]; exact decide_eq_decide.2 eq_comm] at hq1
  rw [show decide (D = M) = v2 by rw [hv2]; exact decide_eq_decide.2 eq_comm] at hq2
  go_wp2_with fail
  obtain ⟨w4, hw4⟩ : ∃ w4, w4 = w3 := ⟨_, rfl⟩
  rw [← hw4] at S3 B3 S2' ⊢
  have E1 : Hid (∀ w', Below w4.heap.size w4 w' → Calls Tryd.prog 12 #[.slice A key.length c, .slice B b.length d, .slice E code.length k] w' fun e w'' => e = .returned (.bool v1) ∧ Below w'.heap.size w' w'') := by
    rw [hv1]; exact fun w' hb => K1.out E code k w' (hop B3.out hb) (HS2.out.below (hop B3.out hb)) hl2
  have E2 : Hid (∀ w', Below w4.heap.size w4 w' → Calls Tryd.prog 12 #[.slice A key.length c, .slice B b.length d, .slice A2 32 c2] w' fun e w'' => e = .returned (.bool true) ∧ Below w'.heap.size w' w'') := by
    intro w' hb
    have := K1.out A2 M c2 w' (hop B3.out hb) (S2'.out.below hb) (by rw [N32.out]; omega)
    rw [decide_eq_true rfl, N32.out] at this
    exact this
  have E3 : Hid (∀ w', Below w4.heap.size w4 w' → Calls Tryd.prog 12 #[.slice A key.length c, .slice B b.length d, .slice A3 32 c3] w' fun e w'' => e = .returned (.bool v2) ∧ Below w'.heap.size w' w'') := by
    intro w' hb
    have := K1.out A3 D c3 w' (hop B3.out hb) (S3.out.below hb) (by rw [ND.out]; omega)
    rw [← hv2, ND.out] at this
    exact this
  have U1 := text_on (HS2.out.below B3.out) code.length k rfl
  have U2 := text_on S2'.out 32 c2 N32.out
  have U3 := text_on S3.out 32 c3 ND.out
  have bd : Below w4.heap.size w4 w4.drew := (Below.refl _ _).drew
  clear hv1 hv2 hw4 K1 S2' S3
  generalize (⟨code.toArray⟩ : ByteArray) = tc at hq1 U1
  generalize (⟨M.toArray⟩ : ByteArray) = tm at hq1 hq2 U2
  generalize (⟨D.toArray⟩ : ByteArray) = td at hq2 U3
  go_region_held_law (fun w' => Below w4.heap.size w4 w') (first | exact (Below.refl _ _).drew | assumption | (exact hop ‹Below w4.heap.size w4 _› (by assumption)))
    (first | (go_at_call 12; (first | (with_reducible refine (E1.out _ ?_).mono ?_) | (with_reducible refine (E2.out _ ?_).mono ?_) | (with_reducible refine (E3.out _ ?_).mono ?_)); (assumption); rintro e w5 ⟨rfl, hb5⟩))
  all_goals go_wp2_with fail
  all_goals go_ret
  all_goals exact ⟨rfl, hop B3.out (by assumption)⟩

set_option maxRecDepth 100000 in
set_option maxHeartbeats 2000000 in
theorem macChecks_there (A : Option Addr) (key : List UInt8) (c : Nat) (B : Option Addr) (b : List UInt8) (d : Nat) (E : Option Addr) (code : List UInt8) (k : Nat) (at_ : Int) (to : UInt8) (w : World) (hl : key.length ≤ 1000) (hs : Seen w A key) (hc : key.length ≤ c)
    (hl' : b.length ≤ 1000) (hs' : Seen w B b) (hd : b.length ≤ d) (hl2 : code.length ≤ 140737488351232) (hs2 : Seen w E code) (hat : 0 ≤ at_ ∧ at_ < 32) (ht : Tabs w) :
    Calls Tryd.prog 5 #[.slice A key.length c, .slice B b.length d, .slice E code.length k, .int .i64 at_, .int .u8 (to.toNat : Int)] w fun e w' => e = .returned (.bool true) ∧ Below w.heap.size w w' := by
  have HS := Lib.hid hs
  have HS' := Lib.hid hs'
  have HS2 := Lib.hid hs2
  have HT := Lib.hid ht
  have n1 : ¬ (1000 : Int) < key.length := by omega
  have n2 : ¬ (1000 : Int) < b.length := by omega
  obtain ⟨i0, hi, hz0, hz1, hz2⟩ := info_parts info5
  clear hs hs' hs2 ht
  obtain ⟨i, rfl⟩ : ∃ i : Nat, at_ = (i : Int) := ⟨at_.toNat, by omega⟩
  have hi32 : i < 32 := by omega
  have n3 : (i : Int) < 32 := by omega
  have n4 : to.toNat < 256 := to.toNat_lt
  go_enter Tryd.func5, Tryd.ntmps5
  go_wp2_with fail
  refine (awake_any _ HT.out).mono ?_
  rintro e w1 ⟨rfl, hb1⟩
  have B1 := Lib.hid hb1
  clear hb1
  go_wp2_with fail
  refine (refMac_any A key c B b d _ (HS.out.below B1.out) (by omega) (HS'.out.below B1.out) (by omega)).mono ?_
  rintro e w2 ⟨A2, c2, rfl, hm2⟩
  have B2 := Lib.hid (hop B1.out hm2.2)
  have N32 := Lib.hid (length_macL key b)
  have K1 : Hid (∀ (X : Option Addr) (x : List UInt8) (r : Nat) (w' : World), Below w.heap.size w w' → Seen w' X x → x.length ≤ 140737488351232 → Calls Tryd.prog 12 #[.slice A key.length c, .slice B b.length d, .slice X x.length r] w' fun e w'' => e = .returned (.bool (decide (macL key b = x))) ∧ Below w'.heap.size w' w'') :=
    fun X x r w' hb hx hn => check_any A key c B b d X x r w' (HS.out.below hb) hc (by omega) (HS'.out.below hb) hd (by omega) hx (by omega) (HT.out.below hb)
  have S2 := Lib.hid hm2.at_len.2
  clear hm2
  obtain ⟨M, hM⟩ : ∃ M, M = macL key b := ⟨_, rfl⟩
  rw [← hM] at N32 K1 S2
  clear hM
  have HO := Made.nil 5 w2
  go_wp2_with (at_builtin; refine wpList_append_bytes _ rfl _ _ 22 rfl 5 i0 (.int .u8 0) Tryd.underlying22 hi hz0 hz1 hz2 rfl w2 _ [] A2 M c2 rfl (by show Value.slice A2 32 c2 = .slice A2 M.length c2; rw [N32.out]) HO S2.out (by simp [N32.out]) ?_)
  intro v3 w3 HM3 _
  obtain ⟨A3, c3, rfl, HM4⟩ := made_len HM3 N32.out
  obtain ⟨g, rfl, ⟨y, hy⟩, hfr, HM5⟩ := HM4.set hi32 to
  have S3 := Lib.hid HM5.at_len.2
  have B3 := Lib.hid (hop B2.out HM5.2)
  have S2' := Lib.hid (S2.out.below HM5.2)
  have ND : Hid ((M.set i to).length = 32) := HM5.at_len.1
  clear HM3 HM4 HM5 HO S2
  obtain ⟨D, hD⟩ : ∃ D, D = (M.set i to) := ⟨_, rfl⟩
  rw [← hD] at S3 ND
  clear hD
  obtain ⟨v1, hv1⟩ : ∃ v1, v1 = decide (M = code) := ⟨_, rfl⟩
  obtain ⟨v2, hv2⟩ : ∃ v2, v2 = decide (M = D) := ⟨_, rfl⟩
  have hq1 := text_beq code M
  have hq2 := text_beq D M
  rw [show decide (code = M) = v1 by rw [hv1]; exact decide_eq_decide.2 eq_comm] at hq1
  rw [show decide (D = M) = v2 by rw [hv2]; exact decide_eq_decide.2 eq_comm] at hq2
  go_wp2_with fail
  obtain ⟨w4, hw4⟩ : ∃ w4, w4 = w3.setCell ⟨g, i, none⟩ (.int .u8 (to.toNat : Int)) := ⟨_, rfl⟩
  rw [← hw4] at S3 B3 S2' ⊢
  have E1 : Hid (∀ w', Below w4.heap.size w4 w' → Calls Tryd.prog 12 #[.slice A key.length c, .slice B b.length d, .slice E code.length k] w' fun e w'' => e = .returned (.bool v1) ∧ Below w'.heap.size w' w'') := by
    rw [hv1]; exact fun w' hb => K1.out E code k w' (hop B3.out hb) (HS2.out.below (hop B3.out hb)) hl2
  have E2 : Hid (∀ w', Below w4.heap.size w4 w' → Calls Tryd.prog 12 #[.slice A key.length c, .slice B b.length d, .slice A2 32 c2] w' fun e w'' => e = .returned (.bool true) ∧ Below w'.heap.size w' w'') := by
    intro w' hb
    have := K1.out A2 M c2 w' (hop B3.out hb) (S2'.out.below hb) (by rw [N32.out]; omega)
    rw [decide_eq_true rfl, N32.out] at this
    exact this
  have E3 : Hid (∀ w', Below w4.heap.size w4 w' → Calls Tryd.prog 12 #[.slice A key.length c, .slice B b.length d, .slice (some ⟨g, 0, none⟩) 32 c3] w' fun e w'' => e = .returned (.bool v2) ∧ Below w'.heap.size w' w'') := by
    intro w' hb
    have := K1.out _ D c3 w' (hop B3.out hb) (S3.out.below hb) (by rw [ND.out]; omega)
    rw [← hv2, ND.out] at this
    exact this
  have U1 := text_on (HS2.out.below B3.out) code.length k rfl
  have U2 := text_on S2'.out 32 c2 N32.out
  have U3 := text_on S3.out 32 c3 ND.out
  have bd : Below w4.heap.size w4 w4.drew := (Below.refl _ _).drew
  clear hv1 hv2 hw4 K1 S2' S3
  generalize (⟨code.toArray⟩ : ByteArray) = tc at hq1 U1
  generalize (⟨M.toArray⟩ : ByteArray) = tm at hq1 hq2 U2
  generalize (⟨D.toArray⟩ : ByteArray) = td at hq2 U3
  go_region_held_law (fun w' => Below w4.heap.size w4 w') (first | exact (Below.refl _ _).drew | assumption | (exact hop ‹Below w4.heap.size w4 _› (by assumption)))
    (first | (go_at_call 12; (first | (with_reducible refine (E1.out _ ?_).mono ?_) | (with_reducible refine (E2.out _ ?_).mono ?_) | (with_reducible refine (E3.out _ ?_).mono ?_)); (assumption); rintro e w5 ⟨rfl, hb5⟩))
  all_goals go_wp2_with fail
  all_goals go_ret
  all_goals exact ⟨rfl, hop B3.out (by assumption)⟩

theorem macChecks_walk (A : Option Addr) (key : List UInt8) (c : Nat) (B : Option Addr) (b : List UInt8) (d : Nat) (E : Option Addr) (code : List UInt8) (k : Nat) (at_ to : Int) (w : World) (hl : key.length ≤ 140737488351232) (hs : Seen w A key) (hc : key.length ≤ c)
    (hl' : b.length ≤ 140737488351232) (hs' : Seen w B b) (hd : b.length ≤ d) (hl2 : code.length ≤ 140737488351232) (hs2 : Seen w E code) (_ : -9223372036854775808 ≤ at_) (_ : at_ ≤ 9223372036854775807) (ht0 : 0 ≤ to) (ht1 : to ≤ 255) (ht : Tabs w) :
    Calls Tryd.prog 5 #[.slice A key.length c, .slice B b.length d, .slice E code.length k, .int .i64 at_, .int .u8 to] w fun e w' => e = .returned (.bool true) ∧ Below w.heap.size w w' := by
  obtain ⟨x, rfl⟩ : ∃ x : UInt8, to = (x.toNat : Int) := ⟨UInt8.ofNat to.toNat, by rw [UInt8.toNat_ofNat']; omega⟩
  by_cases h1 : 1000 < key.length ∨ 1000 < b.length
  · exact macChecks_long A key c B b d E code k at_ x w ht h1
  · have h2 : key.length ≤ 1000 := by omega
    have h3 : b.length ≤ 1000 := by omega
    by_cases h4 : at_ < 0
    · exact macChecks_below A key c B b d E code k at_ x w h2 hs hc h3 hs' hd hl2 hs2 h4 ht
    · by_cases h5 : 32 ≤ at_
      · exact macChecks_above A key c B b d E code k at_ x w h2 hs hc h3 hs' hd hl2 hs2 h5 ht
      · exact macChecks_there A key c B b d E code k at_ x w h2 hs hc h3 hs' hd hl2 hs2 ⟨by omega, by omega⟩ ht
end Go.Proofs.YtmmfnfndepijlaaDoor
