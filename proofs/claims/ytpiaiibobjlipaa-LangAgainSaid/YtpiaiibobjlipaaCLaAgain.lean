/-
  LangAgain answers true: what is parsed may be printed, and the print is parsed as the same, and printed so again. Condition: a string's length fits the memory.
-/
import Derived.Test.YtpiaiibobjlipaaCLaBack
import Derived.Test.YtpiaiibobjlipaaCPaFl
import Derived.Test.YtpiaiibobjlipaaCNmTab
namespace Go.Proofs.Ytpiaiibobjlipaa
open Go.RowKit
set_option maxRecDepth 100000 in
set_option maxHeartbeats 2000000 in
theorem langAgain_txt (l : Txt) (W : World) (hm : l.length ≤ 9223372036854775807) : Calls Try.prog 6 #[strV l] W fun e w' => e = .returned (.bool true) ∧ Below W.heap.size W w' := by
  have HA := Lib.hid (awake_any W)
  by_cases hl : 5000 < l.length
  · have hd : (5000 : Int) < (l.length : Int) := by omega
    have hdd : decide (5000 < l.length) = true := decide_eq_true hl
    clear hl
    go_enter Try.func6, Try.ntmps6
    go_wp2_with fail
    refine HA.out.mono ?_
    rintro e w1 ⟨rfl, hb1⟩
    go_wp2_with fail
    go_ret
    exact ⟨rfl, hb1⟩
  have hd : (l.length : Int) ≤ 5000 := by omega
  have hdd : decide (5000 < l.length) = false := decide_eq_false hl
  have HP1 := Lib.hid (fun w => parse_any ⟨l.toArray⟩ w (by simp [ByteArray.size]; omega))
  have e1 : (⟨l.toArray⟩ : ByteArray).data.toList = l := by simp
  rw [e1] at HP1
  have HG := Lib.hid (parse_good l)
  have HTX := Lib.hid (parse_text l HG.out.1)
  have HPC := Lib.hid (parse_cases l)
  obtain ⟨R, hR⟩ : ∃ R, R = parseT l := ⟨_, rfl⟩
  rw [← hR] at HP1 HG HTX HPC
  clear hR e1 hl
  obtain ⟨n, d1, d2, d3⟩ := R
  dsimp only at HG HTX
  go_enter Try.func6, Try.ntmps6
  go_wp2_with fail
  refine HA.out.mono ?_
  rintro e w1 ⟨rfl, hb1⟩
  go_wp2_with fail
  refine (HP1.out w1).mono ?_
  rintro e w2 ⟨A1, c1, rfl, hs2, hn2, hb2⟩
  dsimp only at hs2 hn2 ⊢
  have HB2 := Lib.hid (hop hb1 hb2)
  have HS2 := Lib.hid hs2
  obtain ⟨u2, hu2⟩ : ∃ u2, u2 = (w2.alloc (.cells #[.slice A1 n.length c1] 25)).alloc (.cells #[.int .i64 (d1 : Int), .int .i64 (d2 : Int), .int .i64 (d3 : Int)] 28) := ⟨_, rfl⟩
  have hbu : Below w2.heap.size w2 u2 := by rw [hu2]; exact ((Below.refl _ _).alloc (Nat.le_refl _) _).alloc (by simp) _
  have HXA : Hid (Blk u2 w2.heap.size [.slice A1 n.length c1] 25) := by rw [hu2]; exact Lib.hid ((Blk.new w2 _ _).alloc _)
  have HXD : Hid (Blk u2 (w2.heap.size + 1) [.int .i64 (d1 : Int), .int .i64 (d2 : Int), .int .i64 (d3 : Int)] 28) := by
    rw [hu2]
    have := Blk.new (w2.alloc (.cells #[.slice A1 n.length c1] 25)) [.int .i64 (d1 : Int), .int .i64 (d2 : Int), .int .i64 (d3 : Int)] 28
    rw [World.size_alloc] at this
    exact Lib.hid this
  have HBU := Lib.hid (hop HB2.out hbu)
  have HSU := Lib.hid (ScAt.below hbu HS2.out)
  have a2 := HXA.out.cell (i := 0) (by simp)
  have d2' := HXD.out.cell (i := 2) (by simp)
  simp only [List.getElem_cons_zero, List.getElem_cons_succ] at a2 d2'
  have HU := Lib.hid hu2
  rw [hu2] at a2 d2'
  clear hs2 hb1 hb2 hu2 hbu HA HP1 HS2
  by_cases h3 : d3 = 0
  rotate_left
  · have q1 : ¬ (d3 : Int) = 0 := by omega
    have q2 : ((d3 : Int) == 0) = false := beq_eq_false_iff_ne.2 q1
    go_wp2_with fail
    rw [← HU.out]
    go_ret
    exact ⟨rfl, HBU.out⟩
  obtain ⟨rfl, rfl⟩ : d1 = 0 ∧ d2 = 0 := by
    rcases HPC.out with ⟨s, h⟩ | ⟨d, h, hd⟩
    · injection h with _ h
      injection h with h1 h
      injection h with h2 _
      exact ⟨h1, h2⟩
    · injection h with _ h
      exact absurd (by rw [← h]; exact h3) hd
  subst h3
  rw [show ((0 : Nat) : Int) = (0 : Int) from rfl] at d2' a2 HU HXD
  have HX : Hid (∀ w, Below u2.heap.size u2 w → w.cell? ⟨w2.heap.size, 0, none⟩ = some (.slice A1 n.length c1)) := Lib.hid (fun w hw => (HXA.out.below hw HXA.out.lt).cell (i := 0) (by simp))
  have HS : Hid (∀ w, Below u2.heap.size u2 w → ScAt w (fun b => b < w1.heap.size) A1 n) := Lib.hid (fun w hw => HSU.out.below hw)
  have HP := Lib.hid (pprint_text n u2 _ A1 c1 HSU.out (by omega) HG.out.1 HTX.out)
  have HPP : Hid ((scT n).length ≤ 4096 → parseT (scT n) = (normS n, (0, 0, 0))) := Lib.hid (parse_print HG.out.1)
  rw [HG.out.2] at HPP
  obtain ⟨t, ht⟩ : ∃ t, t = scT n := ⟨_, rfl⟩
  rw [← ht] at HP HPP HTX
  have HT := Lib.hid ht
  clear ht
  go_wp2_with fail
  rw [← HU.out]
  refine HP.out.mono ?_
  rintro e w3 ⟨rfl, hb3⟩
  have HB3 := Lib.hid hb3
  have x3 := HX.out w3 hb3
  have HM := Lib.hid (pmay_any n w3 _ A1 c1 (HS.out w3 hb3) (by omega))
  rw [HG.out.1] at HM
  clear hb3 a2 d2' HP
  by_cases hlen : 4096 < t.length
  · have hd : (4096 : Int) < (t.length : Int) := by omega
    have hdd : decide (4096 < t.length) = true := decide_eq_true hlen
    clear hlen
    go_wp2_with fail
    refine HM.out.mono ?_
    rintro e w4 ⟨rfl, hb4⟩
    have HB4 := Lib.hid (hop HB3.out hb4)
    have x4 := HX.out w4 HB4.out
    have HM4 := Lib.hid (pmay_any n w4 _ A1 c1 (HS.out w4 HB4.out) (by omega))
    rw [HG.out.1] at HM4
    clear hb4 x3
    go_wp2_with fail
    refine HM4.out.mono ?_
    rintro e w5 ⟨rfl, hb5⟩
    go_wp2_with fail
    go_ret
    have hb := hop HB4.out hb5
    exact ⟨rfl, hop HBU.out hb⟩
  have hd3 : (t.length : Int) ≤ 4096 := by omega
  have hdd3 : decide (4096 < t.length) = false := decide_eq_false hlen
  have HPA := Lib.hid (fun w => parse_any ⟨t.toArray⟩ w (by have := HTX.out; simp [ByteArray.size]; omega))
  have e1 : (⟨t.toArray⟩ : ByteArray).data.toList = t := by simp
  rw [e1, HPP.out (by omega)] at HPA
  clear e1 hlen HPP
  go_wp2_with fail
  refine HM.out.mono ?_
  rintro e w4 ⟨rfl, hb4⟩
  have HB4 := Lib.hid (hop HB3.out hb4)
  have x4 := HX.out w4 HB4.out
  clear hb4 x3
  go_wp2_with fail
  refine (HPA.out w4).mono ?_
  rintro e w5 ⟨A2, c2, rfl, hs5, hn5, hb5⟩
  dsimp only at hs5 hn5 ⊢
  have HB5 := Lib.hid (hop HB4.out hb5)
  have HS5 := Lib.hid hs5
  obtain ⟨u5, hu5⟩ : ∃ u5, u5 = (w5.alloc (.cells #[.slice A2 n.length c2] 25)).alloc (.cells #[.int .i64 0, .int .i64 0, .int .i64 0] 28) := ⟨_, rfl⟩
  have hbu : Below w5.heap.size w5 u5 := by rw [hu5]; exact ((Below.refl _ _).alloc (Nat.le_refl _) _).alloc (by simp) _
  have HXB : Hid (Blk u5 w5.heap.size [.slice A2 n.length c2] 25) := by rw [hu5]; exact Lib.hid ((Blk.new w5 _ _).alloc _)
  have HXE : Hid (Blk u5 (w5.heap.size + 1) [.int .i64 0, .int .i64 0, .int .i64 0] 28) := by
    rw [hu5]
    have := Blk.new (w5.alloc (.cells #[.slice A2 n.length c2] 25)) [.int .i64 0, .int .i64 0, .int .i64 0] 28
    rw [World.size_alloc] at this
    exact Lib.hid this
  have HBU5 := Lib.hid (hop HB5.out hbu)
  have HS6 := Lib.hid (ScAt.below hbu HS5.out)
  have HSC := Lib.hid (schemas_any n n u5 _ _ A1 A2 c1 c2 (HS.out u5 HBU5.out) HS6.out (by omega))
  rw [eqS_self] at HSC
  have a0 := HX.out u5 HBU5.out
  have b0 := HXB.out.cell (i := 0) (by simp)
  simp only [List.getElem_cons_zero] at b0
  have HU5 := Lib.hid hu5
  rw [hu5] at a0 b0
  clear hs5 hb5 hu5 hbu x4 HPA HM
  go_wp2_with fail
  rw [← HU5.out]
  refine HSC.out.mono ?_
  rintro e w6 ⟨rfl, hb6⟩
  have g2 := (HXE.out.below hb6 HXE.out.lt).cell (i := 2) (by simp)
  have g0 := (HXB.out.below hb6 HXB.out.lt).cell (i := 0) (by simp)
  simp only [List.getElem_cons_succ, List.getElem_cons_zero] at g2 g0
  have HB6 := Lib.hid (hop HBU5.out hb6)
  have HP2 := Lib.hid (pprint_text n w6 _ A2 c2 (HS6.out.below hb6) (by omega) HG.out.1 (by rw [← HT.out]; exact HTX.out))
  rw [← HT.out] at HP2
  clear hb6
  go_wp2_with fail
  refine HP2.out.mono ?_
  rintro e w7 ⟨rfl, hb7⟩
  have hb := hop HB6.out hb7
  go_wp2_with fail
  go_ret
  exact ⟨by simp, hop HBU.out hb⟩
theorem langAgain_walk (s : ByteArray) (w : World) (hm : s.size ≤ 140737488351232) : Calls Try.prog 6 #[.string s] w fun e w' => e = .returned (.bool true) ∧ Below w.heap.size w w' := by
  have h := langAgain_txt s.data.toList w (by rw [size_list]; omega)
  have e : strV s.data.toList = .string s := by show Value.string ⟨s.data.toList.toArray⟩ = _; simp
  rw [e] at h; exact h
end Go.Proofs.Ytpiaiibobjlipaa
