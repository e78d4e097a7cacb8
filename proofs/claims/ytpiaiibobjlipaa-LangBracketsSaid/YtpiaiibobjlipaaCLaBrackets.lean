/-
  LangBrackets answers true: brackets around an expression change nothing of it, unless too many are open. Condition: a string's length fits the memory.
-/
import Derived.Test.YtpiaiibobjlipaaCLpTm
import Derived.Test.YtpiaiibobjlipaaCPaFl
import Derived.Test.YtpiaiibobjlipaaCNmTab
namespace Go.Proofs.Ytpiaiibobjlipaa
open Go.RowKit
set_option maxRecDepth 100000 in
set_option maxHeartbeats 2000000 in
theorem langBrackets_txt (l : Txt) (W : World) (hm : l.length ≤ 9223372036854775807) : Calls Try.prog 7 #[strV l] W fun e w' => e = .returned (.bool true) ∧ Below W.heap.size W w' := by
  have HA := Lib.hid (fun W => awake_any W)
  by_cases hl : 1000 < l.length
  · have hd : (1000 : Int) < (l.length : Int) := by omega
    have hdd : decide (1000 < l.length) = true := decide_eq_true hl
    clear hl
    go_enter Try.func7, Try.ntmps7
    go_wp2_with fail
    refine (HA.out _).mono ?_
    rintro e w1 ⟨rfl, hb1⟩
    go_wp2_with fail
    go_ret
    exact ⟨rfl, hb1⟩
  · have hd : (l.length : Int) ≤ 1000 := by omega
    have hdd : decide (1000 < l.length) = false := decide_eq_false hl
    have hh : headT.length = 31 := by decide
    obtain ⟨T1, hT1⟩ : ∃ T1, T1 = headT ++ l := ⟨_, rfl⟩
    obtain ⟨T2, hT2⟩ : ∃ T2, T2 = headT ++ [40] := ⟨_, rfl⟩
    obtain ⟨T3, hT3⟩ : ∃ T3, T3 = T2 ++ l := ⟨_, rfl⟩
    obtain ⟨T4, hT4⟩ : ∃ T4, T4 = T3 ++ [41] := ⟨_, rfl⟩
    have J1 : ∀ W, (Op.stringOp .add ⟨#[116, 121, 112, 101, 32, 97, 32, 114, 101, 108, 97, 116, 105, 111, 110, 32, 98, 58, 32, 97, 32, 100, 101, 102, 105, 110, 101, 32, 99, 58, 32]⟩ ⟨l.toArray⟩).run Try.prog W = .ok (strV T1) W := fun W => by rw [hT1]; exact plus headT l (by omega) (by omega) W
    have J2 : ∀ W, (Op.stringOp .add ⟨#[116, 121, 112, 101, 32, 97, 32, 114, 101, 108, 97, 116, 105, 111, 110, 32, 98, 58, 32, 97, 32, 100, 101, 102, 105, 110, 101, 32, 99, 58, 32]⟩ ⟨#[40]⟩).run Try.prog W = .ok (strV T2) W := fun W => by rw [hT2]; exact plus headT [40] (by omega) (by simp) W
    have J3 : ∀ W, (Op.stringOp .add ⟨T2.toArray⟩ ⟨l.toArray⟩).run Try.prog W = .ok (strV T3) W := fun W => by rw [hT3]; exact plus T2 l (by rw [hT2]; simp; omega) (by omega) W
    have J4 : ∀ W, (Op.stringOp .add ⟨T3.toArray⟩ ⟨#[41]⟩).run Try.prog W = .ok (strV T4) W := fun W => by rw [hT4]; exact plus T3 [41] (by rw [hT3, hT2]; simp; omega) (by simp) W
    have hl1 : T1.length ≤ 5000 := by rw [hT1, List.length_append, hh]; omega
    have hl4 : T4.length ≤ 5000 := by rw [hT4, hT3, hT2]; simp; omega
    have HP1 := Lib.hid (fun w => parse_any ⟨T1.toArray⟩ w (by simp [ByteArray.size]; omega))
    have HP2 := Lib.hid (fun w => parse_any ⟨T4.toArray⟩ w (by simp [ByteArray.size]; omega))
    have e1 : (⟨T1.toArray⟩ : ByteArray).data.toList = T1 := by simp
    have e4 : (⟨T4.toArray⟩ : ByteArray).data.toList = T4 := by simp
    rw [e1] at HP1
    rw [e4] at HP2
    have HBR : Hid (∀ s, parseT T1 = (s, (0, 0, 0)) → s.length = 1 → (∀ x ∈ s, x.rels.length = 2) → (parseT T4).2.2.2 = 9 ∨ parseT T4 = (s, (0, 0, 0))) := Lib.hid (fun s h1 h2 h3 => by
      have h := brackets l (by omega) s (by rw [← hT1]; exact h1) h2 h3
      have e : T4 = headT ++ ([40] ++ (l ++ [41])) := by rw [hT4, hT3, hT2]; simp
      rw [e]; exact h)
    have HPC := Lib.hid (parse_cases T1)
    obtain ⟨R1, hR1⟩ : ∃ R1, R1 = parseT T1 := ⟨_, rfl⟩
    obtain ⟨R2, hR2⟩ : ∃ R2, R2 = parseT T4 := ⟨_, rfl⟩
    rw [← hR1] at HP1 HBR HPC
    rw [← hR2] at HP2 HBR
    clear hT1 hT2 hT3 hT4 hl1 hl4 e1 e4 hR1 hR2 hh hl
    obtain ⟨s1, x1, x2, x3⟩ := R1
    obtain ⟨s2, y1, y2, y3⟩ := R2
    go_enter Try.func7, Try.ntmps7
    go_wp2_with fail
    refine (HA.out _).mono ?_
    rintro e w1 ⟨rfl, hb1⟩
    go_wp2_with fail
    refine (HP1.out _).mono ?_
    rintro e w2 ⟨A1, c1, rfl, hs1, hn1, hb2⟩
    dsimp only
    have HS1 := Lib.hid hs1
    have HN1 := Lib.hid hn1
    have HB2 := Lib.hid (hop hb1 hb2)
    obtain ⟨u2, hu2⟩ : ∃ u2, u2 = (w2.alloc (.cells #[.slice A1 s1.length c1] 25)).alloc (.cells #[.int .i64 (x1 : Int), .int .i64 (x2 : Int), .int .i64 (x3 : Int)] 28) := ⟨_, rfl⟩
    have hbu2 : Below w2.heap.size w2 u2 := by rw [hu2]; exact ((Below.refl _ _).alloc (Nat.le_refl _) _).alloc (by simp) _
    have HXA2 : Hid (Blk u2 w2.heap.size [.slice A1 s1.length c1] 25) := by rw [hu2]; exact Lib.hid ((Blk.new w2 _ _).alloc _)
    have HXD2 : Hid (Blk u2 (w2.heap.size + 1) [.int .i64 (x1 : Int), .int .i64 (x2 : Int), .int .i64 (x3 : Int)] 28) := by
      rw [hu2]
      have := Blk.new (w2.alloc (.cells #[.slice A1 s1.length c1] 25)) [.int .i64 (x1 : Int), .int .i64 (x2 : Int), .int .i64 (x3 : Int)] 28
      rw [World.size_alloc] at this
      exact Lib.hid this
    have HBU2 := Lib.hid hbu2
    have HU2 := Lib.hid hu2
    clear hs1 hn1 hb1 hb2 hu2 hbu2
    go_wp2_with fail
    rw [← HU2.out]
    refine (HP2.out _).mono ?_
    rintro e w3 ⟨A2, c2, rfl, hs2, hn2, hb3⟩
    dsimp only
    obtain ⟨u3, hu3⟩ : ∃ u3, u3 = (w3.alloc (.cells #[.slice A2 s2.length c2] 25)).alloc (.cells #[.int .i64 (y1 : Int), .int .i64 (y2 : Int), .int .i64 (y3 : Int)] 28) := ⟨_, rfl⟩
    have hbw3 : Below w3.heap.size w3 u3 := by rw [hu3]; exact ((Below.refl _ _).alloc (Nat.le_refl _) _).alloc (by simp) _
    have hbu3 : Below u2.heap.size u2 u3 := hop hb3 hbw3
    have HXA3 := Lib.hid (HXA2.out.below hbu3 HXA2.out.lt)
    have HXD3 := Lib.hid (HXD2.out.below hbu3 HXD2.out.lt)
    have HXB3 : Hid (Blk u3 w3.heap.size [.slice A2 s2.length c2] 25) := by rw [hu3]; exact Lib.hid ((Blk.new w3 _ _).alloc _)
    have HXE3 : Hid (Blk u3 (w3.heap.size + 1) [.int .i64 (y1 : Int), .int .i64 (y2 : Int), .int .i64 (y3 : Int)] 28) := by
      rw [hu3]
      have := Blk.new (w3.alloc (.cells #[.slice A2 s2.length c2] 25)) [.int .i64 (y1 : Int), .int .i64 (y2 : Int), .int .i64 (y3 : Int)] 28
      rw [World.size_alloc] at this
      exact Lib.hid this
    have HBU3 := Lib.hid (hop HBU2.out hbu3)
    have HS3 := Lib.hid (HS1.out.below (hop HBU2.out hbu3))
    have HT3 := Lib.hid (ScAt.below hbw3 hs2)
    have HB3 := Lib.hid (HB2.out.trans (HBU3.out.mono HB2.out.size))
    have a0 := HXA3.out.cell (i := 0) (by simp)
    have b0 := HXB3.out.cell (i := 0) (by simp)
    have d2 := HXD3.out.cell (i := 2) (by simp)
    have f2 := HXE3.out.cell (i := 2) (by simp)
    simp only [List.getElem_cons_succ, List.getElem_cons_zero] at a0 b0 d2 f2
    have HU3 : Hid (u3 = (w3.alloc (.cells #[.slice A2 s2.length c2] 25)).alloc (.cells #[.int .i64 (y1 : Int), .int .i64 (y2 : Int), .int .i64 (y3 : Int)] 28)) := Lib.hid hu3
    rw [hu3] at a0 b0 d2 f2
    clear hs2 hn2 hb3 hbw3 hbu3 hu3
    by_cases hx3 : x3 = 0
    rotate_left
    · have q1 : ¬ (x3 : Int) = 0 := by omega
      have q2 : ((x3 : Int) == 0) = false := beq_eq_false_iff_ne.2 q1
      go_wp2_with fail
      rw [← HU3.out]
      go_ret
      exact ⟨rfl, HB3.out⟩
    have hx : x1 = 0 ∧ x2 = 0 := by
      rcases HPC.out with ⟨s, h⟩ | ⟨d, h, hd⟩
      · injection h with _ h
        injection h with h1 h
        injection h with h2 _
        exact ⟨h1, h2⟩
      · injection h with _ h
        exact absurd (by rw [← h]; exact hx3) hd
    obtain ⟨rfl, rfl⟩ := hx
    subst hx3
    rw [show ((0 : Nat) : Int) = (0 : Int) from rfl] at d2
    by_cases hl1 : s1.length = 1
    rotate_left
    · have q1 : ¬ (s1.length : Int) = 1 := by omega
      have q2 : ((s1.length : Int) == 1) = false := beq_eq_false_iff_ne.2 q1
      clear hl1
      go_wp2_with fail
      rw [← HU3.out]
      go_ret
      exact ⟨rfl, HB3.out⟩
    obtain ⟨t, rfl⟩ : ∃ t, s1 = [t] := by
      match s1, hl1 with
      | [a], _ => exact ⟨a, rfl⟩
    rw [show [t].length = 1 from rfl] at a0
    obtain ⟨b, off, B, dd, rfl, _, _, hc⟩ := RowAt.ty HS3.out (j := 0) (by simp)
    obtain ⟨r0, r1⟩ := hc u3 (Below.refl _ _)
    simp only [List.getElem_cons_zero, Nat.zero_mul, Nat.add_zero] at r0 r1
    rw [HU3.out] at r0 r1
    clear hc
    by_cases hr2 : t.rels.length = 2
    rotate_left
    · have q1 : ¬ (t.rels.length : Int) = 2 := by omega
      have q2 : ((t.rels.length : Int) == 2) = false := beq_eq_false_iff_ne.2 q1
      clear hr2
      go_wp2_with fail
      rw [← HU3.out]
      go_ret
      exact ⟨rfl, HB3.out⟩
    have hbr := HBR.out [t] rfl rfl (fun x hx => by rw [List.mem_singleton.1 hx]; exact hr2)
    have q3 : (t.rels.length : Int) = 2 := by omega
    have q4 : ((t.rels.length : Int) == 2) = true := beq_iff_eq.2 q3
    clear hr2 hl1
    rcases hbr with h9 | heq
    · obtain rfl : y3 = 9 := h9
      rw [show ((9 : Nat) : Int) = (9 : Int) from rfl] at a0 b0 d2 f2 r0 r1 HU3
      go_wp2_with fail
      rw [← HU3.out]
      go_ret
      exact ⟨rfl, HB3.out⟩
    · injection heq with h1 h2
      injection h2 with h2 h3
      injection h3 with h3 h4
      subst h1 h2 h3 h4
      have HSE := Lib.hid (schemas_any [t] [t] u3 _ _ (some ⟨b, off, none⟩) A2 c1 c2 HS3.out HT3.out (by simp))
      rw [eqS_self] at HSE
      rw [show ((0 : Nat) : Int) = (0 : Int) from rfl, show [t].length = 1 from rfl] at a0 b0 d2 f2 r0 r1 HU3
      rw [show [t].length = 1 from rfl] at HSE
      go_wp2_with fail
      rw [← HU3.out]
      refine HSE.out.mono ?_
      rintro e w4 ⟨rfl, hb4⟩
      have g2 := (HXE3.out.below hb4 HXE3.out.lt).cell (i := 2) (by simp)
      simp only [List.getElem_cons_succ, List.getElem_cons_zero] at g2
      rw [show ((0 : Nat) : Int) = (0 : Int) from rfl] at g2
      have HB4 := Lib.hid (HB3.out.trans (hb4.mono HB3.out.size))
      clear hb4
      go_wp2_with fail
      go_ret
      exact ⟨rfl, HB4.out⟩
theorem langBrackets_walk (s : ByteArray) (w : World) (hm : s.size ≤ 140737488351232) : Calls Try.prog 7 #[.string s] w fun e w' => e = .returned (.bool true) ∧ Below w.heap.size w w' := by
  have h := langBrackets_txt s.data.toList w (by rw [size_list]; omega)
  have e : strV s.data.toList = .string s := by show Value.string ⟨s.data.toList.toArray⟩ = _; simp
  rw [e] at h; exact h
end Go.Proofs.Ytpiaiibobjlipaa
