/-
  The document's Insert. Conditions: the rows are there; at most 100,000 tuples.
-/
import Derived.Test.YtehabjiacgibpaaGreatCTuA
namespace Go.Proofs.YtehabjiacgibpaaGreat
open Go.RowKit
theorem headN_step {o : List Tup} {t : Tup} {k : Nat} (h : k < o.length) (hl : lessT o[k] t = true) : Ord.headN lessT t (o.drop k) = Ord.headN lessT t (o.drop (k + 1)) + 1 := by
  unfold Ord.headN
  rw [List.drop_eq_getElem_cons h, List.takeWhile_cons, if_pos hl, List.length_cons]
theorem headN_stop {o : List Tup} {t : Tup} {k : Nat} (h : k < o.length) (hl : lessT o[k] t = false) : Ord.headN lessT t (o.drop k) = 0 := by
  unfold Ord.headN
  rw [List.drop_eq_getElem_cons h, List.takeWhile_cons, if_neg (by rw [hl]; decide)]
  rfl
theorem ins_had {o : List Tup} {t : Tup} (h : decide (t ∈ o) = true) : Ord.ins lessT o t = o := by
  unfold Ord.ins
  rw [if_pos (of_decide_eq_true h)]
theorem ins_at {o : List Tup} {t : Tup} (h : decide (t ∈ o) = false) {k : Nat} (hk : Ord.headN lessT t o = k) : Ord.ins lessT o t = o.take k ++ t :: o.drop k := by
  unfold Ord.ins
  rw [if_neg (of_decide_eq_false h), hk]
theorem insAll_take {more l : List Tup} {j : Nat} (h : j < more.length) : Ord.insAll lessT l (more.take (j + 1)) = Ord.ins lessT (Ord.insAll lessT l (more.take j)) more[j] := by
  unfold Ord.insAll
  rw [List.take_succ_eq_append_getElem h, List.foldl_append]
  rfl
structure OutAt (W : World) (o : List Tup) (A : Option Addr) (n c : Nat) (wr : World) : Prop where
  len : n = o.length
  own : wr.ownsRow W.heap.size 34 6 (.slice A n c) n (o.flatMap encT)
  below : Below W.heap.size W wr
  ok : ∀ t ∈ o, okT t
theorem OutAt.keep {W wr w' : World} {o : List Tup} {A : Option Addr} {n c : Nat} (h : OutAt W o A n c wr) (hb : Below wr.heap.size wr w') : OutAt W o A n c w' := ⟨h.len, own_keep h.own hb, hop h.below hb, h.ok⟩
theorem OutAt.row {W wr : World} {o : List Tup} {A : Option Addr} {n c : Nat} (h : OutAt W o A n c wr) : TuR wr A o := .of_own h.len h.own h.ok
theorem own_apart {w w' : World} {base : Nat} {e e' : TypeId} {s s' n n' : Nat} {v v' : Value} {xs xs' : List Value} (h1 : w.ownsRow base e s v n xs) (h2 : w'.ownsRow w.heap.size e' s' v' n' xs') : v'.ownBlock = none ∨ v'.ownBlock ≠ v.ownBlock := by
  cases hv : v'.ownBlock with
  | none => exact .inl rfl
  | some g =>
    refine .inr fun h => ?_
    have a := (h2.lt g hv).1
    have b := (h1.lt g h.symm).2
    omega
set_option maxRecDepth 100000 in
set_option maxHeartbeats 8000000 in
theorem refInsert_any (l more : List Tup) (A B : Option Addr) (c d : Nat) (W : World) (h : TuR W A l) (h' : TuR W B more) (hl : l.length ≤ 100000) (hg : more.length ≤ 100000) :
    Calls Tryz.prog 7 #[.slice A l.length c, .slice B more.length d] W (TupsP W (Ord.insAll lessT l more)) := by
  obtain ⟨iT, zT, hRW⟩ := rowTu
  have HRW := Lib.hid hRW
  have HR := Lib.hid h
  have HG := Lib.hid h'
  clear h h' hRW
  go_enter Tryz.func7, Tryz.ntmps7
  go_wp2_with (at_builtin; refine wpList_tups0 rfl (.const (.slice none 0 0)) (.tmp 10) rfl rfl rfl rfl HR.out (by omega) ?_; intro A1 c1 w1 ho1 hb1)
  have HO1 : Hid (OutAt W l A1 l.length c1 w1) := Lib.hid ⟨rfl, ho1, hb1, fun t ht => HR.out.ok ht⟩
  clear ho1 hb1
  go_loopw [5, 6] (fun v i wr => ∃ (j : Nat) (o : List Tup) (A' : Option Addr) (n c' : Nat), j ≤ more.length ∧ i = .int .i64 j ∧ v = .slice A' n c' ∧ Hid (OutAt W o A' n c' wr) ∧ Hid (o = Ord.insAll lessT l (more.take j) ∧ n ≤ l.length + j)) (fun _ i _ => more.length - (intOf i).toNat)
  case atStart => exact ⟨0, l, A1, l.length, c1, by omega, rfl, rfl, HO1, Lib.hid ⟨rfl, by omega⟩⟩
  case round =>
    obtain ⟨j, o, A', n, c', hj, rfl, rfl, HO, HI⟩ := hrel
    by_cases hlt : j < more.length
    · obtain ⟨b, off, hB, hat⟩ := HG.out.addr (by omega)
      obtain ⟨q0, q1, q2, q3, q4, q5, hq, hc⟩ := hat j hlt
      have HAT := Lib.hid hc
      obtain ⟨v, hv⟩ : ∃ v, decide (more[j] ∈ o) = v := ⟨_, rfl⟩
      have HH : Hid (Calls Tryz.prog 15 #[.slice A' n c', .agg #[strV q0, strV q1, strV q2, strV q3, strV q4, strV q5]] wr fun e w' => e = .returned (.bool v) ∧ Below wr.heap.size wr w') := Lib.hid (by
        rw [HO.out.len]
        exact has_tup o more[j] hq A' c' wr HO.out.row (by have := HI.out.2; have := HO.out.len; omega) hv)
      have HQ := Lib.hid hq
      have HVV := Lib.hid hv
      subst hB
      obtain ⟨z0, z1, z2, z3, z4, z5⟩ := hc wr HO.out.below
      clear hc hq hv hat
      go_wp2_with fail
      refine HH.out.mono ?_
      rintro e w2 ⟨rfl, hb2⟩
      have HO2 := Lib.hid (HO.out.keep hb2)
      clear z0 z1 z2 z3 z4 z5 hb2
      cases v with
      | true =>
        go_wp2_with fail
        go_roundw
        case rel => exact ⟨j + 1, o, A', n, c', by omega, by go_num, rfl, HO2, Lib.hid ⟨by rw [insAll_take hlt, ← HI.out.1, ins_had HVV.out], by have := HI.out.2; omega⟩⟩
        case measure => simp [intOf]; omega
      | false =>
        have HNL : Hid (n ≤ 200000) := Lib.hid (by have := HI.out.2; omega)
        go_wp2_with fail
        go_loopw [8] (fun ki wr => ∃ k : Nat, k ≤ n ∧ ki = .int .i64 k ∧ Hid (Ord.headN lessT more[j] o = k + Ord.headN lessT more[j] (o.drop k)) ∧ Hid (Below w2.heap.size w2 wr)) (fun ki _ => n - (intOf ki).toNat)
        case atStart => exact ⟨0, by omega, rfl, Lib.hid (by rw [List.drop_zero, Nat.zero_add]), Lib.hid (Below.refl _ _)⟩
        case round =>
          obtain ⟨k, hk, rfl, HH2, BW⟩ := hrel
          have hrow := HO2.out.row
          have hn9 : n ≤ 200000 := HNL.out
          by_cases hkl : k < n
          · have hko : k < o.length := by rw [← HO2.out.len]; exact hkl
            obtain ⟨b2, off2, hA2, hat2⟩ := hrow.addr (by omega)
            obtain ⟨p0, p1, p2, p3, p4, p5, hp, hc2⟩ := hat2 k hko
            have hi1 : (k : Int) < (n : Int) := by omega
            obtain ⟨lv, hlv⟩ : ∃ lv, lessT o[k] more[j] = lv := ⟨_, rfl⟩
            have HL : Hid (∀ w, Calls Tryz.prog 20 #[.agg #[strV p0, strV p1, strV p2, strV p3, strV p4, strV p5], .agg #[strV q0, strV q1, strV q2, strV q3, strV q4, strV q5]] w fun e w' => e = .returned (.bool lv) ∧ Below w.heap.size w w') := Lib.hid (fun w => by
              have h := refLess_any p0 p1 p2 p3 p4 p5 q0 q1 q2 q3 q4 q5 w
              rw [hp, HQ.out] at hlv
              rw [show lessF [p0, p1, p2, p3, p4, p5] [q0, q1, q2, q3, q4, q5] = lv from hlv] at h
              exact h)
            have HLV := Lib.hid hlv
            have bd := Below.refl wr.heap.size wr
            have hcp := fun w (hw : Below wr.heap.size wr w) => hc2 w (hop BW.out hw)
            have hcq := fun w (hw : Below wr.heap.size wr w) => HAT.out w (hop HO2.out.below (hop BW.out hw))
            have y0 : ∀ w, Below wr.heap.size wr w → w.cell? ⟨b2, off2 + k * 6, none⟩ = some (strV p0) := fun w hw => (hcp w hw).1
            have y1 : ∀ w, Below wr.heap.size wr w → w.cell? ⟨b2, off2 + k * 6 + 1, none⟩ = some (strV p1) := fun w hw => (hcp w hw).2.1
            have y2 : ∀ w, Below wr.heap.size wr w → w.cell? ⟨b2, off2 + k * 6 + 2, none⟩ = some (strV p2) := fun w hw => (hcp w hw).2.2.1
            have y3 : ∀ w, Below wr.heap.size wr w → w.cell? ⟨b2, off2 + k * 6 + 3, none⟩ = some (strV p3) := fun w hw => (hcp w hw).2.2.2.1
            have y4 : ∀ w, Below wr.heap.size wr w → w.cell? ⟨b2, off2 + k * 6 + 4, none⟩ = some (strV p4) := fun w hw => (hcp w hw).2.2.2.2.1
            have y5 : ∀ w, Below wr.heap.size wr w → w.cell? ⟨b2, off2 + k * 6 + 5, none⟩ = some (strV p5) := fun w hw => (hcp w hw).2.2.2.2.2
            have u0 : ∀ w, Below wr.heap.size wr w → w.cell? ⟨b, off + j * 6, none⟩ = some (strV q0) := fun w hw => (hcq w hw).1
            have u1 : ∀ w, Below wr.heap.size wr w → w.cell? ⟨b, off + j * 6 + 1, none⟩ = some (strV q1) := fun w hw => (hcq w hw).2.1
            have u2 : ∀ w, Below wr.heap.size wr w → w.cell? ⟨b, off + j * 6 + 2, none⟩ = some (strV q2) := fun w hw => (hcq w hw).2.2.1
            have u3 : ∀ w, Below wr.heap.size wr w → w.cell? ⟨b, off + j * 6 + 3, none⟩ = some (strV q3) := fun w hw => (hcq w hw).2.2.2.1
            have u4 : ∀ w, Below wr.heap.size wr w → w.cell? ⟨b, off + j * 6 + 4, none⟩ = some (strV q4) := fun w hw => (hcq w hw).2.2.2.2.1
            have u5 : ∀ w, Below wr.heap.size wr w → w.cell? ⟨b, off + j * 6 + 5, none⟩ = some (strV q5) := fun w hw => (hcq w hw).2.2.2.2.2
            subst hA2
            clear hc2 hat2 hp hlv hcp hcq hrow
            cases lv with
            | true =>
              have HN : Hid (Ord.headN lessT more[j] o = k + 1 + Ord.headN lessT more[j] (o.drop (k + 1))) := Lib.hid (by rw [HH2.out, headN_step hko HLV.out]; omega)
              go_wp2_with fail
              go_region_held_law (fun w' => Below wr.heap.size wr w') (first | exact bd.drew | exact bd | assumption)
                (first
                  | (go_at_call 20; refine (HL.out _).mono ?_; rintro e w3 ⟨rfl, hb3⟩; have B3 : Below wr.heap.size wr w3 := hop bd.drew hb3; clear hb3))
              go_wp2_with fail
              go_roundw
              case rel => exact ⟨k + 1, by omega, by go_num, HN, Lib.hid (hop BW.out B3)⟩
              case measure => simp [intOf]; omega
            | false =>
              have HN : Hid (Ord.headN lessT more[j] o = k) := Lib.hid (by rw [HH2.out, headN_stop hko HLV.out]; rfl)
              go_wp2_with fail
              go_region_held_law (fun w' => Below wr.heap.size wr w') (first | exact bd.drew | exact bd | assumption)
                (first
                  | (go_at_call 20; refine (HL.out _).mono ?_; rintro e w3 ⟨rfl, hb3⟩; have B3 : Below wr.heap.size wr w3 := hop bd.drew hb3; clear hb3))
              clear y0 y1 y2 y3 y4 y5 u0 u1 u2 u3 u4 u5
              have BF : Below w2.heap.size w2 w3 := hop BW.out B3
              have hcap := own_cap HO2.out.own
              obtain ⟨A4, hct, hA4, _⟩ := cutU_tail (some ⟨b2, off2, none⟩) n c' k (by omega) hcap
              have HT4 : Hid (TuR w3 A4 (o.drop k)) := Lib.hid ((HO2.out.row.below BF).cut (by rw [← HO2.out.len]; exact hA4))
              have HM4 : Hid (n - k = (o.drop k).length) := Lib.hid (by rw [List.length_drop, HO2.out.len])
              have hL4 : (o.drop k).length ≤ 1000000 := by rw [← HM4.out]; have := HNL.out; omega
              have HOF : Hid (OutAt W o (some ⟨b2, off2, none⟩) n c' w3) := Lib.hid (HO2.out.keep BF)
              have hkn : k ≤ n := by omega
              have hnc : n ≤ c' := hcap
              clear hA4
              go_wp2_with (at_builtin; refine wpList_tups0 rfl (.const (.slice none 0 0)) (.tmp 44) rfl rfl (by first | rfl | (simp [Act.eval]; done) | (simp [Act.eval, Act.put]; done)) HM4.out HT4.out hL4 ?_; intro A5 c5 w5 ho5 hb5; have HO5 := Lib.hid ho5; have HB5 := Lib.hid hb5; clear ho5 hb5)
              have hch := fun W => cutU_head (some ⟨b2, off2, none⟩) n c' k (by omega) W
              have B5 : Below w2.heap.size w2 w5 := hop BF HB5.out
              have bd5 := Below.refl w5.heap.size w5
              have hc5 := fun w (hw : Below w5.heap.size w5 w) => HAT.out w (hop (hop HO2.out.below B5) hw)
              have HC6 : Hid (∀ w, Below W.heap.size W w → SixAt b (off + j * 6) q0 q1 q2 q3 q4 q5 w) := HAT
              have HWB : Hid (Below W.heap.size W w5) := Lib.hid (hop HO2.out.below B5)
              unfold SixAt at hc5 HC6
              have hS0 := hc5 _ bd5.drew
              have hS1 := hc5 _ (bd5.alloc (Nat.le_refl _) (.cells #[strV q0, strV q1, strV q2, strV q3, strV q4, strV q5] 34)).drew
              have HOW5 : Hid (w5.drew.ownsRow W.heap.size 34 6 (.slice (some ⟨b2, off2, none⟩) k c') k ((o.take k).flatMap encT)) := Lib.hid (by
                have h := own_cut (HOF.out.keep HB5.out).own (k := k) (by omega)
                rw [← flat_take] at h
                exact h.drew)
              have HSZ5 : Hid (W.heap.size ≤ w5.drew.heap.size) := Lib.hid (HOF.out.keep HB5.out).below.size
              have hk1 : k ≤ 1000000 := by have := HNL.out; omega
              clear hc5 hct
              go_wp2_with fail
              go_region_held_law (fun w' => w'.cell? ⟨b, off + j * 6, none⟩ = some (strV q0) ∧ w'.cell? ⟨b, off + j * 6 + 1, none⟩ = some (strV q1) ∧ w'.cell? ⟨b, off + j * 6 + 2, none⟩ = some (strV q2) ∧ w'.cell? ⟨b, off + j * 6 + 3, none⟩ = some (strV q3) ∧ w'.cell? ⟨b, off + j * 6 + 4, none⟩ = some (strV q4) ∧ w'.cell? ⟨b, off + j * 6 + 5, none⟩ = some (strV q5)) (assumption)
                (first
                  | (refine step_append_row w5.drew rfl (.tmp 48) (.tmp 53) 22 rfl HRW.out (by decide) (by decide) W.heap.size (some ⟨b2, off2, none⟩) k c' ((o.take k).flatMap encT) [strV q0, strV q1, strV q2, strV q3, strV q4, strV q5] rfl (by first | rfl | (simp [Act.eval]; done) | (simp [Act.eval, Act.put]; done)) (by first | rfl | (simp [Act.eval]; done) | (simp [Act.eval, Act.put]; done)) HSZ5.out HOW5.out (encT_one (q0, q1, q2, q3, q4, q5)) hk1 ?_; intro A6 c6 w6 ho6 hg6 ht6; have HO6 := Lib.hid ho6; have HG6 := Lib.hid hg6; have hB6 : Below W.heap.size W w6 := below_grown (HWB.out.drew.alloc HSZ5.out _) (by rw [World.size_alloc]; exact Nat.le_succ_of_le HSZ5.out) (HOW5.out.alloc _) hg6; have HB6 := Lib.hid hB6; have hS6 := HC6.out w6 hB6; clear ho6 hg6 ht6 hB6))
              have HT6 : Hid (TuR w6 A5 (o.drop k)) := Lib.hid (.of_own HM4.out ((HO5.out.drew.alloc _).kept HG6.out (own_apart (own_cut HOF.out.own (k := k) (by omega)) HO5.out)) (fun t ht => HO2.out.ok t (List.mem_of_mem_drop ht)))
              have hL6 : k + 1 + (o.drop k).length ≤ 1000000 := by rw [← HM4.out]; have := HNL.out; omega
              have HS6 := Lib.hid HB6.out.size
              clear hS0 hS1 hS6 hch bd5 B5
              go_wp2_with (at_builtin; refine wpList_tups rfl (.tmp 55) (.tmp 56) rfl (by first | rfl | (simp [Act.eval]; done) | (simp [Act.eval, Act.put]; done)) (by first | rfl | (simp [Act.eval]; done) | (simp [Act.eval, Act.put]; done)) HM4.out HT6.out HO6.out HS6.out hL6 ?_; intro A7 c7 w7 ho7 hb7 _; have HO7 := Lib.hid ho7; have HB7 := Lib.hid hb7; clear ho7 hb7)
              go_roundw
              case rel =>
                refine ⟨j + 1, o.take k ++ more[j] :: o.drop k, A7, k + 1 + (n - k), c7, by omega, by go_num, rfl, Lib.hid ⟨?_, ?_, HB6.out.trans HB7.out, fun t ht => ?_⟩, Lib.hid ⟨by rw [insAll_take hlt, ← HI.out.1, ins_at HVV.out HN.out], by have := HI.out.2; omega⟩⟩
                · have := HO2.out.len
                  simp only [List.length_append, List.length_cons, List.length_take, List.length_drop]
                  omega
                · have h := HO7.out
                  rw [List.flatMap_append, List.flatMap_cons, ← List.append_assoc, HQ.out]
                  exact h
                · rcases List.mem_append.1 ht with ht | ht
                  · exact HO2.out.ok t (List.mem_of_mem_take ht)
                  · rcases List.mem_cons.1 ht with rfl | ht
                    · exact HG.out.ok (List.getElem_mem hlt)
                    · exact HO2.out.ok t (List.mem_of_mem_drop ht)
              case measure => simp [intOf]; omega
          · have HN : Hid (Ord.headN lessT more[j] o = k) := Lib.hid (by rw [HH2.out, List.drop_of_length_le (by rw [← HO2.out.len]; omega)]; rfl)
            have hi1 : ¬ ((k : Int) < (n : Int)) := by omega
            clear hrow
            go_wp2_with fail
            go_quiet (fail)
            have BF : Below w2.heap.size w2 (wr.drewN nq) := below_drewN BW.out _
            generalize wr.drewN nq = w3 at *
            have hcap := own_cap HO2.out.own
            obtain ⟨A4, hct, hA4, _⟩ := cutU_tail A' n c' k (by omega) hcap
            have HT4 : Hid (TuR w3 A4 (o.drop k)) := Lib.hid ((HO2.out.row.below BF).cut (by rw [← HO2.out.len]; exact hA4))
            have HM4 : Hid (n - k = (o.drop k).length) := Lib.hid (by rw [List.length_drop, HO2.out.len])
            have hL4 : (o.drop k).length ≤ 1000000 := by rw [← HM4.out]; have := HNL.out; omega
            have HOF : Hid (OutAt W o A' n c' w3) := Lib.hid (HO2.out.keep BF)
            have hkn : k ≤ n := by omega
            have hnc : n ≤ c' := hcap
            clear hA4
            go_wp2_with (at_builtin; refine wpList_tups0 rfl (.const (.slice none 0 0)) (.tmp 44) rfl rfl (by first | rfl | (simp [Act.eval]; done) | (simp [Act.eval, Act.put]; done)) HM4.out HT4.out hL4 ?_; intro A5 c5 w5 ho5 hb5; have HO5 := Lib.hid ho5; have HB5 := Lib.hid hb5; clear ho5 hb5)
            have hch := fun W => cutU_head A' n c' k (by omega) W
            have B5 : Below w2.heap.size w2 w5 := hop BF HB5.out
            have bd5 := Below.refl w5.heap.size w5
            have hc5 := fun w (hw : Below w5.heap.size w5 w) => HAT.out w (hop (hop HO2.out.below B5) hw)
            have HC6 : Hid (∀ w, Below W.heap.size W w → SixAt b (off + j * 6) q0 q1 q2 q3 q4 q5 w) := HAT
            have HWB : Hid (Below W.heap.size W w5) := Lib.hid (hop HO2.out.below B5)
            unfold SixAt at hc5 HC6
            have hS0 := hc5 _ bd5.drew
            have hS1 := hc5 _ (bd5.alloc (Nat.le_refl _) (.cells #[strV q0, strV q1, strV q2, strV q3, strV q4, strV q5] 34)).drew
            have HOW5 : Hid (w5.drew.ownsRow W.heap.size 34 6 (.slice A' k c') k ((o.take k).flatMap encT)) := Lib.hid (by
              have h := own_cut (HOF.out.keep HB5.out).own (k := k) (by omega)
              rw [← flat_take] at h
              exact h.drew)
            have HSZ5 : Hid (W.heap.size ≤ w5.drew.heap.size) := Lib.hid (HOF.out.keep HB5.out).below.size
            have hk1 : k ≤ 1000000 := by have := HNL.out; omega
            clear hc5 hct
            go_wp2_with fail
            go_region_held_law (fun w' => w'.cell? ⟨b, off + j * 6, none⟩ = some (strV q0) ∧ w'.cell? ⟨b, off + j * 6 + 1, none⟩ = some (strV q1) ∧ w'.cell? ⟨b, off + j * 6 + 2, none⟩ = some (strV q2) ∧ w'.cell? ⟨b, off + j * 6 + 3, none⟩ = some (strV q3) ∧ w'.cell? ⟨b, off + j * 6 + 4, none⟩ = some (strV q4) ∧ w'.cell? ⟨b, off + j * 6 + 5, none⟩ = some (strV q5)) (assumption)
              (first
                | (refine step_append_row w5.drew rfl (.tmp 48) (.tmp 53) 22 rfl HRW.out (by decide) (by decide) W.heap.size A' k c' ((o.take k).flatMap encT) [strV q0, strV q1, strV q2, strV q3, strV q4, strV q5] rfl (by first | rfl | (simp [Act.eval]; done) | (simp [Act.eval, Act.put]; done)) (by first | rfl | (simp [Act.eval]; done) | (simp [Act.eval, Act.put]; done)) HSZ5.out HOW5.out (encT_one (q0, q1, q2, q3, q4, q5)) hk1 ?_; intro A6 c6 w6 ho6 hg6 ht6; have HO6 := Lib.hid ho6; have HG6 := Lib.hid hg6; have hB6 : Below W.heap.size W w6 := below_grown (HWB.out.drew.alloc HSZ5.out _) (by rw [World.size_alloc]; exact Nat.le_succ_of_le HSZ5.out) (HOW5.out.alloc _) hg6; have HB6 := Lib.hid hB6; have hS6 := HC6.out w6 hB6; clear ho6 hg6 ht6 hB6))
            have HT6 : Hid (TuR w6 A5 (o.drop k)) := Lib.hid (.of_own HM4.out ((HO5.out.drew.alloc _).kept HG6.out (own_apart (own_cut HOF.out.own (k := k) (by omega)) HO5.out)) (fun t ht => HO2.out.ok t (List.mem_of_mem_drop ht)))
            have hL6 : k + 1 + (o.drop k).length ≤ 1000000 := by rw [← HM4.out]; have := HNL.out; omega
            have HS6 := Lib.hid HB6.out.size
            clear hS0 hS1 hS6 hch bd5 B5
            go_wp2_with (at_builtin; refine wpList_tups rfl (.tmp 55) (.tmp 56) rfl (by first | rfl | (simp [Act.eval]; done) | (simp [Act.eval, Act.put]; done)) (by first | rfl | (simp [Act.eval]; done) | (simp [Act.eval, Act.put]; done)) HM4.out HT6.out HO6.out HS6.out hL6 ?_; intro A7 c7 w7 ho7 hb7 _; have HO7 := Lib.hid ho7; have HB7 := Lib.hid hb7; clear ho7 hb7)
            go_roundw
            case rel =>
              refine ⟨j + 1, o.take k ++ more[j] :: o.drop k, A7, k + 1 + (n - k), c7, by omega, by go_num, rfl, Lib.hid ⟨?_, ?_, HB6.out.trans HB7.out, fun t ht => ?_⟩, Lib.hid ⟨by rw [insAll_take hlt, ← HI.out.1, ins_at HVV.out HN.out], by have := HI.out.2; omega⟩⟩
              · have := HO2.out.len
                simp only [List.length_append, List.length_cons, List.length_take, List.length_drop]
                omega
              · have h := HO7.out
                rw [List.flatMap_append, List.flatMap_cons, ← List.append_assoc, HQ.out]
                exact h
              · rcases List.mem_append.1 ht with ht | ht
                · exact HO2.out.ok t (List.mem_of_mem_take ht)
                · rcases List.mem_cons.1 ht with rfl | ht
                  · exact HG.out.ok (List.getElem_mem hlt)
                  · exact HO2.out.ok t (List.mem_of_mem_drop ht)
            case measure => simp [intOf]; omega
    · obtain rfl : j = more.length := by omega
      have HT : Hid (o = Ord.insAll lessT l more) := Lib.hid (by have h := HI.out.1; rw [List.take_length] at h; exact h)
      go_wp2_with fail
      go_ret
      have hr := HO.out.row
      have hn := HO.out.len
      rw [HT.out] at hr hn
      exact ⟨_, _, _, rfl, hn, hr, HO.out.below⟩
end Go.Proofs.YtehabjiacgibpaaGreat
