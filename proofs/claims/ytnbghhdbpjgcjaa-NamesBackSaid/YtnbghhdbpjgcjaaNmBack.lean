/-
  NamesBack answers true: what is read is shown as it was. Condition: a string's length fits an int.
-/
import Derived.Test.YtnbghhdbpjgcjaaNmAwake
namespace Go.Proofs.Ytnbghhdbpjgcjaa
open Go.RowKit

set_option maxHeartbeats 800000 in
theorem namesBack_txt (l : Txt) (w : World) (hm : l.length ≤ 140737488351232) : Calls Try.prog 6 #[strV l] w fun e w' => e = .returned (.bool true) ∧ Below w.heap.size w w' := by
  have hm2 : l.length ≤ 9223372036854775807 := by omega
  have hO := fun W => object_any l W hm2
  have hS := fun W => subject_any l W hm2
  have hT := fun W => tuple_any l W hm2
  have k1 := obj_sub (l := l)
  have k2 := sub_tup (l := l)
  have n1 : ∀ {a b : Txt}, objL l = some (a, b) → a.length ≤ 9223372036854775807 ∧ b.length ≤ 9223372036854775807 := fun {a b} h => by
    obtain ⟨h1, h2, _⟩ := objL_some h
    exact ⟨by have := (nameL_len h1).2; omega, by have := (idL_len h2).2; omega⟩
  have n2 : ∀ {a b r : Txt}, subL l = some (a, b, r) → a.length ≤ 9223372036854775807 ∧ b.length ≤ 9223372036854775807 ∧ r.length ≤ 9223372036854775807 := fun {a b r} h => by
    obtain ⟨h1, h2, h3⟩ := subL_some h
    refine ⟨by have := (nameL_len h1).2; omega, by have := (idL_len h2).2; omega, ?_⟩
    rcases h3 with ⟨rfl, _⟩ | ⟨h3, _⟩
    · simp
    · have := (nameL_len h3).2; omega
  have n3 : ∀ {t : Tup}, tupL l = some t → ((t.1.length ≤ 9223372036854775807 ∧ t.2.1.length ≤ 9223372036854775807) ∧ t.2.2.1.length ≤ 9223372036854775807) ∧ (t.2.2.2.1.length ≤ 9223372036854775807 ∧ t.2.2.2.2.1.length ≤ 9223372036854775807 ∧ t.2.2.2.2.2.length ≤ 9223372036854775807) := fun {t} h => by
    obtain ⟨h1, h2, h3, _, u, h4, _⟩ := tupL_some h
    have q1 := (nameL_len h1).2
    have q2 := (idL_len h2).2
    have q3 := (nameL_len h3).2
    obtain ⟨h5, h6, h7⟩ := subL_some (a := t.2.2.2.1) (b := t.2.2.2.2.1) (r := t.2.2.2.2.2) h4
    have q5 := (nameL_len h5).2
    have q6 := (idL_len h6).2
    refine ⟨⟨⟨by omega, by omega⟩, by omega⟩, by omega, by omega, ?_⟩
    rcases h7 with ⟨h7, _⟩ | ⟨h7, _⟩
    · rw [h7]; simp
    · have := (nameL_len h7).2; omega
  have hso : (objL l).isSome = true → ∀ W, Calls Try.prog 21 #[.agg #[strV ((objL l).getD ([], [])).1, strV ((objL l).getD ([], [])).2]] W fun e w' => e = .returned (strV l) ∧ Below W.heap.size W w' := fun h W => by
    obtain ⟨⟨a, b⟩, e⟩ := Option.isSome_iff_exists.1 h
    have h1 := showObject_any a b W (n1 e).1 (n1 e).2
    rw [obj_back e] at h1
    rw [e]; exact h1
  have hss : (subL l).isSome = true → ∀ W, Calls Try.prog 20 #[.agg #[strV ((subL l).getD ([], [], [])).1, strV ((subL l).getD ([], [], [])).2.1, strV ((subL l).getD ([], [], [])).2.2]] W fun e w' => e = .returned (strV l) ∧ Below W.heap.size W w' := fun h W => by
    obtain ⟨⟨a, b, r⟩, e⟩ := Option.isSome_iff_exists.1 h
    have h1 := showSubject_any a b r W (n2 e).1 (n2 e).2.1 (n2 e).2.2
    rw [sub_back e] at h1
    rw [e]; exact h1
  have hst : (tupL l).isSome = true → ∀ W, Calls Try.prog 19 #[.agg #[strV ((tupL l).getD ([], [], [], [], [], [])).1, strV ((tupL l).getD ([], [], [], [], [], [])).2.1, strV ((tupL l).getD ([], [], [], [], [], [])).2.2.1, strV ((tupL l).getD ([], [], [], [], [], [])).2.2.2.1,
      strV ((tupL l).getD ([], [], [], [], [], [])).2.2.2.2.1, strV ((tupL l).getD ([], [], [], [], [], [])).2.2.2.2.2]] W fun e w' => e = .returned (strV l) ∧ Below W.heap.size W w' := fun h W => by
    obtain ⟨t, e⟩ := Option.isSome_iff_exists.1 h
    obtain ⟨⟨⟨m1, m2⟩, m3⟩, m4, m5, m6⟩ := n3 e
    have h1 := showTuple_any t.1 t.2.1 t.2.2.1 t.2.2.2.1 t.2.2.2.2.1 t.2.2.2.2.2 W m1 m2 m3 m4 m5 m6
    rw [show showT (t.1, t.2.1, t.2.2.1, t.2.2.2.1, t.2.2.2.2.1, t.2.2.2.2.2) = l from tup_back e] at h1
    rw [e]; exact h1
  have HA := Lib.hid (fun W => awake_any W)
  have hl : (l == l) = true := beq_self_eq_true l
  simp only [objV_eq] at hO
  simp only [subV_eq] at hS
  simp only [tupV_eq] at hT
  clear n1 n2 n3 hm hm2
  generalize (objL l).isSome = x at *
  generalize (subL l).isSome = y at *
  generalize (tupL l).isSome = z at *
  generalize (objL l).getD ([], []) = o at *
  generalize (subL l).getD ([], [], []) = s at *
  generalize (tupL l).getD ([], [], [], [], [], []) = t at *
  obtain ⟨o1, o2⟩ := o
  obtain ⟨s1, s2, s3⟩ := s
  obtain ⟨t1, t2, t3, t4, t5, t6⟩ := t
  have HO := Lib.hid hO
  have HS := Lib.hid hS
  have HT := Lib.hid hT
  have hcase : (x = true ∧ y = true ∧ z = false) ∨ (x = false ∧ y = true ∧ z = false) ∨ (x = false ∧ y = false ∧ z = true) ∨ (x = false ∧ y = false ∧ z = false) := by
    revert k1 k2; cases x <;> cases y <;> cases z <;> decide
  clear hO hS hT k1 k2
  rcases hcase with ⟨rfl, rfl, rfl⟩ | ⟨rfl, rfl, rfl⟩ | ⟨rfl, rfl, rfl⟩ | ⟨rfl, rfl, rfl⟩
  · have HSO := Lib.hid (hso rfl)
    have HSS := Lib.hid (hss rfl)
    clear hso hss hst
    go_enter Try.func6, Try.ntmps6
    go_wp2_with (first
      | (go_at_call 8; with_reducible refine (HA.out _).mono ?_; rintro e w1 ⟨rfl, hb1⟩; have HB1 := Lib.hid hb1; clear hb1)
      | (go_at_call 13; with_reducible refine (HO.out _).mono ?_; rintro e w2 ⟨rfl, hb2⟩; have HB2 := Lib.hid (hop HB1.out hb2); clear hb2)
      | (go_at_call 15; with_reducible refine (HS.out _).mono ?_; rintro e w3 ⟨rfl, hb3⟩; have Ha3 := Lib.hid ((Blk.new w2 [strV o1, strV o2] 25).below hb3 (by simp)); have HB3 := Lib.hid (hop (HB2.out.alloc HB2.out.size _) hb3); clear HB2; clear hb3)
      | (go_at_call 17; with_reducible refine (HT.out _).mono ?_; rintro e w4 ⟨rfl, hb4⟩; have Ha4 := Lib.hid ((Ha3.out.alloc _).below hb4 (Ha3.out.alloc _).lt); have Hb4 := Lib.hid ((Blk.new w3 [strV s1, strV s2, strV s3] 29).below hb4 (by simp)); have HB4 := Lib.hid (hop (HB3.out.alloc HB3.out.size _) hb4); clear HB3 Ha3; clear hb4; have ya0 := Ha4.out.cell (i := 0) (by simp); have ya1 := Ha4.out.cell (i := 1) (by simp); have la := Ha4.out.lt; have yb0 := Hb4.out.cell (i := 0) (by simp); have yb1 := Hb4.out.cell (i := 1) (by simp); have yb2 := Hb4.out.cell (i := 2) (by simp); have lb := Hb4.out.lt)
      | (go_at_call 21; with_reducible refine (HSO.out _).mono ?_; rintro e w5 ⟨rfl, hb5⟩; have Hb5 := Lib.hid ((Hb4.out.alloc _).below hb5 (Hb4.out.alloc _).lt); clear yb0 yb1 yb2; have yb0 := Hb5.out.cell (i := 0) (by simp); have yb1 := Hb5.out.cell (i := 1) (by simp); have yb2 := Hb5.out.cell (i := 2) (by simp); have HB5 := Lib.hid (hop (HB4.out.alloc HB4.out.size _) hb5); clear hb5)
      | (go_at_call 20; with_reducible refine (HSS.out _).mono ?_; rintro e w6 ⟨rfl, hb6⟩; have HB6 := Lib.hid hb6; clear hb6)
      | (go_at_call 19; with_reducible refine (HST.out _).mono ?_; rintro e w7 ⟨rfl, hb7⟩; have HB7 := Lib.hid hb7; clear hb7))
    go_ret
    exact ⟨rfl, hop HB5.out HB6.out⟩
  · have HSS := Lib.hid (hss rfl)
    clear hso hss hst
    go_enter Try.func6, Try.ntmps6
    go_wp2_with (first
      | (go_at_call 8; with_reducible refine (HA.out _).mono ?_; rintro e w1 ⟨rfl, hb1⟩; have HB1 := Lib.hid hb1; clear hb1)
      | (go_at_call 13; with_reducible refine (HO.out _).mono ?_; rintro e w2 ⟨rfl, hb2⟩; have HB2 := Lib.hid (hop HB1.out hb2); clear hb2)
      | (go_at_call 15; with_reducible refine (HS.out _).mono ?_; rintro e w3 ⟨rfl, hb3⟩; have Ha3 := Lib.hid ((Blk.new w2 [strV o1, strV o2] 25).below hb3 (by simp)); have HB3 := Lib.hid (hop (HB2.out.alloc HB2.out.size _) hb3); clear HB2; clear hb3)
      | (go_at_call 17; with_reducible refine (HT.out _).mono ?_; rintro e w4 ⟨rfl, hb4⟩; have Ha4 := Lib.hid ((Ha3.out.alloc _).below hb4 (Ha3.out.alloc _).lt); have Hb4 := Lib.hid ((Blk.new w3 [strV s1, strV s2, strV s3] 29).below hb4 (by simp)); have HB4 := Lib.hid (hop (HB3.out.alloc HB3.out.size _) hb4); clear HB3 Ha3; clear hb4; have ya0 := Ha4.out.cell (i := 0) (by simp); have ya1 := Ha4.out.cell (i := 1) (by simp); have la := Ha4.out.lt; have yb0 := Hb4.out.cell (i := 0) (by simp); have yb1 := Hb4.out.cell (i := 1) (by simp); have yb2 := Hb4.out.cell (i := 2) (by simp); have lb := Hb4.out.lt)
      | (go_at_call 21; with_reducible refine (HSO.out _).mono ?_; rintro e w5 ⟨rfl, hb5⟩; have Hb5 := Lib.hid ((Hb4.out.alloc _).below hb5 (Hb4.out.alloc _).lt); clear yb0 yb1 yb2; have yb0 := Hb5.out.cell (i := 0) (by simp); have yb1 := Hb5.out.cell (i := 1) (by simp); have yb2 := Hb5.out.cell (i := 2) (by simp); have HB5 := Lib.hid (hop (HB4.out.alloc HB4.out.size _) hb5); clear hb5)
      | (go_at_call 20; with_reducible refine (HSS.out _).mono ?_; rintro e w6 ⟨rfl, hb6⟩; have HB6 := Lib.hid hb6; clear hb6)
      | (go_at_call 19; with_reducible refine (HST.out _).mono ?_; rintro e w7 ⟨rfl, hb7⟩; have HB7 := Lib.hid hb7; clear hb7))
    go_ret
    exact ⟨rfl, hop (HB4.out.alloc HB4.out.size _) HB6.out⟩
  · have HST := Lib.hid (hst rfl)
    clear hso hss hst
    go_enter Try.func6, Try.ntmps6
    go_wp2_with (first
      | (go_at_call 8; with_reducible refine (HA.out _).mono ?_; rintro e w1 ⟨rfl, hb1⟩; have HB1 := Lib.hid hb1; clear hb1)
      | (go_at_call 13; with_reducible refine (HO.out _).mono ?_; rintro e w2 ⟨rfl, hb2⟩; have HB2 := Lib.hid (hop HB1.out hb2); clear hb2)
      | (go_at_call 15; with_reducible refine (HS.out _).mono ?_; rintro e w3 ⟨rfl, hb3⟩; have Ha3 := Lib.hid ((Blk.new w2 [strV o1, strV o2] 25).below hb3 (by simp)); have HB3 := Lib.hid (hop (HB2.out.alloc HB2.out.size _) hb3); clear HB2; clear hb3)
      | (go_at_call 17; with_reducible refine (HT.out _).mono ?_; rintro e w4 ⟨rfl, hb4⟩; have Ha4 := Lib.hid ((Ha3.out.alloc _).below hb4 (Ha3.out.alloc _).lt); have Hb4 := Lib.hid ((Blk.new w3 [strV s1, strV s2, strV s3] 29).below hb4 (by simp)); have HB4 := Lib.hid (hop (HB3.out.alloc HB3.out.size _) hb4); clear HB3 Ha3; clear hb4; have ya0 := Ha4.out.cell (i := 0) (by simp); have ya1 := Ha4.out.cell (i := 1) (by simp); have la := Ha4.out.lt; have yb0 := Hb4.out.cell (i := 0) (by simp); have yb1 := Hb4.out.cell (i := 1) (by simp); have yb2 := Hb4.out.cell (i := 2) (by simp); have lb := Hb4.out.lt)
      | (go_at_call 21; with_reducible refine (HSO.out _).mono ?_; rintro e w5 ⟨rfl, hb5⟩; have Hb5 := Lib.hid ((Hb4.out.alloc _).below hb5 (Hb4.out.alloc _).lt); clear yb0 yb1 yb2; have yb0 := Hb5.out.cell (i := 0) (by simp); have yb1 := Hb5.out.cell (i := 1) (by simp); have yb2 := Hb5.out.cell (i := 2) (by simp); have HB5 := Lib.hid (hop (HB4.out.alloc HB4.out.size _) hb5); clear hb5)
      | (go_at_call 20; with_reducible refine (HSS.out _).mono ?_; rintro e w6 ⟨rfl, hb6⟩; have HB6 := Lib.hid hb6; clear hb6)
      | (go_at_call 19; with_reducible refine (HST.out _).mono ?_; rintro e w7 ⟨rfl, hb7⟩; have HB7 := Lib.hid hb7; clear hb7))
    go_ret
    exact ⟨rfl, hop (HB4.out.alloc HB4.out.size _) HB7.out⟩
  · have HN0 := Lib.hid True.intro
    clear hso hss hst
    go_enter Try.func6, Try.ntmps6
    go_wp2_with (first
      | (go_at_call 8; with_reducible refine (HA.out _).mono ?_; rintro e w1 ⟨rfl, hb1⟩; have HB1 := Lib.hid hb1; clear hb1)
      | (go_at_call 13; with_reducible refine (HO.out _).mono ?_; rintro e w2 ⟨rfl, hb2⟩; have HB2 := Lib.hid (hop HB1.out hb2); clear hb2)
      | (go_at_call 15; with_reducible refine (HS.out _).mono ?_; rintro e w3 ⟨rfl, hb3⟩; have Ha3 := Lib.hid ((Blk.new w2 [strV o1, strV o2] 25).below hb3 (by simp)); have HB3 := Lib.hid (hop (HB2.out.alloc HB2.out.size _) hb3); clear HB2; clear hb3)
      | (go_at_call 17; with_reducible refine (HT.out _).mono ?_; rintro e w4 ⟨rfl, hb4⟩; have Ha4 := Lib.hid ((Ha3.out.alloc _).below hb4 (Ha3.out.alloc _).lt); have Hb4 := Lib.hid ((Blk.new w3 [strV s1, strV s2, strV s3] 29).below hb4 (by simp)); have HB4 := Lib.hid (hop (HB3.out.alloc HB3.out.size _) hb4); clear HB3 Ha3; clear hb4; have ya0 := Ha4.out.cell (i := 0) (by simp); have ya1 := Ha4.out.cell (i := 1) (by simp); have la := Ha4.out.lt; have yb0 := Hb4.out.cell (i := 0) (by simp); have yb1 := Hb4.out.cell (i := 1) (by simp); have yb2 := Hb4.out.cell (i := 2) (by simp); have lb := Hb4.out.lt)
      | (go_at_call 21; with_reducible refine (HSO.out _).mono ?_; rintro e w5 ⟨rfl, hb5⟩; have Hb5 := Lib.hid ((Hb4.out.alloc _).below hb5 (Hb4.out.alloc _).lt); clear yb0 yb1 yb2; have yb0 := Hb5.out.cell (i := 0) (by simp); have yb1 := Hb5.out.cell (i := 1) (by simp); have yb2 := Hb5.out.cell (i := 2) (by simp); have HB5 := Lib.hid (hop (HB4.out.alloc HB4.out.size _) hb5); clear hb5)
      | (go_at_call 20; with_reducible refine (HSS.out _).mono ?_; rintro e w6 ⟨rfl, hb6⟩; have HB6 := Lib.hid hb6; clear hb6)
      | (go_at_call 19; with_reducible refine (HST.out _).mono ?_; rintro e w7 ⟨rfl, hb7⟩; have HB7 := Lib.hid hb7; clear hb7))
    go_ret
    exact ⟨rfl, HB4.out.alloc HB4.out.size _⟩
theorem namesBack_walk (s : ByteArray) (w : World) (hm : s.size ≤ 140737488351232) : Calls Try.prog 6 #[.string s] w fun e w' => e = .returned (.bool true) ∧ Below w.heap.size w w' := by
  have h := namesBack_txt s.data.toList w (by rw [size_list]; omega)
  have e : strV s.data.toList = .string s := by show Value.string ⟨s.data.toList.toArray⟩ = _; simp
  rw [e] at h; exact h
end Go.Proofs.Ytnbghhdbpjgcjaa
