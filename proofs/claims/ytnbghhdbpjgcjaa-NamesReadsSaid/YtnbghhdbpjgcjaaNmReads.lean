/-
  NamesReads answers true: any text is the object, the subject and the tuple that the document says, or none. Condition: a string's length fits an int.
-/
import Derived.Test.YtnbghhdbpjgcjaaNmAwake
namespace Go.Proofs.Ytnbghhdbpjgcjaa
open Go.RowKit

set_option maxHeartbeats 800000 in
theorem namesReads_txt (l : Txt) (w : World) (hm : l.length ≤ 9223372036854775807) : Calls Try.prog 4 #[strV l] w fun e w' => e = .returned (.bool true) ∧ Below w.heap.size w w' := by
  have hO := fun W => object_any l W hm
  have hS := fun W => subject_any l W hm
  have hT := fun W => tuple_any l W hm
  have hRO := fun W => refObject_any l W hm
  have hRS := fun W => refSubject_any l W hm
  have hRT := fun W => refTuple_any l W hm
  simp only [objV_eq] at hO hRO
  simp only [subV_eq] at hS hRS
  simp only [tupV_eq] at hT hRT
  generalize (objL l).isSome = x at *
  generalize (subL l).isSome = y at *
  generalize (tupL l).isSome = z at *
  generalize (objL l).getD ([], []) = o at *
  generalize (subL l).getD ([], [], []) = s at *
  generalize (tupL l).getD ([], [], [], [], [], []) = t at *
  obtain ⟨o1, o2⟩ := o
  obtain ⟨s1, s2, s3⟩ := s
  obtain ⟨t1, t2, t3, t4, t5, t6⟩ := t
  have HO := Lib.hid hO
  have HS := Lib.hid hS
  have HT := Lib.hid hT
  have HRO := Lib.hid hRO
  have HRS := Lib.hid hRS
  have HRT := Lib.hid hRT
  have HA := Lib.hid (fun W => awake_any W)
  clear hO hS hT hRO hRS hRT
  go_enter Try.func4, Try.ntmps4
  go_wp2_with (first
    | (go_at_call 8; with_reducible refine (HA.out _).mono ?_; rintro e w1 ⟨rfl, hb1⟩; have HB1 := Lib.hid hb1; clear hb1)
    | (go_at_call 13; with_reducible refine (HO.out _).mono ?_; rintro e w2 ⟨rfl, hb2⟩; have HB2 := Lib.hid (hop HB1.out hb2); clear hb2)
    | (go_at_call 14; with_reducible refine (HRO.out _).mono ?_; rintro e w3 ⟨rfl, hb3⟩; have Ha3 := Lib.hid ((Blk.new w2 [strV o1, strV o2] 25).below hb3 (by simp)); have HB3 := Lib.hid (hop (HB2.out.alloc HB2.out.size _) hb3); clear HB2; clear hb3)
    | (go_at_call 15; with_reducible refine (HS.out _).mono ?_; rintro e w4 ⟨rfl, hb4⟩; have Ha4 := Lib.hid ((Ha3.out.alloc _).below hb4 (Ha3.out.alloc _).lt); have Hb4 := Lib.hid ((Blk.new w3 [strV o1, strV o2] 25).below hb4 (by simp)); have HB4 := Lib.hid (hop (HB3.out.alloc HB3.out.size _) hb4); clear HB3 Ha3; clear hb4)
    | (go_at_call 16; with_reducible refine (HRS.out _).mono ?_; rintro e w5 ⟨rfl, hb5⟩; have Ha5 := Lib.hid ((Ha4.out.alloc _).below hb5 (Ha4.out.alloc _).lt); have Hb5 := Lib.hid ((Hb4.out.alloc _).below hb5 (Hb4.out.alloc _).lt); have Hc5 := Lib.hid ((Blk.new w4 [strV s1, strV s2, strV s3] 29).below hb5 (by simp)); have HB5 := Lib.hid (hop (HB4.out.alloc HB4.out.size _) hb5); clear HB4 Ha4 Hb4; clear hb5)
    | (go_at_call 17; with_reducible refine (HT.out _).mono ?_; rintro e w6 ⟨rfl, hb6⟩; have Ha6 := Lib.hid ((Ha5.out.alloc _).below hb6 (Ha5.out.alloc _).lt); have Hb6 := Lib.hid ((Hb5.out.alloc _).below hb6 (Hb5.out.alloc _).lt); have Hc6 := Lib.hid ((Hc5.out.alloc _).below hb6 (Hc5.out.alloc _).lt); have Hd6 := Lib.hid ((Blk.new w5 [strV s1, strV s2, strV s3] 29).below hb6 (by simp)); have HB6 := Lib.hid (hop (HB5.out.alloc HB5.out.size _) hb6); clear HB5 Ha5 Hb5 Hc5; clear hb6)
    | (go_at_call 18; with_reducible refine (HRT.out _).mono ?_; rintro e w7 ⟨rfl, hb7⟩; have Ha7 := Lib.hid ((Ha6.out.alloc _).below hb7 (Ha6.out.alloc _).lt); have Hb7 := Lib.hid ((Hb6.out.alloc _).below hb7 (Hb6.out.alloc _).lt); have Hc7 := Lib.hid ((Hc6.out.alloc _).below hb7 (Hc6.out.alloc _).lt); have Hd7 := Lib.hid ((Hd6.out.alloc _).below hb7 (Hd6.out.alloc _).lt); have He7 := Lib.hid ((Blk.new w6 [strV t1, strV t2, strV t3, strV t4, strV t5, strV t6] 33).below hb7 (by simp)); have HB7 := Lib.hid (hop (HB6.out.alloc HB6.out.size _) hb7); clear HB6 Ha6 Hb6 Hc6 Hd6; clear hb7; have ya0 := Ha7.out.cell (i := 0) (by simp); have ya1 := Ha7.out.cell (i := 1) (by simp); have la := Ha7.out.lt; have yb0 := Hb7.out.cell (i := 0) (by simp); have yb1 := Hb7.out.cell (i := 1) (by simp); have lb := Hb7.out.lt; have yc0 := Hc7.out.cell (i := 0) (by simp); have yc1 := Hc7.out.cell (i := 1) (by simp); have yc2 := Hc7.out.cell (i := 2) (by simp); have lc := Hc7.out.lt; have yd0 := Hd7.out.cell (i := 0) (by simp); have yd1 := Hd7.out.cell (i := 1) (by simp); have yd2 := Hd7.out.cell (i := 2) (by simp); have ld := Hd7.out.lt; have ye0 := He7.out.cell (i := 0) (by simp); have ye1 := He7.out.cell (i := 1) (by simp); have ye2 := He7.out.cell (i := 2) (by simp); have ye3 := He7.out.cell (i := 3) (by simp); have ye4 := He7.out.cell (i := 4) (by simp); have ye5 := He7.out.cell (i := 5) (by simp); have le := He7.out.lt))
  go_ret
  exact ⟨rfl, HB7.out.alloc HB7.out.size _⟩
theorem namesReads_walk (s : ByteArray) (w : World) (hm : s.size ≤ 140737488351232) : Calls Try.prog 4 #[.string s] w fun e w' => e = .returned (.bool true) ∧ Below w.heap.size w w' := by
  have h := namesReads_txt s.data.toList w (by rw [size_list]; omega)
  have e : strV s.data.toList = .string s := by show Value.string ⟨s.data.toList.toArray⟩ = _; simp
  rw [e] at h; exact h
end Go.Proofs.Ytnbghhdbpjgcjaa
