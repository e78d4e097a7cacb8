/-
  The chapter's examples are answered. No conditions.
-/
import Derived.Test.YtooooppgdchjaaaTexts
import Derived.Test.YtooooppgdchjaaaBehind
import Derived.Lib.SlBytesConst
namespace Go.Proofs.Ytooooppgdchjaaa
open Go.RowKit

/-- a row of slices, just laid -/
theorem seenAll_new (w : World) (f : TypeId) (ps : List Piece) (h : ∀ q ∈ ps, Seen w q.1 q.2.1 ∧ q.2.1.length ≤ q.2.2 ∧ q.2.1.length ≤ 9223372036854775807) : SeenAll (w.alloc (.cells (ps.map pv).toArray f)) (some ⟨w.heap.size, 0, none⟩) ps := by
  refine .inr ⟨w.heap.size, 0, rfl, by simp, fun j hj => ?_⟩
  obtain ⟨h1, h2, h3⟩ := h ps[j] (List.getElem_mem hj)
  refine ⟨?_, h1.below ((Below.refl _ _).alloc (Nat.le_refl _) _), h2, h3⟩
  rw [World.cell?_alloc_at _ _ _ _ rfl, Nat.zero_add]
  simp [hj, pv]
theorem seenT_new (w : World) (f : TypeId) (ts : List ByteArray) (h : ∀ t ∈ ts, t.size ≤ 140737488351232) : SeenT (w.alloc (.cells (ts.map Value.string).toArray f)) (some ⟨w.heap.size, 0, none⟩) (ts.map fun t => t.data.toList) := by
  refine .inr ⟨w.heap.size, 0, rfl, by simp, fun j hj => ?_⟩
  rw [List.length_map] at hj
  refine ⟨?_, ?_⟩
  · rw [World.cell?_alloc_at _ _ _ _ rfl, Nat.zero_add, List.getElem?_toArray, List.getElem?_map, List.getElem?_eq_getElem hj, List.getElem_map]
    rfl
  · have := h ts[j] (List.getElem_mem hj)
    rw [List.getElem_map, Array.length_toList]
    exact this
/-- the text of a slice under one name -/
theorem text_named {w : World} {A : Option Addr} {l : List UInt8} {n c : Nat} (hs : Seen w A l) (hn : l.length = n) : ∃ T : ByteArray, (∀ w', Below w.heap.size w w' → (convert 23 9 (.slice A n c)).run Try.prog w' = .ok (.string T) w') ∧ T.toList = l :=
  ⟨⟨l.toArray⟩, text_on hs n c hn, by simp [ByteArray.toList_eq]⟩

theorem below2 (w : World) (o o' : Obj) : Below w.heap.size w ((w.alloc o).alloc o') := ((Below.refl _ _).alloc (Nat.le_refl _) _).alloc (by simp) _
theorem size1 (w : World) (o : Obj) : (w.alloc o).heap.size = w.heap.size + 1 := by simp

theorem wake1 (w : World) : Calls Try.prog 15 #[.slice (some ⟨w.heap.size + 1, 0, none⟩) 2 2] ((w.alloc (.cells #[.int .u8 97] 5 (1, 2))).alloc (.cells #[.slice (some ⟨w.heap.size, 0, none⟩) 1 1, .slice none 0 0] 23))
    fun e w' => ∃ A c, e = .returned (.slice A 5 c) ∧ Seen w' A [97, 0, 1, 0, 1] ∧ Below w.heap.size w w' := by
  have hs := seenAll_new (w.alloc (.cells (([97] : List UInt8).map bv).toArray 5 (1, 2))) 23 [(some ⟨w.heap.size, 0, none⟩, [97], 1), (none, [], 0)] (by
    intro q hq
    simp at hq
    rcases hq with rfl | rfl
    · exact ⟨seen_mark w 5 [97] (1, 2), Nat.le_refl 1, by simp⟩
    · exact ⟨.inl rfl, Nat.le_refl 0, by simp⟩)
  rw [size1] at hs
  refine (encode_any _ _ 2 _ hs (by simp) (by rw [show bytesOf _ = [[97], []] from rfl]; decide)).mono ?_
  rintro e w' ⟨A, n, c, rfl, hl, hm⟩
  obtain rfl : 5 = n := hl
  exact ⟨A, c, rfl, hm.at_len.2, hop (below2 w _ _) hm.2⟩
theorem wake2 (w : World) : Calls Try.prog 15 #[.slice (some ⟨w.heap.size + 1, 0, none⟩) 1 1] ((w.alloc (.cells #[.int .u8 0] 5)).alloc (.cells #[.slice (some ⟨w.heap.size, 0, none⟩) 1 1] 23))
    fun e w' => ∃ A c, e = .returned (.slice A 4 c) ∧ Seen w' A [0, 255, 0, 1] ∧ Below w.heap.size w w' := by
  have hs := seenAll_new (w.alloc (.cells (([0] : List UInt8).map bv).toArray 5)) 23 [(some ⟨w.heap.size, 0, none⟩, [0], 1)] (by
    intro q hq
    simp at hq
    subst hq
    exact ⟨seen_mark w 5 [0] (0, 0), Nat.le_refl 1, by simp⟩)
  rw [size1] at hs
  refine (encode_any _ _ 1 _ hs (by simp) (by rw [show bytesOf _ = [[0]] from rfl]; decide)).mono ?_
  rintro e w' ⟨A, n, c, rfl, hl, hm⟩
  obtain rfl : 4 = n := hl
  exact ⟨A, c, rfl, hm.at_len.2, hop (below2 w _ _) hm.2⟩
theorem wake3 (w : World) : Calls Try.prog 21 #[.slice (some ⟨w.heap.size, 0, none⟩) 2 2] (w.alloc (.cells #[.int .u8 97, .int .u8 255] 5))
    fun e w' => ∃ A c, e = .returned (.slice A 1 c) ∧ Seen w' A [98] ∧ Below w.heap.size w w' := by
  have hs : Seen (w.alloc (.cells #[.int .u8 97, .int .u8 255] 5)) (some ⟨w.heap.size, 0, none⟩) [97, 255] := seen_mark w 5 [97, 255] (0, 0)
  refine (behind_any _ [97, 255] 2 _ hs (by simp) (by simp)).mono ?_
  rintro e w' ⟨A, n, c, rfl, hl, hs, hb⟩
  obtain rfl : 1 = n := hl
  exact ⟨A, c, rfl, hs, hop ((Below.refl _ _).alloc (Nat.le_refl _) _) hb⟩
theorem wake4 (w : World) : Calls Try.prog 17 #[.slice (some ⟨w.heap.size, 0, none⟩) 1 1] (w.alloc (.cells #[.string ⟨#[97]⟩] 9))
    fun e w' => ∃ A c, e = .returned (.slice A 3 c) ∧ Seen w' A [97, 0, 1] ∧ Below w.heap.size w w' := by
  have hs : SeenT (w.alloc (.cells #[.string ⟨#[97]⟩] 9)) (some ⟨w.heap.size, 0, none⟩) [[97]] := seenT_new w 9 [⟨#[97]⟩] (by
    intro t ht
    simp at ht
    subst ht
    decide)
  refine (texts_any _ [[97]] 1 _ hs (by simp) (by decide)).mono ?_
  rintro e w' ⟨A, n, c, rfl, hl, hs, _, hb⟩
  obtain rfl : 3 = n := hl
  exact ⟨A, c, rfl, hs, hop ((Below.refl _ _).alloc (Nat.le_refl _) _) hb⟩

set_option maxRecDepth 100000 in
set_option maxHeartbeats 1000000 in
theorem awake_any (w : World) :
    Calls Try.prog 10 #[] w fun e w' => e = .returned (.bool true) ∧ Below w.heap.size w w' := by
  have hcc := fun (w : World) (C : Array Value) (n c : Nat) => Lib.run_convert_bytes_const (P := Try.prog) w 23 5 C n c Try.underlying23 Try.underlying5
  go_enter Try.func10, Try.ntmps10
  go_wp2_with fail
  refine (wake1 w).mono ?_
  rintro e w1 ⟨A1, c1, rfl, hs1, hb1⟩
  obtain ⟨T1, u1, e1⟩ := text_named (n := 5) (c := c1) hs1 rfl
  have v1 := u1 _ (Below.refl _ _)
  have t1 : (T1.toList == [97, 0, 1, 0, 1]) = true := by rw [e1]; rfl
  have B1 := Lib.hid hb1
  clear hs1 hb1 u1 e1 hcc
  go_wp2_with fail
  refine (wake2 w1).mono ?_
  rintro e w2 ⟨A2, c2, rfl, hs2, hb2⟩
  obtain ⟨T2, u2, e2⟩ := text_named (n := 4) (c := c2) hs2 rfl
  have v2 := u2 _ (Below.refl _ _)
  have t2 : (T2.toList == [0, 255, 0, 1]) = true := by rw [e2]; rfl
  have B2 := Lib.hid (hop B1.out hb2)
  clear hs2 hb2 u2 e2 B1 v1 t1
  go_wp2_with fail
  refine (wake3 w2).mono ?_
  rintro e w3 ⟨A3, c3, rfl, hs3, hb3⟩
  obtain ⟨T3, u3, e3⟩ := text_named (n := 1) (c := c3) hs3 rfl
  have v3 := u3 _ (Below.refl _ _)
  have t3 : (T3.toList == [98]) = true := by rw [e3]; rfl
  have B3 := Lib.hid (hop B2.out hb3)
  clear hs3 hb3 u3 e3 B2 v2 t2
  go_wp2_with fail
  refine (wake4 w3).mono ?_
  rintro e w4 ⟨A4, c4, rfl, hs4, hb4⟩
  obtain ⟨T4, u4, e4⟩ := text_named (n := 3) (c := c4) hs4 rfl
  have v4 := u4 _ (Below.refl _ _)
  have t4 : (T4.toList == [97, 0, 1]) = true := by rw [e4]; rfl
  have B4 := Lib.hid (hop B3.out hb4)
  clear hs4 hb4 u4 e4 B3 v3 t3
  go_wp2_with fail
  go_ret
  exact ⟨rfl, B4.out⟩
end Go.Proofs.Ytooooppgdchjaaa
