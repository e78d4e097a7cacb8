/-
  The chapter's examples: each statement of this layer asks them first. No conditions.
-/
import Derived.Test.YtmngcfmlmdhpbaaFBatch
import Derived.Test.YtmngcfmlmdhpbaaFEncode
import Derived.Lib.SlBytesConst
namespace Go.Proofs.Ytmngcfmlmdhpbaa
open Go.RowKit

theorem zeroFrameA (w : World) : (zeroValue 24).run Try.prog w = .ok (.agg #[.int .i64 0, .int .i64 0, .slice none 0 0]) w := by kernel_rfl
theorem zeroPutA (w : World) : (zeroValue 45).run Try.prog w = .ok (.agg #[.slice none 0 0, .slice none 0 0, .bool false]) w := by kernel_rfl
theorem first_frame : ∃ T : List UInt8, T.length = 12 ∧ encF 1 0 [] = [245, 0, 0, 0, 0, 0, 0, 0, 0, 1] ++ T := by
  have w1 : wideI 1 = [0, 0, 0, 0, 0, 0, 0, 1] := by decide
  have h : headL 1 0 [] = [245, 0, 0, 0, 0, 0, 0, 0, 0, 1] ++ wideI 0 := by
    rw [headL, List.length_nil, putL_small (by decide), w1]; simp
  refine ⟨wideI 0 ++ sumOf (headL 1 0 []), by rw [List.length_append, wideI_length, sumOf_length], ?_⟩
  rw [encF_may (by decide), frameL, ← List.append_assoc, ← h]
theorem first_batch : batchL [([97], [98], false)] = [1, 0, 1, 97, 1, 98] := by
  simp only [batchL, putsV, putV1, partP, List.length_cons, List.length_nil, List.map_cons, List.map_nil, List.flatten_cons, List.flatten_nil, Nat.zero_add, putL_small (show 1 < 128 by decide)]
  rfl

/-- the example's put, in memory -/
def ab (w : World) : PPut := ((some ⟨w.heap.size, 0, none⟩, [97], 1), (some ⟨w.heap.size + 1, 0, none⟩, [98], 1), false)
theorem ab_is (w : World) : batchL (valsOf [ab w]) = batchL [([97], [98], false)] := rfl
theorem ab_seen (w : World) : PutsSeen (((w.alloc (.cells #[.int .u8 97] 5 (1, 2))).alloc (.cells #[.int .u8 98] 5 (1, 2))).alloc (.cells #[.slice (some ⟨w.heap.size, 0, none⟩) 1 1, .slice (some ⟨w.heap.size + 1, 0, none⟩) 1 1, .bool false] 45))
    (some ⟨w.heap.size + 1 + 1, 0, none⟩) [ab w] := by
  have S1 := ((seen_mark w 5 [97] (1, 2)).alloc (.cells #[.int .u8 98] 5 (1, 2))).alloc (.cells #[.slice (some ⟨w.heap.size, 0, none⟩) 1 1, .slice (some ⟨w.heap.size + 1, 0, none⟩) 1 1, .bool false] 45)
  have S2 := (seen_mark (w.alloc (.cells #[.int .u8 97] 5 (1, 2))) 5 [98] (1, 2)).alloc (.cells #[.slice (some ⟨w.heap.size, 0, none⟩) 1 1, .slice (some ⟨w.heap.size + 1, 0, none⟩) 1 1, .bool false] 45)
  have B := Blk.new ((w.alloc (.cells #[.int .u8 97] 5 (1, 2))).alloc (.cells #[.int .u8 98] 5 (1, 2))) [.slice (some ⟨w.heap.size, 0, none⟩) 1 1, .slice (some ⟨w.heap.size + 1, 0, none⟩) 1 1, .bool false] 45
  simp only [World.size_alloc] at S2 B
  refine .inr ⟨w.heap.size + 1 + 1, 0, rfl, by simp, fun j hj => ?_⟩
  obtain rfl : j = 0 := by simp at hj; omega
  exact ⟨B.cell (i := 0) (by simp), B.cell (i := 1) (by simp), B.cell (i := 2) (by simp), ⟨S1, (by show 1 ≤ 9223372036854775807; omega)⟩, ⟨S2, (by show 1 ≤ 9223372036854775807; omega)⟩⟩

set_option maxRecDepth 100000 in
set_option maxHeartbeats 1000000 in
theorem awake_any (w : World) : Calls Try.prog 9 #[] w fun e w' => e = .returned (.bool true) ∧ Below w.heap.size w w' := by
  have hzf := zeroFrameA
  have hzp := zeroPutA
  obtain ⟨T, hT, hE⟩ := first_frame
  have HENC := Lib.hid (encode_any 1 0 none [] 0 0 w (.inl rfl) rfl (by omega) (by omega) (by omega) (by omega) (by omega))
  rw [hE] at HENC
  have HT : Hid (([245, 0, 0, 0, 0, 0, 0, 0, 0, 1] ++ T).length = 22) := by show _ = _; rw [List.length_append, hT]; rfl
  clear hT hE
  go_enter Try.func9, Try.ntmps9
  go_wp2_with fail
  refine HENC.out.mono ?_
  rintro e w1 ⟨A1, n1, c1, rfl, hm1⟩
  obtain rfl : n1 = 22 := by rw [← hm1.1]; exact HT.out
  obtain ⟨b, off, hA, hc0⟩ := hm1.seen.byte 0 (by rw [HT.out]; decide)
  obtain ⟨b', off', hA', hc9⟩ := hm1.seen.byte 9 (by rw [HT.out]; decide)
  rw [hA] at hA'
  injection hA' with hA'
  injection hA' with e1 e2 _
  subst e1 e2 hA
  have hc0' : w1.cell? ⟨b, off, none⟩ = some (.int .u8 245) := by simpa using hc0
  have hc9' : w1.cell? ⟨b, off + 9, none⟩ = some (.int .u8 1) := by simpa using hc9
  have HB1 := Lib.hid hm1.2.2
  clear hc0 hc9 hm1
  go_wp2_with fail
  refine (size_any 0 w1 (by omega) (by omega)).mono ?_
  rintro e w2 ⟨rfl, hb2⟩
  have hs0 : sizeL 0 = 22 := by
    rw [sizeL, if_neg (by omega)]
    show ((putL 0).length : Int) + 0 + 21 = 22
    rw [putL_small (by decide)]; rfl
  rw [hs0]
  have HB2 := Lib.hid (hop HB1.out hb2)
  clear hb2 hs0
  have hcc := fun (C : Array Value) (n c : Nat) => Lib.run_convert_bytes_const (P := Try.prog) w2 22 5 C n c Try.underlying22 Try.underlying5
  have hc2 : ∀ (O : Obj) (C : Array Value) (n c : Nat), (convert 22 22 (.slice (some ⟨w2.heap.size + 1, 0, none⟩) n c)).run Try.prog ((w2.alloc O).alloc (.cells C 5)) = .ok (.slice (some ⟨w2.heap.size + 1, 0, none⟩) n c) ((w2.alloc O).alloc (.cells C 5 (C.size, C.size + 1))) := by
    intro O C n c
    have := Lib.run_convert_bytes_const (P := Try.prog) (w2.alloc O) 22 5 C n c Try.underlying22 Try.underlying5
    simpa using this
  go_wp2_with fail
  refine (batch_any (some ⟨w2.heap.size + 1 + 1, 0, none⟩) [ab w2] 1 1 _ rfl (ab_seen w2) (by omega) ?hfit).mono ?_
  case hfit => rw [ab_is, first_batch]; decide
  rintro e w3 ⟨A3, n3, c3, rfl, hm3⟩
  rw [ab_is, first_batch] at hm3
  have U := text_on hm3.seen n3 c3 hm3.1 w3 (Below.refl _ _)
  have HB3 : Hid (Below w.heap.size w w3) := (((HB2.out.alloc HB2.out.size _).alloc (by have := HB2.out.size; simp; omega) _).alloc (by have := HB2.out.size; simp; omega) _).trans (hm3.2.2.mono (by have := HB2.out.size; simp; omega))
  have hq : (⟨([1, 0, 1, 97, 1, 98] : List UInt8).toArray⟩ : ByteArray) = ⟨#[1, 0, 1, 97, 1, 98]⟩ := rfl
  rw [hq] at U
  clear hm3 hcc hc2 hc0' hc9' hq
  go_wp2_with fail
  go_ret
  exact ⟨rfl, HB3.out⟩
end Go.Proofs.Ytmngcfmlmdhpbaa
