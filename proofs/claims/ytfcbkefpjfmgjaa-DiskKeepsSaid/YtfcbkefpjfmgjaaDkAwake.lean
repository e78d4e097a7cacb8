/-
  The chapter's example is answered. No conditions.
-/
import Derived.Test.YtfcbkefpjfmgjaaDkWrite
import Derived.Test.YtfcbkefpjfmgjaaDkCrash
import Derived.Test.YtfcbkefpjfmgjaaDkBlock
import Derived.Deep.RegionHeldLaw
import Derived.Deep.DrawnRows
namespace Go.Proofs.Ytfcbkefpjfmgjaa
open Go.RowKit

theorem blk_seen {w : World} {b : Nat} {l : List UInt8} {t : TypeId} (h : Blk w b (l.map bv) t) : Seen w (some ⟨b, 0, none⟩) l := by
  rcases Nat.eq_zero_or_pos l.length with h0 | h0
  · exact .inl (List.eq_nil_of_length_eq_zero h0)
  · refine .inr ⟨b, 0, rfl, h.lt, fun j hj => ?_⟩
    rw [Nat.zero_add, h.cell (by simpa using hj)]
    simp [bv]
/-- the text of a slice under one name -/
theorem text_named {w : World} {A : Option Addr} {l : List UInt8} {n c : Nat} (hs : Seen w A l) (hn : l.length = n) : ∃ T : ByteArray, (∀ w', Below w.heap.size w w' → (convert 22 9 (.slice A n c)).run Try.prog w' = .ok (.string T) w') ∧ T.toList = l :=
  ⟨⟨l.toArray⟩, text_on hs n c hn, by simp [ByteArray.toList_eq]⟩
theorem Made.away {e : TypeId} {w0 w : World} {l : List UInt8} {A : Option Addr} {n c : Nat} {F : Nat → Prop} (h : Made e w0 l (.slice A n c) w) (hF : ∀ k, F k → k < w0.heap.size) : Away w F A l :=
  .of_seen h.at_len.2 fun b off e _ hf => by
    rcases h.1.2 with ⟨hv, _⟩ | ⟨g, cap, cur, hv, hb, _⟩
    · injection hv with hv _ _; rw [hv] at e; cases e
    · injection hv with hv _ _; rw [hv] at e; injection e with e; injection e with e _ _; have := hF b hf; omega
/-- a byte of a slice -/
theorem Seen.byte {w : World} {A : Option Addr} {l : List UInt8} (h : Seen w A l) (k : Nat) (x : UInt8) (hx : l[k]? = some x) : ∃ b off, A = some ⟨b, off, none⟩ ∧ ∀ w', Below w.heap.size w w' → w'.cell? ⟨b, off + k, none⟩ = some (.int .u8 (x.toNat : Int)) := by
  obtain ⟨hk, hx⟩ := List.getElem?_eq_some_iff.1 hx
  obtain ⟨b, off, rfl, hb, hc⟩ := h.at_ hk
  exact ⟨b, off, rfl, fun w' hbl => by rw [hbl.cell (p := ⟨b, off + k, none⟩) hb, hc, hx]⟩
theorem ints_one (w : World) (t : TypeId) (z : Int) : Ints (w.alloc (.cells #[.int .i64 z] t)) (some ⟨w.heap.size, 0, none⟩) [z] := by
  refine .inr ⟨w.heap.size, 0, rfl, by simp, fun j hj => ?_⟩
  rw [World.cell?_alloc_at _ _ _ _ rfl]
  obtain rfl : j = 0 := by simp at hj; omega
  rfl

theorem ints_away {w : World} {F : Nat → Prop} (t : TypeId) (z : Int) (hF : ∀ k, F k → k < w.heap.size) : IntsAway (w.alloc (.cells #[.int .i64 z] t)) F (some ⟨w.heap.size, 0, none⟩) [z] := by
  rcases ints_one w t z with h | ⟨b, off, e, h1, h2⟩
  · cases h
  · refine .inr ⟨b, off, e, h1, fun hf => ?_, h2⟩
    injection e with e
    injection e with e _ _
    have := hF b hf
    omega
theorem klen_crash (s : Dsk) (pick : Nat → Bool) : (s.crash pick).K.length = s.K.length := kept_length _ _ _ _
theorem klen_sync (s : Dsk) : s.sync.K.length = s.K.length := kept_length _ _ _ _
theorem klen_write (s : Dsk) (i : Nat) (b : List UInt8) : (s.write i b).K.length = s.K.length := rfl
theorem klen_new (n : Nat) : (Dsk.new n).K.length = n := by simp [Dsk.new]
theorem flat_len {s : Dsk} (ok : s.Ok) {n m : Nat} (h : s.K.length = n) (hm : n * 64 = m) : s.K.flatten.length = m := by
  rw [flat_length (m := 64) _ ok.len, h, hm]
theorem read_ok {w : World} {g : Nat} {F : Nat → Prop} {s : Dsk} (i : Nat) (x : List UInt8) (h : DiskAt w g F s) (hi : i < s.K.length) (hon : s.off = false) (hx : s.Last i x) :
    Calls Try.prog 19 #[.pointer (some ⟨g, 0, none⟩), .int .i64 (i : Int)] w fun e w' => ∃ gb, e = .returned (.tuple #[.slice (some ⟨gb, 0, none⟩) 64 64, .int .i64 0]) ∧ w.heap.size ≤ gb ∧ Blk w' gb (x.map bv) 59 ∧ Below w.heap.size w w' := by
  refine (read_any w g F s i h).mono ?_
  rintro e w' ⟨hb, ⟨hn, _⟩ | ⟨_, ho, _⟩ | ⟨_, _, y, gb, hy, hg, hk, he⟩⟩
  · exact absurd (by omega) hn
  · rw [hon] at ho; cases ho
  · obtain rfl : x = y := hx.one (by simpa using hy)
    exact ⟨gb, he, hg, hk, hb⟩
theorem image_len {w : World} {g : Nat} {F : Nat → Prop} {s : Dsk} (n : Nat) (h : DiskAt w g F s) (hn : s.K.flatten.length = n) :
    Calls Try.prog 15 #[.pointer (some ⟨g, 0, none⟩)] w fun e w' => ∃ A c, e = .returned (.slice A n c) ∧ Made 5 w s.K.flatten (.slice A n c) w' := by
  refine (image_any w g F s h).mono ?_
  rintro e w' ⟨v, rfl, hm⟩
  obtain ⟨A, c, rfl, hm⟩ := made_len hm hn
  exact ⟨A, c, rfl, hm⟩

set_option maxRecDepth 100000 in
set_option maxHeartbeats 1000000 in
theorem awake_any (w : World) :
    Calls Try.prog 9 #[] w fun e w' => e = .returned (.bool true) ∧ Below w.heap.size w w' := by
  have HNEW := Lib.hid (new_any w 2 (by decide) (by decide))
  go_enter Try.func9, Try.ntmps9
  go_wp2_with fail
  refine HNEW.out.mono ?_
  rintro e w1 ⟨g, F, rfl, hd, hF, hb⟩
  have D := Lib.hid hd
  have HF := Lib.hid hF
  have B := Lib.hid hb
  clear hd hF hb HNEW
  go_wp2_with fail
  refine (block_any w1 7).mono ?_
  rintro e w2 ⟨rfl, hk, hb⟩
  have S2 := Lib.hid (blk_seen hk)
  have D2 := Lib.hid (D.out.still hb)
  have B2 := Lib.hid (hop B.out hb)
  clear hk hb D B
  go_wp2_with fail
  refine (write_any w2 g F (Dsk.new 2) 0 _ (List.replicate 64 7) 64 D2.out (by simp [Dsk.new]) rfl (by simp) S2.out (by decide) (by decide) (by decide)).mono ?_
  rintro e w3 ⟨rfl, F3, hd, hs, hf⟩
  have D3 := Lib.hid hd
  have HF3 : Hid (∀ k, F3 k → w.heap.size ≤ k) := fun k hk => (hf k hk).elim (HF.out k) (Nat.le_trans B2.out.size)
  have B3 := Lib.hid (hs.below B2.out HF.out)
  clear hd hs hf D2 HF S2 B2
  go_wp2_with fail
  refine (read_ok 0 (List.replicate 64 7) D3.out (by simp [Dsk.new, Dsk.write, Dsk.did]) rfl (.inl ⟨0, by simp [Dsk.new, Dsk.write, Dsk.did], rfl, rfl, fun j hj h => by simp [Dsk.new, Dsk.write, Dsk.did] at hj; omega⟩)).mono ?_
  rintro e w4 ⟨gb, rfl, hgb, hk, hb⟩
  have S4 := Lib.hid (Away.of_seen (F := F3) (blk_seen hk) (fun b off e _ hf => by injection e with e; injection e with e _ _; have := D3.out.lt b hf; omega))
  have D4 := Lib.hid (D3.out.still hb)
  have B4 := Lib.hid (hop B3.out hb)
  clear hgb hk hb D3 B3
  go_wp2_with fail
  refine (image_len 128 D4.out (by simp [Dsk.new, Dsk.write, Dsk.did])).mono ?_
  rintro e w5 ⟨A5, c5, rfl, hm⟩
  have S5 := Lib.hid (hm.away D4.out.lt)
  have T5 := Lib.hid (S4.out.moved (G := F3) (.of_below hm.2 F3) (fun _ h => .inl h))
  have D5 := Lib.hid (D4.out.still hm.2)
  have B5 := Lib.hid (hop B4.out hm.2)
  clear hm S4 D4 B4
  go_wp2_with fail
  refine (crash_any (w5.alloc (.cells #[.int .i64 1] 3)) g F3 _ (D5.out.still ((Below.refl _ _).alloc (Nat.le_refl _) _)) _ [1] 1 (ints_away 3 1 D5.out.lt) (by intro x hx; rw [List.mem_singleton.1 hx]; decide) (by decide)).mono ?_
  rintro e w6 ⟨rfl, F6, hd, hs, hf⟩
  have BA := Lib.hid ((Below.refl w5.heap.size w5).alloc (Nat.le_refl _) (.cells #[.int .i64 1] 3))
  have S6 := Lib.hid ((S5.out.moved (G := F3) (.of_below BA.out F3) (fun _ h => .inl h)).moved hs hf)
  have T6 := Lib.hid ((T5.out.moved (G := F3) (.of_below BA.out F3) (fun _ h => .inl h)).moved hs hf)
  have D6 := Lib.hid hd
  have B6 := Lib.hid (hs.below (hop B5.out BA.out) HF3.out)
  clear hd hs hf S5 T5 D5 B5 BA
  go_wp2_with fail
  refine (image_len 128 D6.out (by rw [flat_length (m := 64) _ D6.out.ok.len, klen_crash]; rfl)).mono ?_
  rintro e w7 ⟨A7, c7, rfl, hm⟩
  obtain ⟨T8, u8, e8⟩ := text_named (n := 64) (c := 64) (T6.out.moved (G := F6) (.of_below hm.2 F6) (fun _ h => .inl h)).seen (by simp)
  obtain ⟨b1, o1, rfl, l1⟩ := Seen.byte (S6.out.moved (G := F6) (.of_below hm.2 F6) (fun _ h => .inl h)).seen 0 0 (by rfl)
  obtain ⟨b2, o2, hA, l2⟩ := Seen.byte hm.at_len.2 0 7 (by rfl)
  obtain ⟨b3, o3, hA3, l3⟩ := Seen.byte hm.at_len.2 64 0 (by rfl)
  subst hA
  injection hA3 with hA3
  injection hA3 with hA3 hA4 _
  subst hA3 hA4
  have B7 := Lib.hid (hop B6.out hm.2)
  have HE := Lib.hid e8
  clear hm S6 T6 D6 B6 e8
  have HT7 : Hid (∀ w', Below w7.heap.size w7 w' → Calls Try.prog 28 #[.int .u8 7] w' fun e w'' => ∃ bb, e = .returned (.slice (some ⟨bb, 0, none⟩) 64 64) ∧ (convert 22 9 (.slice (some ⟨bb, 0, none⟩) 64 64)).run Try.prog w'' = .ok (.string T8) w'' ∧ Below w'.heap.size w' w'') := fun w' _ => by
    refine (block_any w' 7).mono ?_
    rintro e w'' ⟨rfl, hk, hb⟩
    have ht := text_on (blk_seen hk) 64 64 (by simp) _ (Below.refl _ _)
    have e : (⟨(List.replicate 64 (7 : UInt8)).toArray⟩ : ByteArray) = T8 := by
      have h := HE.out
      rw [ByteArray.toList_eq] at h
      rw [← h]
    rw [e] at ht
    exact ⟨_, rfl, ht, hb⟩
  have bd : Below w7.heap.size w7 w7.drew := (Below.refl _ _).drew
  have l1 : ∀ w', Below w7.heap.size w7 w' → w'.cell? ⟨b1, o1, none⟩ = some (.int .u8 0) := l1
  have l2 : ∀ w', Below w7.heap.size w7 w' → w'.cell? ⟨b2, o2, none⟩ = some (.int .u8 7) := l2
  have l3 : ∀ w', Below w7.heap.size w7 w' → w'.cell? ⟨b2, o2 + 64, none⟩ = some (.int .u8 0) := l3
  clear HE
  go_wp2_with fail
  go_region_held_law (fun w' => Below w7.heap.size w7 w') (first | exact bd | assumption | (exact hop ‹Below w7.heap.size w7 _› (by assumption)))
    (first
      | (go_at_call 28; refine (HT7.out _ ?_).mono ?_; (assumption); rintro e w9 ⟨bb, rfl, hu9, hb9⟩))
  all_goals go_wp2_with fail
  all_goals go_ret
  all_goals exact ⟨rfl, hop B7.out (by assumption)⟩
end Go.Proofs.Ytfcbkefpjfmgjaa
