/-
  The statement DiskOwn: what is handed in, and what is answered, is one's own. Condition: the row's own.
-/
import Derived.Test.YtfcbkefpjfmgjaaDkAwake
namespace Go.Proofs.Ytfcbkefpjfmgjaa
open Go.RowKit

theorem DiskAt.poke {w : World} {g k i : Nat} {F : Nat → Prop} {s : Dsk} {u : Value} (h : DiskAt w g F s) (hk : ¬ F k) : DiskAt (w.setCell ⟨k, i, none⟩ u) g F s :=
  h.apart (G := (· = k)) (Spared.setCell (F := (· = k)) (.refl w _) rfl i u) (fun _ hq e => hk (e ▸ hq))
theorem Made.far {e : TypeId} {w0 w : World} {l : List UInt8} {g n c : Nat} (h : Made e w0 l (.slice (some ⟨g, 0, none⟩) n c) w) : w0.heap.size ≤ g ∧ g < w.heap.size :=
  h.1.lt g rfl
theorem Made.blk {e : TypeId} {w0 w : World} {l : List UInt8} {A : Option Addr} {n c : Nat} (h : Made e w0 l (.slice A n c) w) (hn : 0 < n) : ∃ g L, A = some ⟨g, 0, none⟩ ∧ Blk w g L e ∧ n ≤ L.length ∧ w0.heap.size ≤ g := by
  have hl := h.at_len.1
  rcases h.1.2 with ⟨hv, h0⟩ | ⟨g, cap, cur, hv, hg, hh, hnc, hcm, hcs, ht⟩
  · injection hv with _ h2 _; omega
  · injection hv with h1 h2 h3
    refine ⟨g, cur.toList, h1, by unfold Blk; rw [Array.toArray_toList]; exact hh, by rw [Array.length_toList, hcs]; omega, hg⟩
theorem byte_of (y : Int) (h0 : 0 ≤ y) (h1 : y ≤ 255) : ∃ x : UInt8, y = (x.toNat : Int) := ⟨UInt8.ofNat y.toNat, by rw [UInt8.toNat_ofNat']; omega⟩
/-- the disk of one block that was written and synced -/
theorem own_sync (l : List UInt8) : ((Dsk.new 1).write 0 l).sync.K = [l] ∧ ((Dsk.new 1).write 0 l).sync.M = [] ∧ ((Dsk.new 1).write 0 l).sync.off = false := ⟨rfl, rfl, rfl⟩

set_option maxRecDepth 100000 in
set_option maxHeartbeats 1000000 in
theorem diskOwn_walk (A : Option Addr) (l : List UInt8) (c : Nat) (y : Int) (w : World) (hl : l.length ≤ 140737488351232) (hs : Seen w A l) (h0 : 0 ≤ y) (h1 : y ≤ 255) :
    Calls Try.prog 6 #[.slice A l.length c, .int .u8 y] w fun e w' => e = .returned (.bool true) ∧ Below w.heap.size w w' := by
  obtain ⟨x, rfl⟩ := byte_of y h0 h1
  have HS := Lib.hid hs
  have hlen := hl
  clear hs h0 h1 hl
  have HNEW := Lib.hid (fun w => new_any w 1 (by decide) (by decide))
  by_cases h64 : l.length = 64
  · rw [h64]
    obtain ⟨T, u, hT⟩ := text_named (n := 64) (c := c) HS.out h64
    have HL := Lib.hid h64
    clear hlen h64
    obtain ⟨i0, hi, hz0, hz1, hz2⟩ := info_parts info8d
    go_enter Try.func6, Try.ntmps6
    go_wp2_with fail
    refine (awake_any _).mono ?_
    rintro e w1 ⟨rfl, hb⟩
    have B := Lib.hid hb
    clear hb
    go_wp2_with fail
    refine (HNEW.out _).mono ?_
    rintro e w2 ⟨g, F, rfl, hd, hF, hb⟩
    have D := Lib.hid hd
    have HF : Hid (∀ k, F k → w.heap.size ≤ k) := fun k hk => Nat.le_trans B.out.size (hF k hk)
    have B2 := Lib.hid (hop B.out hb)
    clear hd hF hb B HNEW
    go_wp2_with (refine wpList_append_bytes _ rfl (.const (.slice none 0 0)) (.tmp 37) 22 rfl 5 i0 (.int .u8 0) Try.underlying22 hi hz0 hz1 hz2 rfl w2 _ [] A l c rfl (by rw [HL.out]; rfl) (Made.nil _ _) (HS.out.below B2.out) (by rw [HL.out]; decide) ?_; intro v3 w3 hm hb3; obtain ⟨A3, c3, rfl, hm⟩ := made_len hm (n := 64) (by rw [List.nil_append]; exact HL.out); rw [List.nil_append] at hm; obtain ⟨g3, L3, rfl, hk3, hn3, hg3⟩ := hm.blk (by decide); have S3 := Lib.hid hm.at_len.2; have K3 := Lib.hid hk3; have D3 := Lib.hid (D.out.still hb3); have hF3 : ¬ F g3 := (fun hf => by have := D.out.lt g3 hf; omega); have B3 := Lib.hid (hop B2.out hb3); have hgl : w.heap.size ≤ g3 := Nat.le_trans B2.out.size hg3; clear hm hb3 hk3 hg3)
    refine (write_any w3 g F (Dsk.new 1) 0 _ l c3 D3.out (by simp [Dsk.new]) rfl HL.out S3.out (by decide) (by decide) (by decide)).mono ?_
    rintro e w4 ⟨rfl, F4, hd, hsp, hf⟩
    have HF4 : Hid (∀ k, F4 k → w.heap.size ≤ k) := fun k hk => (hf k hk).elim (HF.out k) (Nat.le_trans B3.out.size)
    have B4 := Lib.hid (hsp.below B3.out HF.out)
    have hg3 := K3.out.lt
    have K4 := hsp.blk K3.out hF3
    have hF4 : ¬ F4 g3 := fun h => (hf g3 h).elim hF3 (fun h => by omega)
    have c40 := K4.cell (i := 0) (by omega)
    have f40 := K4.free 0
    have D4 := Lib.hid (hd.poke (i := 0) (u := .int .u8 (x.toNat : Int)) hF4)
    have BS := Lib.hid (B4.out.setCell (p := ⟨g3, 0, none⟩) hgl (.int .u8 (x.toNat : Int)))
    clear hd hsp hf S3 K3 D3 hF3 B3 HF hg3 K4 hF4
    generalize hW : w4.setCell ⟨g3, 0, none⟩ (.int .u8 (x.toNat : Int)) = w5 at D4 BS
    have HW := Lib.hid hW
    clear hW
    go_wp2_with fail
    rw [HW.out]
    refine (read_ok 0 l D4.out (by simp [Dsk.new, Dsk.write, Dsk.did]) rfl (.inl ⟨0, by simp [Dsk.new, Dsk.write, Dsk.did], rfl, rfl, fun j hj h => by simp [Dsk.new, Dsk.write, Dsk.did] at hj; omega⟩)).mono ?_
    rintro e w6 ⟨gb, rfl, hgb, hk, hb⟩
    have v6 := text_on (blk_seen hk) 64 64 HL.out _ (Below.refl _ _)
    have B6 := Lib.hid (hop BS.out hb)
    have u6 := u _ B6.out
    have D6 := Lib.hid (D4.out.still hb)
    have hF6 : ¬ F4 gb := fun h => by have := D4.out.lt gb h; omega
    have c60 := hk.cell (i := 1) (by rw [List.length_map, HL.out]; decide)
    have f60 := hk.free 1
    have hT6 : (⟨l.toArray⟩ : ByteArray) = T := by rw [← hT, ByteArray.toList_eq]
    rw [hT6] at v6
    have D7 := Lib.hid (D6.out.poke (i := 1) (u := .int .u8 (x.toNat : Int)) hF6)
    have B7 := Lib.hid (B6.out.setCell (p := ⟨gb, 1, none⟩) (Nat.le_trans BS.out.size hgb) (.int .u8 (x.toNat : Int)))
    clear hk hb hF6 hgb D6 D4
    generalize hW : w6.setCell ⟨gb, 1, none⟩ (.int .u8 (x.toNat : Int)) = w7 at D7 B7
    have HW := Lib.hid hW
    clear hW
    go_wp2_with fail
    rw [HW.out]
    refine (sync_any w7 g F4 _ D7.out (show 1 + 1 < 9223372036854775808 by decide) (show 0 < 9223372036854775808 by decide) rfl).mono ?_
    rintro e w8 ⟨rfl, F8, hd, hsp, hf⟩
    have HF8 : Hid (∀ k, F8 k → w.heap.size ≤ k) := fun k hk => (hf k hk).elim (HF4.out k) (Nat.le_trans B7.out.size)
    have B8 := Lib.hid (hsp.below B7.out HF4.out)
    have D8 := Lib.hid hd
    clear hd hsp hf D7 B7 u6 v6 c60 f60
    go_wp2_with fail
    refine (image_len 64 D8.out (flat_len D8.out.ok rfl rfl)).mono ?_
    rintro e w9 ⟨A9, c9, rfl, hm⟩
    have hK : ((Dsk.new 1).write 0 l).sync.K.flatten = l := by rw [(own_sync l).1]; simp
    rw [hK] at hm
    have v9 := text_on hm.at_len.2 64 c9 HL.out _ (Below.refl _ _)
    rw [hT6] at v9
    have B9 := Lib.hid (hop B8.out hm.2)
    have u9 := u _ B9.out
    have D9 := Lib.hid (D8.out.still hm.2)
    obtain ⟨g9, L9, rfl, hk9, hn9, hg9⟩ := hm.blk (by decide)
    have hF9 : ¬ F8 g9 := fun h => by have := D8.out.lt g9 h; omega
    have c90 := hk9.cell (i := 2) (by omega)
    have f90 := hk9.free 2
    have D10 := Lib.hid (D9.out.poke (i := 2) (u := .int .u8 (x.toNat : Int)) hF9)
    have B10 := Lib.hid (B9.out.setCell (p := ⟨g9, 2, none⟩) (Nat.le_trans B8.out.size hg9) (.int .u8 (x.toNat : Int)))
    clear hm hk9 hF9 hg9 D9
    generalize hW : w9.setCell ⟨g9, 2, none⟩ (.int .u8 (x.toNat : Int)) = w10 at D10 B10
    have HW := Lib.hid hW
    clear hW
    go_wp2_with fail
    rw [HW.out]
    refine (read_ok 0 l D10.out (by rw [(own_sync l).1]; exact Nat.zero_lt_one) (own_sync l).2.2 (.inr ⟨fun j hj => by rw [(own_sync l).2.1] at hj; simp at hj, by rw [(own_sync l).1]; rfl⟩)).mono ?_
    rintro e w11 ⟨gb', rfl, hgb, hk, hb⟩
    have v11 := text_on (blk_seen hk) 64 64 HL.out _ (Below.refl _ _)
    rw [hT6] at v11
    have B11 := Lib.hid (hop B10.out hb)
    have u11 := u _ B11.out
    clear hk hb hgb
    go_wp2_with fail
    go_ret
    exact ⟨rfl, B11.out⟩
  · obtain ⟨n, hn⟩ : ∃ n, n = l.length := ⟨_, rfl⟩
    rw [← hn] at hlen h64 ⊢
    have h64' : ¬ (n : Int) = 64 := by omega
    clear hn h64
    go_enter Try.func6, Try.ntmps6
    go_wp2_with fail
    refine (awake_any _).mono ?_
    rintro e w1 ⟨rfl, hb⟩
    have B := Lib.hid hb
    clear hb
    go_wp2_with fail
    refine (HNEW.out _).mono ?_
    rintro e w2 ⟨g, F, rfl, _, _, hb⟩
    have B2 := Lib.hid (hop B.out hb)
    clear hb
    go_wp2_with fail
    go_ret
    exact ⟨rfl, B2.out⟩
end Go.Proofs.Ytfcbkefpjfmgjaa
