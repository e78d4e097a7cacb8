/-
  Of the document's disk, Write. Conditions: as each says.
-/
import Derived.Test.YtkbjhnlihnakkaaRfRead
import Derived.Deep.AppendLies
import Derived.Deep.RegionLaw
import Derived.Deep.DrawnRows
namespace Go.Proofs.Ytkbjhnlihnakkaa
open Go.RowKit

theorem infoW : (Try.prog.info? 90).map (fun i => (i.zero, i.size, i.bytes)) = some (some (.agg #[.int .i64 0, .slice none 0 0]), 2, 32) := by kernel_rfl
theorem refWrite_arg (w : World) (r : Nat) (G : Nat → Prop) (s : Dsk) (i : Int) (A : Option Addr) (n c : Nat) (h : RefAt w r G s) (_ : n ≤ 9223372036854775807) (hbad : ¬ ((0 ≤ i ∧ i < s.K.length) ∧ n = 64)) :
    Calls Try.prog 71 #[.pointer (some ⟨r, 0, none⟩), .int .i64 i, .slice A n c] w fun e w' => e = .returned (.int .i64 1) ∧ w' = w := by
  obtain ⟨vK, vM, PK, PM, armed, left, h⟩ := h
  obtain ⟨⟨A0, c0', rfl, _⟩, _⟩ := h.forms
  have hK4 := h.hi
  obtain ⟨c0, _⟩ := h.cells
  clear h
  by_cases h0 : i < 0
  · clear hbad
    go_enter Try.func71, Try.ntmps71
    go_wp2
    go_ret
    exact ⟨rfl, rfl⟩
  by_cases h1 : i < s.K.length
  · have h64 : ((n : Int) != 64) = true := by rw [bne_iff_ne]; omega
    clear hbad
    go_enter Try.func71, Try.ntmps71
    go_wp2
    go_ret
    exact ⟨rfl, rfl⟩
  · clear hbad
    go_enter Try.func71, Try.ntmps71
    go_wp2
    go_ret
    exact ⟨rfl, rfl⟩
theorem refWrite_off (w : World) (r : Nat) (G : Nat → Prop) (s : Dsk) (i : Nat) (A : Option Addr) (c : Nat) (h : RefAt w r G s) (h0 : i < s.K.length) (hoff : s.off = true) :
    Calls Try.prog 71 #[.pointer (some ⟨r, 0, none⟩), .int .i64 (i : Int), .slice A 64 c] w fun e w' => e = .returned (.int .i64 5) ∧ w' = w := by
  obtain ⟨vK, vM, PK, PM, armed, left, h⟩ := h
  obtain ⟨⟨A0, c0', rfl, _⟩, _⟩ := h.forms
  have hK4 := h.hi
  obtain ⟨c0, _, c2, _⟩ := h.cells
  rw [hoff] at c2
  clear h hoff
  go_enter Try.func71, Try.ntmps71
  go_wp2
  go_ret
  exact ⟨rfl, rfl⟩

theorem ref_wrote {w w4 w5 : World} {r g4 cap4 gm cap' i : Nat} {vK vM : Value} {PK : List Piece} {PM : List (Nat × Piece)} {armed : Bool} {left : Int} {G : Nat → Prop} {s : Dsk} {l : List UInt8} (h : RefIn w r vK vM PK PM armed left G s) (hb : w.grownBy w4 none) (hl : l.length = 64)
    (hown4 : w4.ownsRow 0 5 1 (.slice (some ⟨g4, 0, none⟩) (0 + 64) cap4) (0 + 64) ([] ++ l.map bv)) (hge : w.heap.size = g4) (hlt4 : g4 < w4.heap.size) (hi : i < s.K.length)
    (hgr : (w4.alloc (.cells #[.int .i64 (i : Int), .slice (some ⟨g4, 0, none⟩) 64 cap4] 90)).grownBy w5 vM.ownBlock)
    (hown5 : w5.ownsRow 0 90 2 (.slice (some ⟨gm, 0, none⟩) (PM.length + 1) cap') (PM.length + 1) ((PM.map mcell).flatten ++ [.int .i64 (i : Int), .slice (some ⟨g4, 0, none⟩) 64 cap4]))
    (hat : vM.ownBlock = some gm ∨ gm = w4.heap.size + 1) (hlt : gm < w5.heap.size) :
    RefIn (w5.setCell ⟨r, 1, none⟩ (.slice (some ⟨gm, 0, none⟩) (PM.length + 1) cap')) r vK (.slice (some ⟨gm, 0, none⟩) (PM.length + 1) cap') PK (PM ++ [(i, ((some ⟨g4, 0, none⟩ : Option Addr), l, cap4))]) armed left (fun k => G k ∨ (w.heap.size ≤ k ∧ k < w5.heap.size)) { s with M := s.M ++ [(i, l)] } ∧
    Spared w (w5.setCell ⟨r, 1, none⟩ (.slice (some ⟨gm, 0, none⟩) (PM.length + 1) cap')) G ∧ w5.cell? ⟨r, 1, none⟩ = some vM ∧ w5.frozen? ⟨r, 1, none⟩ = false := by
  have hbl : Below w.heap.size w w4 := ⟨hb.os, hb.tape, hb.output, hb.size, fun k hk => hb.block k hk (by simp)⟩
  have hbl1 := hbl.alloc hb.size (.cells #[.int .i64 (i : Int), .slice (some ⟨g4, 0, none⟩) 64 cap4] 90)
  refine ref_appended (q := ((some ⟨g4, 0, none⟩ : Option Addr), l, cap4)) h hbl1 hgr i hi hl ⟨g4, rfl, Nat.le_of_eq hge, ?_, fun j hj => ?_⟩ ?_ ?_ hlt
  · simp; omega
  · have hown4' : w4.ownsRow 0 5 1 (.slice (some ⟨g4, 0, none⟩) 64 cap4) l.length (l.map bv) := by rw [hl]; exact hown4
    have hc := own_bytes hown4' j hj
    rw [World.cell?_alloc_lt _ _ _ hlt4]
    exact hc
  · have e : mcell (i, ((some ⟨g4, 0, none⟩ : Option Addr), l, cap4)) = [.int .i64 (i : Int), .slice (some ⟨g4, 0, none⟩) 64 cap4] := by
      unfold mcell pv; rw [hl]
    rw [e]
    exact hown5
  · simpa using hat

set_option maxRecDepth 100000 in
set_option maxHeartbeats 1000000 in
theorem refWrite_ok (w : World) (r : Nat) (G : Nat → Prop) (s : Dsk) (i : Nat) (A : Option Addr) (l : List UInt8) (c : Nat) (h : RefAt w r G s) (h0 : i < s.K.length) (hon : s.off = false) (hl : l.length = 64) (hs : Seen w A l)
    (hcl : s.calls + 1 < 9223372036854775808) (hlf : s.left < 9223372036854775808) (hm : s.M.length ≤ 1000000) :
    Calls Try.prog 71 #[.pointer (some ⟨r, 0, none⟩), .int .i64 (i : Int), .slice A 64 c] w fun e w' => e = .returned (.int .i64 0) ∧ RMoved w r G (s.write i l) w' := by
  obtain ⟨vK, vM, PK, PM, armed, left, h⟩ := h
  obtain ⟨⟨A0, c0', rfl, _⟩, _⟩ := h.forms
  have hK4 := h.hi
  obtain ⟨c0, c1, c2, _⟩ := h.cells
  rw [hon] at c2
  have f1 := h.blk.free 1
  have hrlt := h.blk.lt
  have hPM : PM.length ≤ 1000000 := by rw [h.len.2.2.2]; exact hm
  have HON := Lib.hid hon
  obtain ⟨b, off, rfl, hb, hc⟩ : ∃ b off, A = some ⟨b, off, none⟩ ∧ b < w.heap.size ∧ ∀ j (h : j < l.length), w.cell? ⟨b, off + j, none⟩ = some (.int .u8 (l[j].toNat : Int)) := by
    rcases hs with rfl | h
    · simp at hl
    · exact h
  have HNEWS : Hid (∀ j u, (l.map bv)[j]? = some u → w.drew.cell? ((⟨b, off, none⟩ : Addr).add j) = some u) := fun j u hu => by
    obtain ⟨hj, hju⟩ := List.getElem?_eq_some_iff.1 hu
    rw [List.length_map] at hj
    rw [add_plain, ← hju, List.getElem_map]
    exact hc j hj
  have HL := Lib.hid hl
  have H := Lib.hid h
  obtain ⟨i8, hi8, hz8, hs8, hb8⟩ := info_parts info8d
  obtain ⟨iW, hiW, hzW, hsW, hbW⟩ := info_parts infoW
  clear h hs hl hon hc hb hm
  go_enter Try.func71, Try.ntmps71
  go_wp2
  go_region_law (first
    | (refine step_append_lies w.drew rfl (.const (.slice none 0 0)) (.tmp 33) 22 rfl 0 5 i8 (.int .u8 0) 1 1 Try.underlying22 hi8 hz8 hs8 hb8 rfl (by decide) (.slice none 0 0) 0 [] (by simp [Act.eval]) (World.ownsRow_nil _ _ _ _) ⟨b, off, none⟩ 64 c (l.map bv) (by simp [Act.eval, Act.put]) (by rw [List.length_map, HL.out]) HNEWS.out (bytes_one l) (by decide) (by unfold maxLen; decide) (by decide) (Nat.zero_le _) _ rfl ?_; intro g4 cap4 w4 hown4 hgr4 hat4 hlt4
       have c14 : w4.cell? ⟨r, 1, none⟩ = some vM := (World.cell?_of_block (a := ⟨r, 1, none⟩) (hgr4.block r hrlt (by simp [Value.ownBlock]))).trans c1
       have hr4 : r < w4.heap.size := Nat.lt_of_lt_of_le hrlt hgr4.size
       have HO4 := Lib.hid hown4
       have HG4 : Hid (w.grownBy w4 none) := ⟨hgr4.os, hgr4.tape, hgr4.output, hgr4.size, hgr4.block⟩
       have HA4 : Hid (w.heap.size = g4) := (by rcases hat4 with e | e; (· cases e); (· exact e.symm))
       have HLT4 := Lib.hid hlt4
       clear hown4 hgr4 hat4 hlt4)
    | (refine step_append_lies (w4.alloc (.cells #[.int .i64 (i : Int), .slice (some ⟨g4, 0, none⟩) 64 cap4] 90)) rfl (.tmp 31) (.tmp 36) 52 rfl 0 90 iW (.agg #[.int .i64 0, .slice none 0 0]) 2 32 Try.underlying52 hiW hzW hsW hbW rfl (by decide) vM PM.length (PM.map mcell).flatten (by simp [Act.eval]) (own_kept H.out.rowM (fun k e hlt => (heap_alloc_old w4 _ (Nat.lt_of_lt_of_le hlt HG4.out.size)).trans (HG4.out.block k hlt (by simp)))) ⟨w4.heap.size, 0, none⟩ 1 1 [.int .i64 (i : Int), .slice (some ⟨g4, 0, none⟩) 64 cap4] (by simp [Act.eval]) rfl (World.news_of_block (heap_alloc_new w4 _)) (by intro u hu; rcases List.mem_cons.1 hu with rfl | hu; (· rfl); (· rw [List.mem_singleton.1 hu]; rfl)) (by decide) (by unfold maxLen; omega) (by omega) (Nat.zero_le _) (w4.heap.size + 1) (by simp) ?_; intro gm cap5 w5 hown5 hgr5 hat5 hlt5
       obtain ⟨D1, D2, c15, f15⟩ := ref_wrote H.out HG4.out HL.out HO4.out HA4.out HLT4.out h0 hgr5 hown5 hat5 hlt5
       have HD1 := Lib.hid D1
       have HD2 := Lib.hid D2
       clear D1 D2 hown5 hgr5 hat5 hlt5))
  all_goals go_wp2_with (go_at_call 81; refine (did_any _ r _ _ _ _ _ _ _ _ HD1.out HON.out hcl hlf).mono ?_; rintro e w7 ⟨rfl, ⟨a7, l7, h7⟩, hs7⟩)
  all_goals go_ret
  all_goals exact ⟨rfl, _, ⟨_, _, _, _, _, _, h7⟩, HD2.out.trans hs7 (fun k hk => hk.elim .inl (fun h => .inr h.1)), fun k hk => hk.elim .inl (fun h => .inr h.1)⟩

theorem refWrite_all (w : World) (r : Nat) (G : Nat → Prop) (s : Dsk) (i : Int) (A : Option Addr) (l : List UInt8) (n c : Nat) (h : RefAt w r G s) (hl : l.length = n) (hn : n ≤ 9223372036854775807) (hs : Seen w A l) (hf : s.Few 1000000) :
    Calls Try.prog 71 #[.pointer (some ⟨r, 0, none⟩), .int .i64 i, .slice A n c] w fun e w' => e = .returned (.int .i64 (s.werr i n)) ∧ RMoved w r G (s.wput i l) w' := by
  by_cases h0 : (0 ≤ i ∧ i < s.K.length) ∧ n = 64
  · obtain ⟨h0, rfl⟩ := h0
    obtain ⟨k, rfl⟩ : ∃ k : Nat, i = (k : Int) := ⟨i.toNat, by omega⟩
    by_cases ho : s.off = true
    · have e1 : s.werr k 64 = 5 := by unfold Dsk.werr; rw [if_pos ⟨h0, rfl⟩, if_pos ho]
      have e2 : s.wput k l = s := by unfold Dsk.wput; rw [hl, e1]; rfl
      rw [e1, e2]
      refine (refWrite_off w r G s k A c h (by omega) ho).mono ?_
      rintro e w' ⟨rfl, rfl⟩
      exact ⟨rfl, .still h (Below.refl _ _)⟩
    · have ho' : s.off = false := by cases hs : s.off <;> simp_all
      have e1 : s.werr k 64 = 0 := by unfold Dsk.werr; rw [if_pos ⟨h0, rfl⟩, if_neg ho]
      have e2 : s.wput k l = s.write k l := by unfold Dsk.wput; rw [hl, e1]; rfl
      rw [e1, e2]
      exact refWrite_ok w r G s k A l c h (by omega) ho' hl hs (by have := hf.1; omega) hf.2.2 hf.2.1
  · have e1 : s.werr i n = 1 := by unfold Dsk.werr; rw [if_neg h0]
    have e2 : s.wput i l = s := by unfold Dsk.wput; rw [hl, e1]; rfl
    rw [e1, e2]
    refine (refWrite_arg w r G s i A n c h hn h0).mono ?_
    rintro e w' ⟨rfl, rfl⟩
    exact ⟨rfl, .still h (Below.refl _ _)⟩
end Go.Proofs.Ytkbjhnlihnakkaa
