/-
  copied and own: bytes and pairs with memory of their own. Conditions: at most 1,000,000,000 bytes each.
-/
import Derived.Test.YtaeocbgmoijedaaTrSmall
import Derived.Deep.RegionHeldLaw
import Derived.Deep.RegionHeld3
import Derived.OwnWalk
import Derived.Outline
namespace Go.Proofs.Ytaeocbgmoijedaa
open Go.RowKit

theorem info8 : (Try.prog.info? 5).map (fun i => (i.zero, i.size, i.bytes)) = some (some (.int .u8 0), 1, 1) := by kernel_rfl
theorem size8 : (Try.prog.info? 5).map (·.size) = some 1 := by kernel_rfl

theorem make_bytes (n : Nat) (hn : n ≤ 1000000000) (w : World) : (Instr.makeSlice 31 (.int .i64 (n : Int)) (.int .i64 (n : Int))).run Try.prog w = .ok (.slice (some ⟨w.heap.size, 0, none⟩) n n) (w.alloc (.cells (madeCells #[.int .u8 0] n) 5)) := by
  obtain ⟨i0, hi, hz0, hz1, hz2⟩ := info_parts info8
  have := run_make (P := Try.prog) w 31 5 i0 (.int .u8 0) Try.underlying31 hi hz0 .i64 .i64 (n : Int) (n : Int) (by omega) (by omega) (by rw [hz2]; omega) (by omega)
  rw [hz1, Nat.mul_one] at this
  simpa [Value.cells] using this

theorem below_grown1 {W w w' : World} {g : Nat} (h : Below W.heap.size W w) (hg : w.grownBy w' (some g)) (hle : W.heap.size ≤ g) : Below W.heap.size W w' :=
  ⟨hg.os.trans h.os, hg.tape.trans h.tape, hg.output.trans h.output, Nat.le_trans h.size hg.size, fun k hk => (hg.block k (Nat.lt_of_lt_of_le hk h.size) (fun e => by injection e with e; omega)).trans (h.block k hk)⟩
/-- bytes of the call's own -/
def NewPiece (w w' : World) (l : List UInt8) (q : Piece) : Prop := q.2.1 = l ∧ PieceIn w' (fun b => b < w.heap.size) q

set_option maxHeartbeats 400000 in
theorem copied_any (w : World) (A : Option Addr) (l : List UInt8) (n c : Nat) (hl : l.length = n) (hn : n ≤ 1000000000) (hs : Seen w A l) :
    Calls Try.prog 42 #[.slice A n c] w fun e w' => (∃ q : Piece, e = .returned (pv q) ∧ NewPiece w w' l q) ∧ Below w.heap.size w w' := by
  have hmk := make_bytes n hn w
  have HL := Lib.hid hl
  have HS := Lib.hid (hs.below ((Below.refl _ _).alloc (Nat.le_refl _) (.cells (madeCells #[.int .u8 0] n) 5)))
  have HB : Hid (Blk (w.alloc (.cells (madeCells #[.int .u8 0] n) 5)) w.heap.size (madeCells #[.int .u8 0] n).toList 5) := by
    have := Blk.new w (madeCells #[.int .u8 0] n).toList 5
    rw [Array.toArray_toList] at this
    exact this
  have HBB : Hid (Below w.heap.size w (w.alloc (.cells (madeCells #[.int .u8 0] n) 5))) := (Below.refl _ _).alloc (Nat.le_refl _) _
  have HML : Hid ((madeCells #[.int .u8 0] n).toList.length = n) := by show _ = _; rw [Array.length_toList, size_madeCells]
  have HSZ : Hid ((w.alloc (.cells (madeCells #[.int .u8 0] n) 5)).heap.size = w.heap.size + 1) := by show _ = _; simp
  clear hl hs
  obtain ⟨w2, hw2⟩ : ∃ w2, w2 = w.alloc (.cells (madeCells #[.int .u8 0] n) 5) := ⟨_, rfl⟩
  rw [← hw2] at hmk HS HB HBB HSZ
  clear hw2
  generalize (madeCells #[.int .u8 0] n).toList = cur at *
  by_cases h0 : n = 0
  · subst h0
    have HE : Hid (l = []) := List.eq_nil_of_length_eq_zero HL.out
    change (Instr.makeSlice 31 (.int .i64 0) (.int .i64 0)).run Try.prog w = _ at hmk
    go_enter Try.func42, Try.ntmps42
    go_wp2_with (refine wpList_copy_nothing rfl (.tmp 7) (.tmp 8) 31 31 rfl 5 Try.underlying31 size8 (some ⟨w.heap.size, 0, none⟩) A 0 0 0 c rfl rfl rfl ?_)
    go_ret
    exact ⟨⟨(some ⟨w.heap.size, 0, none⟩, [], 0), rfl, HE.out.symm, .inl rfl, Nat.le_refl _, Nat.zero_le _⟩, HBB.out⟩
  · have hp : 0 < n := by omega
    go_enter Try.func42, Try.ntmps42
    go_wp2_with (refine wpList_copy_into rfl (.tmp 7) (.tmp 8) 31 rfl 5 Try.underlying31 size8 w.heap.size 0 n n A l n c (by rfl) (by rfl) HL.out cur 5 HB.out HS.out hp n (by simp) (by rw [HML.out]; omega) ?_)
    intro w3 hb3 hg3
    have HBK : Hid (Blk w3 w.heap.size (l.map bv) 5) := by
      have := hb3.out
      have e : splice cur 0 (List.take n (l.map bv)) = l.map bv := by
        have e0 : List.take n (l.map bv) = l.map bv := List.take_of_length_le (by rw [List.length_map, HL.out]; exact Nat.le_refl _)
        unfold splice
        rw [e0, List.drop_eq_nil_of_le (by rw [HML.out, List.length_map, HL.out]; omega), List.append_nil]
        rfl
      rw [e] at this
      exact this
    have HB3 : Hid (Below w.heap.size w w3) := below_grown1 HBB.out hg3.out (Nat.le_refl _)
    clear hb3 hg3
    go_wp2_with fail
    go_ret
    refine ⟨⟨(some ⟨w.heap.size, 0, none⟩, l, n), by rw [← HL.out]; rfl, rfl, .inr ⟨w.heap.size, 0, rfl, HBK.out.lt, Nat.lt_irrefl _, fun j hj => ?_, _, _, HBK.out⟩, by rw [HL.out]; exact Nat.le_refl _, by rw [HL.out]; exact hn⟩, HB3.out⟩
    rw [Nat.zero_add, HBK.out.cell (by simpa using hj), List.getElem_map]
    rfl

theorem PieceIn.mono {w : World} {F G : Nat → Prop} {q : Piece} (h : PieceIn w F q) (hG : ∀ b, G b → F b) : PieceIn w G q := h.moved (.refl w F) (fun i hi => .inl (hG i hi))
theorem EOk.mono {w : World} {F G : Nat → Prop} {h : Nat} {x : El h} (hx : EOk w F h x) (hG : ∀ b, G b → F b) : EOk w G h x := EOk.moved (.refl w F) (fun i hi => .inl (hG i hi)) h x hx
/-- a pair -/
def mkPair (a b : Piece) : El 0 := ((a, b) : Piece × Piece)

set_option maxHeartbeats 1000000 in
theorem own_any (w : World) (A B : Option Addr) (l k : List UInt8) (n c m d : Nat) (hl : l.length = n) (hm : k.length = m) (hn : n ≤ 1000000000) (hm2 : m ≤ 1000000000) (hs : Seen w A l) (hk : Seen w B k) :
    Calls Try.prog 29 #[.agg #[.slice A n c, .slice B m d]] w fun e w' => (∃ a b : Piece, e = .returned (.agg #[pv a, pv b]) ∧ NewPiece w w' l a ∧ NewPiece w w' k b) ∧ Below w.heap.size w w' := by
  obtain ⟨w2, hw2⟩ : ∃ w2, w2 = (w.alloc (.cells #[.slice A n c, .slice B m d] 48)).alloc (.cells #[.slice none 0 0, .slice none 0 0] 48) := ⟨_, rfl⟩
  have HB1 : Hid (Blk w2 w.heap.size [.slice A n c, .slice B m d] 48) := by rw [hw2]; exact (Blk.new w _ _).alloc _
  have HB2 : Hid (Blk w2 (w.heap.size + 1) [.slice none 0 0, .slice none 0 0] 48) := by
    have := Blk.new (w.alloc (.cells #[.slice A n c, .slice B m d] 48)) [.slice none 0 0, .slice none 0 0] 48
    rw [show (w.alloc (.cells #[.slice A n c, .slice B m d] 48)).heap.size = w.heap.size + 1 by simp] at this
    rw [hw2]; exact this
  have HBW : Hid (Below w.heap.size w w2) := by rw [hw2]; exact ((Below.refl _ _).alloc (Nat.le_refl _) _).alloc (by simp) _
  have HSZ : Hid (w2.heap.size = w.heap.size + 1 + 1) := by rw [hw2]; show _ = _; simp
  have HW : Hid ((w.alloc (.cells #[.slice A n c, .slice B m d] 48)).alloc (.cells #[.slice none 0 0, .slice none 0 0] 48) = w2) := hw2.symm
  have HC1 : Hid (∀ W, Below w2.heap.size w2 W → Calls Try.prog 42 #[.slice A n c] W fun e w' => (∃ q : Piece, e = .returned (.slice q.1 q.2.1.length q.2.2) ∧ NewPiece W w' l q) ∧ Below W.heap.size W w') := fun W hW => copied_any W A l n c hl hn ((hs.below HBW.out).below hW)
  have HC2 : Hid (∀ W, Below w2.heap.size w2 W → Calls Try.prog 42 #[.slice B m d] W fun e w' => (∃ q : Piece, e = .returned (.slice q.1 q.2.1.length q.2.2) ∧ NewPiece W w' k q) ∧ Below W.heap.size W w') := fun W hW => copied_any W B k m d hm hm2 ((hk.below HBW.out).below hW)
  have HK : Hid (∀ W, Below w2.heap.size w2 W → Below w2.heap.size w2 W ∧ W.cell? ⟨w.heap.size, 0, none⟩ = some (.slice A n c) ∧ W.cell? ⟨w.heap.size, 1, none⟩ = some (.slice B m d)) := fun W hW => by
    have := HB1.out.below hW HB1.out.lt
    exact ⟨hW, this.cell (i := 0) (by simp), this.cell (i := 1) (by simp)⟩
  have HR : Hid (∀ W, Below w2.heap.size w2 W → Blk W (w.heap.size + 1) [.slice none 0 0, .slice none 0 0] 48) := fun W hW => HB2.out.below hW HB2.out.lt
  clear hw2 hs hk hl hm hn hm2
  have bd : Below w2.heap.size w2 w2.drew := (Below.refl _ _).drew
  go_enter Try.func29, Try.ntmps29
  go_wp2_with fail
  rw [HW.out]
  go_region_held_law (fun w' => w'.cell? ⟨w.heap.size, 0, none⟩ = some (.slice A n c) ∧ w'.cell? ⟨w.heap.size, 1, none⟩ = some (.slice B m d))
    (first | exact (HK.out _ bd).2 | exact (HK.out _ bd3).2 | exact (HK.out _ bd4).2 | go_keep)
    (first
      | (go_at_call 42; (with_reducible refine (HC1.out _ bd).mono ?_); rintro e w3 ⟨⟨qa, rfl, hqa⟩, hb3⟩; have HQA := Lib.hid hqa; have HB3 := Lib.hid hb3; have bd3 : Below w2.heap.size w2 w3 := undrew hb3; clear hqa hb3)
      | (go_at_call 42; (with_reducible refine (HC2.out _ bd3).mono ?_); rintro e w4 ⟨⟨qb, rfl, hqb⟩, hb4⟩; have HQB := Lib.hid hqb; have HB4 := Lib.hid hb4; have bd4 : Below w2.heap.size w2 w4 := hop bd3 hb4; have r0 := (HR.out _ bd4).cell (i := 0) (by simp); have r1 := (HR.out _ bd4).cell (i := 1) (by simp); have f0 := (HR.out _ bd4).free 0; have f1 := (HR.out _ bd4).free 1; clear hqb hb4))
  have hs4 : Spared w4 ((w4.setCell ⟨w.heap.size + 1, 0, none⟩ (.slice qa.1 qa.2.1.length qa.2.2)).setCell ⟨w.heap.size + 1, 1, none⟩ (.slice qb.1 qb.2.1.length qb.2.2)) (fun b => b < w2.heap.size) := by
    have := HSZ.out
    exact ((Spared.refl w4 _).setCell (by omega) _ _).setCell (by omega) _ _
  have HQA' := Lib.hid ((HQA.out.2.below HB4.out).moved hs4 (G := fun b => b < w.heap.size) (fun i hi => .inl (by have := HSZ.out; show i < w2.heap.size; omega)))
  have HQB' := Lib.hid ((HQB.out.2.mono (G := fun b => b < w2.heap.size) (fun b hb => Nat.lt_of_lt_of_le hb bd3.size)).moved hs4 (G := fun b => b < w.heap.size) (fun i hi => .inl (by have := HSZ.out; show i < w2.heap.size; omega)))
  have HE1 := Lib.hid HQA.out.1
  have HE2 := Lib.hid HQB.out.1
  have HBE : Hid (Below w.heap.size w ((w4.setCell ⟨w.heap.size + 1, 0, none⟩ (.slice qa.1 qa.2.1.length qa.2.2)).setCell ⟨w.heap.size + 1, 1, none⟩ (.slice qb.1 qb.2.1.length qb.2.2))) := (((hop HBW.out bd4)).setCell (by simp) _).setCell (by simp) _
  simp only [List.getElem_cons_zero, List.getElem_cons_succ] at r0 r1
  clear hs4
  go_wp2_with fail
  exact bodyPost_ret (v := .agg #[pv qa, pv qb]) (by simp [results, Try.results29, go_sem, r0, r1, pv]) rfl ⟨⟨qa, qb, rfl, ⟨HE1.out, HQA'.out⟩, ⟨HE2.out, HQB'.out⟩⟩, HBE.out⟩
end Go.Proofs.Ytaeocbgmoijedaa
