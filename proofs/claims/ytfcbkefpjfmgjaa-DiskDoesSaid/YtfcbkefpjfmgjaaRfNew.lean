/-
  The document's disk, new. Condition: at most 4096 blocks.
-/
import Derived.Test.YtfcbkefpjfmgjaaRfSmall
import Derived.Test.YtfcbkefpjfmgjaaDkBlock
import Derived.Deep.AppendLies
import Derived.Deep.RegionLaw
import Derived.Deep.DrawnRows
namespace Go.Proofs.Ytfcbkefpjfmgjaa
open Go.RowKit

theorem infoB : (Try.prog.info? 22).map (fun i => (i.zero, i.size, i.bytes)) = some (some (.slice none 0 0), 1, 24) := by kernel_rfl

section
variable {w w1 w5 : World} {r gk cap' : Nat} {vK : Value} {PK : List Piece} {G : Nat → Prop} {s : Dsk} {q : Piece}
theorem ref_kept (h : RefIn w r vK (.slice none 0 0) PK [] false 0 G s) (hb : Below w.heap.size w w1) (hgr : w1.grownBy w5 vK.ownBlock) (hl : q.2.1.length = 64) (hM : s.M = []) (hhi : s.K.length + 1 ≤ 4096)
    (hq : ∃ b, q.1 = some ⟨b, 0, none⟩ ∧ w.heap.size ≤ b ∧ b < w1.heap.size ∧ ∀ j (h : j < q.2.1.length), w1.cell? ⟨b, 0 + j, none⟩ = some (.int .u8 (q.2.1[j].toNat : Int)))
    (hown : w5.ownsRow 0 22 1 (.slice (some ⟨gk, 0, none⟩) (PK.length + 1) cap') (PK.length + 1) (PK.map pv ++ [pv q])) (hat : vK.ownBlock = some gk ∨ gk = w1.heap.size) (hlt : gk < w5.heap.size) :
    RefIn (w5.setCell ⟨r, 0, none⟩ (.slice (some ⟨gk, 0, none⟩) (PK.length + 1) cap')) r (.slice (some ⟨gk, 0, none⟩) (PK.length + 1) cap') (.slice none 0 0) (PK ++ [q]) [] false 0 (fun k => G k ∨ (w.heap.size ≤ k ∧ k < w5.heap.size)) { s with K := s.K ++ [q.2.1] } ∧
    Spared w (w5.setCell ⟨r, 0, none⟩ (.slice (some ⟨gk, 0, none⟩) (PK.length + 1) cap')) G ∧ w5.cell? ⟨r, 0, none⟩ = some vK ∧ w5.frozen? ⟨r, 0, none⟩ = false := by
  have hr1 : Blk w1 r _ _ := h.blk.below hb h.blk.lt
  have hrK : vK.ownBlock ≠ some r := fun e => (h.gK r e).2 rfl
  have hr5 : Blk w5 r (rfCells vK (.slice none 0 0) s.off false 0 s.calls) 47 := (hgr.block r hr1.lt (fun e => hrK e.symm)).trans hr1
  have hmr : gk ≠ r := by
    rcases hat with e | e
    · exact (h.gK gk e).2
    · have := hr1.lt; omega
  have hsz : w.heap.size ≤ w5.heap.size := Nat.le_trans hb.size hgr.size
  have hsz' : w5.heap.size = (w5.setCell ⟨r, 0, none⟩ (.slice (some ⟨gk, 0, none⟩) (PK.length + 1) cap')).heap.size := by simp [World.setCell]
  have hk : ∀ b, b < w.heap.size → b ≠ r → vK.ownBlock ≠ some b → (w5.setCell ⟨r, 0, none⟩ (.slice (some ⟨gk, 0, none⟩) (PK.length + 1) cap')).heap[b]? = w.heap[b]? := fun b hlt hbr hbM =>
    (heap_setCell_other w5 ⟨r, 0, none⟩ b _ (fun e => hbr e)).trans ((hgr.block b (Nat.lt_of_lt_of_le hlt hb.size) (fun e => hbM e.symm)).trans (hb.block b hlt))
  have hgmb : ∀ b, b < w.heap.size → vK.ownBlock ≠ some b → gk ≠ b := fun b hlt hbM e => by
    rcases hat with e2 | e2
    · exact hbM (by rw [e2, e])
    · have := hb.size; omega
  have hs1 : Spared w w5 G := (Spared.of_below hb G).trans (.of_grown hgr (F := G) (fun k e _ => (h.gK k e).1)) (fun _ h => .inl h)
  have hnew : Hold (w5.setCell ⟨r, 0, none⟩ (.slice (some ⟨gk, 0, none⟩) (PK.length + 1) cap')) r (.slice (some ⟨gk, 0, none⟩) (PK.length + 1) cap') (.slice none 0 0) (fun k => G k ∨ (w.heap.size ≤ k ∧ k < w5.heap.size)) q := by
    obtain ⟨b, e, hle, hlt1, hc⟩ := hq
    have hbr : b ≠ r := by have := h.blk.lt; omega
    have hbM : vK.ownBlock ≠ some b := fun e => by have := h.lt b (h.gK b e).1; omega
    refine ⟨hl, b, 0, e, ?_, .inr ⟨hle, Nat.lt_of_lt_of_le hlt1 hgr.size⟩, hbr, fun e => ?_, (fun e => by cases e), fun j hj => ?_⟩
    · rw [← hsz']; exact Nat.lt_of_lt_of_le hlt1 hgr.size
    · injection e with e
      rcases hat with e2 | e2
      · exact hbM (by rw [e2]; exact congrArg some e)
      · have e' : gk = b := e; omega
    · exact (World.cell?_of_block (a := ⟨b, 0 + j, none⟩) ((heap_setCell_other w5 ⟨r, 0, none⟩ b _ (fun e => hbr e)).trans (hgr.block b hlt1 (fun e => hbM e.symm)))).trans (hc j hj)
  refine ⟨⟨hr5.set 0 _, ?_, World.ownsRow_nil _ _ _ _, ?_, h.eqM, .inl h.gr, ?_, (fun k e => by cases e), (fun k _ e => by cases e), ?_, (fun q hq => by simp at hq), ?_, ?_, ?_, h.arm⟩, hs1.setCell h.gr _ _, hr5.cell (i := 0) (by simp [rfCells]), hr5.free 0⟩
  · have e : (PK ++ [q]).length = PK.length + 1 := by simp
    rw [e, List.map_append]
    exact own_kept hown (fun k e _ => heap_setCell_other w5 ⟨r, 0, none⟩ k _ (fun e' => by injection e with e; exact hmr (e.trans e')))
  · rw [List.map_append, h.eqK]; rfl
  · intro k e
    injection e with e
    subst e
    refine ⟨?_, hmr⟩
    rcases hat with e2 | e2
    · exact .inl (h.gK _ e2).1
    · exact .inr ⟨by show w.heap.size ≤ gk; rw [e2]; exact hb.size, hlt⟩
  · intro x hx
    rcases List.mem_append.1 hx with h1 | h1
    · exact (h.pK x h1).to (Nat.le_trans hsz (Nat.le_of_eq hsz')) (fun b hlt _ hbr hbM _ => hk b hlt hbr hbM) (fun _ h => .inl h) (fun b hlt hbM e => hgmb b hlt hbM (by injection e)) (fun _ _ h => h)
    · rw [List.mem_singleton.1 h1]; exact hnew
  · intro k hg
    rw [← hsz']
    rcases hg with hg | hg
    · exact Nat.lt_of_lt_of_le (h.lt k hg) hsz
    · exact hg.2
  · intro p hp; rw [show ({ s with K := s.K ++ [q.2.1] } : Dsk).M = s.M from rfl, hM] at hp; simp at hp
  · show (s.K ++ [q.2.1]).length ≤ _; rw [List.length_append]; exact hhi
end

/-- what is left of the document's disk that is made -/
def RFresh (w : World) (s : Dsk) (e : Ending) (w' : World) : Prop :=
  ∃ r G, e = .returned (.pointer (some ⟨r, 0, none⟩)) ∧ RefAt w' r G s ∧ (∀ k, G k → w.heap.size ≤ k) ∧ Below w.heap.size w w'
theorem new_start (w : World) : RefIn (w.alloc (.cells #[.slice none 0 0, .slice none 0 0, .bool false, .bool false, .int .i64 0, .int .i64 0] 47)) w.heap.size (.slice none 0 0) (.slice none 0 0) [] [] false 0 (· = w.heap.size) (Dsk.new 0) :=
  ⟨Blk.new w (rfCells (.slice none 0 0) (.slice none 0 0) false false 0 0) _, World.ownsRow_nil _ _ _ _, World.ownsRow_nil _ _ _ _, rfl, rfl, rfl, (fun k e => by cases e), (fun k e => by cases e), (fun k e => by cases e), (fun q hq => by simp at hq), (fun q hq => by simp at hq), (fun k e => by simp; omega), (fun p hp => by simp [Dsk.new] at hp), by simp [Dsk.new], fun _ => ⟨rfl, fun h => absurd h (by show ¬ 0 < 0; decide)⟩⟩
theorem new_more (k : Nat) : ({ Dsk.new k with K := (Dsk.new k).K ++ [List.replicate 64 0] } : Dsk) = Dsk.new (k + 1) :=
  congrArg (fun K => Dsk.mk K [] false 0 0) (List.replicate_succ' (n := k) (a := List.replicate 64 (0 : UInt8))).symm
theorem new_wrote {wr w5 : World} {r gk cap' : Nat} {vK : Value} {PK : List Piece} {G : Nat → Prop} {s : Dsk} {Z : List UInt8} (h : RefIn wr r vK (.slice none 0 0) PK [] false 0 G s) (hZ : Z.length = 64) (hM : s.M = []) (hhi : s.K.length + 1 ≤ 4096)
    (hgr : ((wr.drew.alloc (.cells (Z.map bv).toArray 5)).alloc (.cells #[.slice (some ⟨wr.heap.size, 0, none⟩) 64 64] 22)).grownBy w5 vK.ownBlock)
    (hown : w5.ownsRow 0 22 1 (.slice (some ⟨gk, 0, none⟩) (PK.length + 1) cap') (PK.length + 1) (PK.map pv ++ [.slice (some ⟨wr.heap.size, 0, none⟩) 64 64])) (hat : vK.ownBlock = some gk ∨ gk = wr.heap.size + 2) (hlt : gk < w5.heap.size) :
    RefIn (w5.setCell ⟨r, 0, none⟩ (.slice (some ⟨gk, 0, none⟩) (PK.length + 1) cap')) r (.slice (some ⟨gk, 0, none⟩) (PK.length + 1) cap') (.slice none 0 0) (PK ++ [((some ⟨wr.heap.size, 0, none⟩ : Option Addr), Z, 64)]) [] false 0 (fun k => G k ∨ (wr.heap.size ≤ k ∧ k < w5.heap.size)) { s with K := s.K ++ [Z] } ∧
    Spared wr (w5.setCell ⟨r, 0, none⟩ (.slice (some ⟨gk, 0, none⟩) (PK.length + 1) cap')) G ∧ w5.cell? ⟨r, 0, none⟩ = some vK ∧ w5.frozen? ⟨r, 0, none⟩ = false := by
  have hb1 : Below wr.heap.size wr (wr.drew.alloc (.cells (Z.map bv).toArray 5)) := (Below.refl _ _).drew.alloc (Nat.le_refl _) _
  have hbl := hb1.alloc hb1.size (.cells #[.slice (some ⟨wr.heap.size, 0, none⟩) 64 64] 22)
  refine ref_kept (q := ((some ⟨wr.heap.size, 0, none⟩ : Option Addr), Z, 64)) h hbl hgr hZ hM hhi ⟨wr.heap.size, rfl, Nat.le_refl _, by simp; omega, fun j hj => ?_⟩ ?_ (by simpa using hat) hlt
  · have hn : Blk (wr.drew.alloc (.cells (Z.map bv).toArray 5)) wr.heap.size (Z.map bv) 5 := Blk.new wr.drew _ _
    have hc := (hn.alloc (.cells #[.slice (some ⟨wr.heap.size, 0, none⟩) 64 64] 22)).cell (i := j) (by simpa using hj)
    rw [Nat.zero_add, hc]
    simp [bv]
  · have e : pv ((some ⟨wr.heap.size, 0, none⟩ : Option Addr), Z, 64) = .slice (some ⟨wr.heap.size, 0, none⟩) 64 64 := by unfold pv; rw [hZ]
    rw [e]
    exact hown

set_option maxRecDepth 100000 in
set_option maxHeartbeats 1000000 in
theorem refNew_any (w : World) (n : Nat) (hn : n ≤ 4096) : Calls Try.prog 16 #[.int .i64 (n : Int)] w (RFresh w (Dsk.new n)) := by
  have HST := Lib.hid (new_start w)
  have HB0 : Hid (Below w.heap.size w (w.alloc (.cells #[.slice none 0 0, .slice none 0 0, .bool false, .bool false, .int .i64 0, .int .i64 0] 47))) := (Below.refl _ _).alloc (Nat.le_refl _) _
  have hmk := make64
  have HZ : Hid ((List.replicate 64 (0 : UInt8)).length = 64) := by show _ = _; simp
  have HMORE := Lib.hid new_more
  obtain ⟨iB, hiB, hzB, hsB, hbB⟩ := info_parts infoB
  generalize List.replicate 64 (0 : UInt8) = Z at hmk HZ HMORE
  go_enter Try.func16, Try.ntmps16
  go_wp2
  go_loopw [4] (fun a wr => ∃ k : Nat, k ≤ n ∧ a = .int .i64 k ∧ (∃ vK PKk G, RefIn wr w.heap.size vK (.slice none 0 0) PKk [] false 0 G (Dsk.new k) ∧ ∀ q, G q → w.heap.size ≤ q) ∧ Below w.heap.size w wr) (fun a _ => n - (intOf a).toNat)
  case atStart => exact ⟨0, Nat.zero_le _, rfl, ⟨_, _, _, HST.out, fun q hq => Nat.le_of_eq hq.symm⟩, HB0.out⟩
  case round =>
    obtain ⟨k, hk, rfl, ⟨vK, PKk, G, hr, hG⟩, hb⟩ := hrel
    have HR := Lib.hid hr
    have HG := Lib.hid hG
    have HB := Lib.hid hb
    clear hr hG hb HST HB0
    by_cases hlt : k < n
    · have hkl : (k : Int) < (n : Int) := by omega
      obtain ⟨c0, _⟩ := HR.out.cells
      have f0 := HR.out.blk.free 0
      have hrlt := HR.out.blk.lt
      have hPb : PKk.length ≤ 4096 := by rw [HR.out.len.2.2.1]; exact HR.out.hi
      go_wp2
      go_region_law (first
        | (refine step_append_lies ((wr.drew.alloc (.cells (Z.map bv).toArray 5)).alloc (.cells #[.slice (some ⟨wr.heap.size, 0, none⟩) 64 64] 22)) rfl (.tmp 16) (.tmp 18) 44 rfl 0 22 iB (.slice none 0 0) 1 24 Try.underlying44 hiB hzB hsB hbB rfl (by decide) vK PKk.length (PKk.map pv) (by simp [Act.eval]) ((HR.out.rowK.drew.alloc _).alloc _) ⟨wr.heap.size + 1, 0, none⟩ 1 1 [.slice (some ⟨wr.heap.size, 0, none⟩) 64 64] (by simp [Act.eval]) rfl (by have := World.news_of_block (heap_alloc_new (wr.drew.alloc (.cells (Z.map bv).toArray 5)) (.cells #[.slice (some ⟨wr.heap.size, 0, none⟩) 64 64] 22)); simpa using this) (by intro u hu; rw [List.mem_singleton.1 hu]; rfl) (by decide) (by unfold maxLen; omega) (by omega) (Nat.zero_le _) (wr.heap.size + 2) (by simp) ?_; intro gk cap5 w5 hown5 hgr5 hat5 hlt5
           obtain ⟨D1, D2, c50, f50⟩ := new_wrote HR.out HZ.out rfl (by simp [Dsk.new]; omega) hgr5 hown5 hat5 hlt5
           have HD1 := Lib.hid D1
           have HD2 := Lib.hid D2
           have HD3 : Hid (∀ q, (G q ∨ (wr.heap.size ≤ q ∧ q < w5.heap.size)) → w.heap.size ≤ q) := fun q hq => hq.elim (HG.out q) (fun h => Nat.le_trans HB.out.size h.1)
           have HD4 := Lib.hid (D2.below HB.out HG.out)
           clear D1 D2 hown5 hgr5 hat5 hlt5))
      all_goals go_wp2_with fail
      all_goals go_roundw
      all_goals first
        | exact ⟨k + 1, by omega, by go_num, ⟨_, _, _, by rw [← HMORE.out k]; exact HD1.out, HD3.out⟩, HD4.out⟩
        | (simp [intOf]; omega)
    · obtain rfl : k = n := by omega
      go_wp2
      go_ret
      exact ⟨_, _, rfl, ⟨_, _, _, _, _, _, HR.out⟩, HG.out, HB.out⟩
end Go.Proofs.Ytfcbkefpjfmgjaa
