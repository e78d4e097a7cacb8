/-
  A slice of calls of this layer: what it shows; the statement's own questions few and alike. No conditions but that lengths are ints.
  The document's disk, on the way of being made. No program is run here.
  The document's disk of an image, and the program's: they hold the same. Condition: the image is some whole blocks, at most 4096.
  The program's disk and log and the document's, side by side: what each call leaves of them. Conditions: as each says.
-/
import Derived.Test.YtkbjhnlihnakkaaRefOpen
import Derived.Test.YtkbjhnlihnakkaaGather
import Derived.BigQuiet
import Derived.Deep.QuietTactic
import Derived.Test.YtkbjhnlihnakkaaRfSmall
import Derived.Deep.AppendLies
import Derived.Deep.RegionLaw
import Derived.Deep.DrawnRows
import Derived.Test.YtkbjhnlihnakkaaLgB
import Derived.Test.YtkbjhnlihnakkaaMadeN
import Derived.Test.YtkbjhnlihnakkaaDkNew
import Derived.Test.YtkbjhnlihnakkaaRfCrash
namespace Go.Proofs.Ytkbjhnlihnakkaa
open Go.RowKit

/-- a call: its kind, its place, its number, its turn, its bytes, its picks -/
abbrev QOp := Int × Int × Int × Int × Piece × (Option Addr × List Int × Nat)
def IntOk (i : Int) : Prop := -9223372036854775808 ≤ i ∧ i ≤ 9223372036854775807
/-- what is known of a call -/
def QOk (w : World) (o : QOp) : Prop :=
  (IntOk o.1 ∧ IntOk o.2.1 ∧ IntOk o.2.2.1 ∧ IntOk o.2.2.2.1) ∧
  (Seen w o.2.2.2.2.1.1 o.2.2.2.2.1.2.1 ∧ o.2.2.2.2.1.2.1.length ≤ 9223372036854775807) ∧
  (Ints w o.2.2.2.2.2.1 o.2.2.2.2.2.2.1 ∧ o.2.2.2.2.2.2.1.length ≤ 9223372036854775807 ∧ ∀ x ∈ o.2.2.2.2.2.2.1, IntOk x)
/-- the cells of a call -/
def qcells (o : QOp) : List Value := [.int .i64 o.1, .int .i64 o.2.1, .int .i64 o.2.2.1, .int .i64 o.2.2.2.1, pv o.2.2.2.2.1, .slice o.2.2.2.2.2.1 o.2.2.2.2.2.2.1.length o.2.2.2.2.2.2.2]
/-- A slice that begins at A shows the calls. -/
def QsSeen (w : World) (A : Option Addr) (l : List QOp) : Prop :=
  l = [] ∨ ∃ b off, A = some ⟨b, off, none⟩ ∧ b < w.heap.size ∧ ∀ j (h : j < l.length), (∀ i, i < 6 → w.cell? ⟨b, off + j * 6 + i, none⟩ = (qcells l[j])[i]?) ∧ QOk w l[j]
theorem QsSeen.at_ {w : World} {A : Option Addr} {l : List QOp} (h : QsSeen w A l) (k : Nat) (hk : k < l.length) : ∃ b off, A = some ⟨b, off, none⟩ ∧ QOk w l[k] ∧ ∀ w', Below w.heap.size w w' → w'.cell? ⟨b, off + k * 6, none⟩ = some (.int .i64 l[k].1) ∧ w'.cell? ⟨b, off + k * 6 + 1, none⟩ = some (.int .i64 l[k].2.1) ∧
    w'.cell? ⟨b, off + k * 6 + 2, none⟩ = some (.int .i64 l[k].2.2.1) ∧ w'.cell? ⟨b, off + k * 6 + 3, none⟩ = some (.int .i64 l[k].2.2.2.1) ∧ w'.cell? ⟨b, off + k * 6 + 4, none⟩ = some (.slice l[k].2.2.2.2.1.1 l[k].2.2.2.2.1.2.1.length l[k].2.2.2.2.1.2.2) ∧
    w'.cell? ⟨b, off + k * 6 + 5, none⟩ = some (.slice l[k].2.2.2.2.2.1 l[k].2.2.2.2.2.2.1.length l[k].2.2.2.2.2.2.2) := by
  rcases h with rfl | ⟨b, off, rfl, hb, hc⟩
  · simp at hk
  · obtain ⟨h1, h5⟩ := hc k hk
    refine ⟨b, off, rfl, h5, fun w' hbl => ?_⟩
    have e : ∀ o, w'.cell? ⟨b, o, none⟩ = w.cell? ⟨b, o, none⟩ := fun o => hbl.cell (p := ⟨b, o, none⟩) hb
    exact ⟨(e _).trans (h1 0 (by decide)), (e _).trans (h1 1 (by decide)), (e _).trans (h1 2 (by decide)), (e _).trans (h1 3 (by decide)), (e _).trans (h1 4 (by decide)), (e _).trans (h1 5 (by decide))⟩

def fewB (l : List QOp) : Bool := decide (l.length ≤ 60 ∧ ∀ o ∈ l, o.2.2.2.2.1.2.1.length ≤ 2000)

set_option maxRecDepth 100000 in
set_option maxHeartbeats 400000 in
theorem few_any (A : Option Addr) (l : List QOp) (n c : Nat) (w : World) (hs : QsSeen w A l) (hn : l.length = n) (hl : n ≤ 9223372036854775807) :
    Calls Try.prog 9 #[.slice A n c] w fun e w' => e = .returned (.bool (fewB l)) ∧ w = w' := by
  have HS := Lib.hid hs
  have HN := Lib.hid hn
  obtain ⟨B, hB⟩ : ∃ B, B = fewB l := ⟨_, rfl⟩
  have HB := Lib.hid hB
  rw [← hB]
  clear hs hn hB
  by_cases hlong : 60 < n
  · have hF : B = false := by
      rw [HB.out]
      refine decide_eq_false ?_
      rintro ⟨h, _⟩
      have := HN.out
      omega
    subst hF
    go_enter Try.func9, Try.ntmps9
    go_wp2_with fail
    go_ret
    exact ⟨rfl, rfl⟩
  go_enter Try.func9, Try.ntmps9
  go_wp2_with fail
  go_loopw [3] (fun a wr => ∃ k : Nat, k ≤ n ∧ a = .int .i64 k ∧ wr = w ∧ ∀ j (h : j < l.length), j < k → l[j].2.2.2.2.1.2.1.length ≤ 2000) (fun a _ => n - (intOf a).toNat)
  case atStart => exact ⟨0, Nat.zero_le _, rfl, rfl, fun j _ h => by omega⟩
  case round =>
    obtain ⟨k, hk, rfl, rfl, hall⟩ := hrel
    have HALL := Lib.hid hall
    clear hall
    by_cases hlt : k < n
    · have hkl : (k : Int) < (n : Int) := by omega
      have hkn : k < l.length := by have := HN.out; omega
      obtain ⟨ba, oa, rfl, hok, hc⟩ := HS.out.at_ k hkn
      have o4 := (hc wr (Below.refl _ _)).2.2.2.2.1
      obtain ⟨p, hp⟩ : ∃ p : Piece, p = l[k].2.2.2.2.1 := ⟨_, rfl⟩
      have HP := Lib.hid hp
      rw [← hp] at o4
      obtain ⟨m, hm⟩ : ∃ m, m = p.2.1.length := ⟨_, rfl⟩
      have HM := Lib.hid hm
      rw [← hm] at o4
      clear hc hok hp hm
      by_cases hbig : 2000 < m
      · have hF : B = false := by
          rw [HB.out]
          refine decide_eq_false ?_
          rintro ⟨_, h⟩
          have := h _ (List.getElem_mem hkn)
          rw [← HP.out, ← HM.out] at this
          omega
        subst hF
        have hbig' : (2000 : Int) < (m : Int) := by omega
        clear HP hkn
        go_wp2_with fail
        go_ret
        exact ⟨rfl, rfl⟩
      · have hbig' : ¬ (2000 : Int) < (m : Int) := by omega
        have HK2 : Hid (∀ j (h : j < l.length), j < k + 1 → l[j].2.2.2.2.1.2.1.length ≤ 2000) := fun j h hj => by
          rcases Nat.lt_or_ge j k with h1 | h1
          · exact HALL.out j h h1
          · obtain rfl : j = k := by omega
            rw [← HP.out, ← HM.out]; omega
        clear HP hkn
        go_wp2_with fail
        go_roundw
        case rel => exact ⟨k + 1, by omega, by go_num, by trivial, HK2.out⟩
        case measure => simp [intOf]; omega
    · obtain rfl : k = n := by omega
      have hkl : ¬ (k : Int) < (k : Int) := by omega
      have hT : B = true := by
        rw [HB.out]
        refine decide_eq_true ⟨by have := HN.out; omega, fun o ho => ?_⟩
        obtain ⟨j, hj, rfl⟩ := List.mem_iff_getElem.1 ho
        exact HALL.out j hj (by have := HN.out; omega)
      subst hT
      go_wp2_with fail
      go_ret
      exact ⟨rfl, rfl⟩

theorem alike_none (w : World) : Calls Try.prog 23 #[.pointer none, .pointer none] w fun e w' => e = .returned (.bool true) ∧ w' = w := by
  go_enter Try.func23, Try.ntmps23
  go_wp2
  go_ret
  exact ⟨rfl, rfl⟩

set_option maxRecDepth 100000 in
set_option maxHeartbeats 1000000 in
theorem alike_any (w : World) (g b r c : Nat) (l : Lg) (h1 : Blk w b (lgCells g l) 74) (h2 : Blk w c (lgCells r l) 80) (hf : l.fin ≤ l.blocks * 64) (hb : l.blocks ≤ 4096) :
    Calls Try.prog 23 #[.pointer (some ⟨b, 0, none⟩), .pointer (some ⟨c, 0, none⟩)] w fun e w' => e = .returned (.bool true) ∧ Below w.heap.size w w' := by
  obtain ⟨_, _, _, c3, c4, _⟩ := lg_cells h2
  have HG := Lib.hid (fun m => gen_any (w := w.drewN m) (g := g) (b := b) (l := l) (h1.drewN m))
  have HS := Lib.hid (fun m => seq_any (w := w.drewN m) (g := g) (b := b) (l := l) (h1.drewN m))
  have HR := Lib.hid (fun m => room_any (w := w.drewN m) (g := g) (b := b) (l := l) (h1.drewN m) hf hb)
  have HRR := Lib.hid (fun m => refRoom_any (w := w.drewN m) (r := r) (b := c) (l := l) (h2.drewN m) hf hb)
  have e1 : (l.gen == l.gen) = true := by simp
  have e2 : ((l.seq : Int) == (l.seq : Int)) = true := by simp
  have e3 : ((l.room : Int) == (l.room : Int)) = true := by simp
  generalize l.gen = x1 at *
  generalize (l.seq : Int) = x2 at *
  generalize (l.room : Int) = x3 at *
  clear h1 h2 hf hb
  go_enter Try.func23, Try.ntmps23
  go_wp2
  go_quiet (first
    | (go_at_call 30; refine Calls.quiet_of_same (HG.out _))
    | (go_at_call 29; refine Calls.quiet_of_same (HS.out _))
    | (go_at_call 33; refine Calls.quiet_of (HR.out _))
    | (go_at_call 44; refine Calls.quiet_of (HRR.out _)))
  go_wp2
  go_ret
  exact ⟨rfl, below_drewN (Below.refl _ _) _⟩
end Go.Proofs.Ytkbjhnlihnakkaa

namespace Go.Proofs.Ytkbjhnlihnakkaa
open Go.RowKit

theorem infoB : (Try.prog.info? 22).map (fun i => (i.zero, i.size, i.bytes)) = some (some (.slice none 0 0), 1, 24) := by kernel_rfl

section
variable {w w1 w5 : World} {r gk cap' : Nat} {vK : Value} {PK : List Piece} {G : Nat → Prop} {s : Dsk} {q : Piece}
theorem ref_kept (h : RefIn w r vK (.slice none 0 0) PK [] false 0 G s) (hb : Below w.heap.size w w1) (hgr : w1.grownBy w5 vK.ownBlock) (hl : q.2.1.length = 64) (hM : s.M = []) (hhi : s.K.length + 1 ≤ 4096)
    (hq : ∃ b, q.1 = some ⟨b, 0, none⟩ ∧ w.heap.size ≤ b ∧ b < w1.heap.size ∧ ∀ j (h : j < q.2.1.length), w1.cell? ⟨b, 0 + j, none⟩ = some (.int .u8 (q.2.1[j].toNat : Int)))
    (hown : w5.ownsRow 0 22 1 (.slice (some ⟨gk, 0, none⟩) (PK.length + 1) cap') (PK.length + 1) (PK.map pv ++ [pv q])) (hat : vK.ownBlock = some gk ∨ gk = w1.heap.size) (hlt : gk < w5.heap.size) :
    RefIn (w5.setCell ⟨r, 0, none⟩ (.slice (some ⟨gk, 0, none⟩) (PK.length + 1) cap')) r (.slice (some ⟨gk, 0, none⟩) (PK.length + 1) cap') (.slice none 0 0) (PK ++ [q]) [] false 0 (fun k => G k ∨ (w.heap.size ≤ k ∧ k < w5.heap.size)) { s with K := s.K ++ [q.2.1] } ∧
    Spared w (w5.setCell ⟨r, 0, none⟩ (.slice (some ⟨gk, 0, none⟩) (PK.length + 1) cap')) G ∧ w5.cell? ⟨r, 0, none⟩ = some vK ∧ w5.frozen? ⟨r, 0, none⟩ = false := by
  have hr1 : Blk w1 r _ _ := h.blk.below hb h.blk.lt
  have hrK : vK.ownBlock ≠ some r := fun e => (h.gK r e).2 rfl
  have hr5 : Blk w5 r (rfCells vK (.slice none 0 0) s.off false 0 s.calls) 54 := (hgr.block r hr1.lt (fun e => hrK e.symm)).trans hr1
  have hmr : gk ≠ r := by
    rcases hat with e | e
    · exact (h.gK gk e).2
    · have := hr1.lt; omega
  have hsz : w.heap.size ≤ w5.heap.size := Nat.le_trans hb.size hgr.size
  have hsz' : w5.heap.size = (w5.setCell ⟨r, 0, none⟩ (.slice (some ⟨gk, 0, none⟩) (PK.length + 1) cap')).heap.size := by simp [World.setCell]
  have hk : ∀ b, b < w.heap.size → b ≠ r → vK.ownBlock ≠ some b → (w5.setCell ⟨r, 0, none⟩ (.slice (some ⟨gk, 0, none⟩) (PK.length + 1) cap')).heap[b]? = w.heap[b]? := fun b hlt hbr hbM =>
    (heap_setCell_other w5 ⟨r, 0, none⟩ b _ (fun e => hbr e)).trans ((hgr.block b (Nat.lt_of_lt_of_le hlt hb.size) (fun e => hbM e.symm)).trans (hb.block b hlt))
  have hgmb : ∀ b, b < w.heap.size → vK.ownBlock ≠ some b → gk ≠ b := fun b hlt hbM e => by
    rcases hat with e2 | e2
    · exact hbM (by rw [e2, e])
    · have := hb.size; omega
  have hs1 : Spared w w5 G := (Spared.of_below hb G).trans (.of_grown hgr (F := G) (fun k e _ => (h.gK k e).1)) (fun _ h => .inl h)
  have hnew : Hold (w5.setCell ⟨r, 0, none⟩ (.slice (some ⟨gk, 0, none⟩) (PK.length + 1) cap')) r (.slice (some ⟨gk, 0, none⟩) (PK.length + 1) cap') (.slice none 0 0) (fun k => G k ∨ (w.heap.size ≤ k ∧ k < w5.heap.size)) q := by
    obtain ⟨b, e, hle, hlt1, hc⟩ := hq
    have hbr : b ≠ r := by have := h.blk.lt; omega
    have hbM : vK.ownBlock ≠ some b := fun e => by have := h.lt b (h.gK b e).1; omega
    refine ⟨hl, b, 0, e, ?_, .inr ⟨hle, Nat.lt_of_lt_of_le hlt1 hgr.size⟩, hbr, fun e => ?_, (fun e => by cases e), fun j hj => ?_⟩
    · rw [← hsz']; exact Nat.lt_of_lt_of_le hlt1 hgr.size
    · injection e with e
      rcases hat with e2 | e2
      · exact hbM (by rw [e2]; exact congrArg some e)
      · have e' : gk = b := e; omega
    · exact (World.cell?_of_block (a := ⟨b, 0 + j, none⟩) ((heap_setCell_other w5 ⟨r, 0, none⟩ b _ (fun e => hbr e)).trans (hgr.block b hlt1 (fun e => hbM e.symm)))).trans (hc j hj)
  refine ⟨⟨hr5.set 0 _, ?_, World.ownsRow_nil _ _ _ _, ?_, h.eqM, .inl h.gr, ?_, (fun k e => by cases e), (fun k _ e => by cases e), ?_, (fun q hq => by simp at hq), ?_, ?_, ?_, h.arm⟩, hs1.setCell h.gr _ _, hr5.cell (i := 0) (by simp [rfCells]), hr5.free 0⟩
  · have e : (PK ++ [q]).length = PK.length + 1 := by simp
    rw [e, List.map_append]
    exact own_kept hown (fun k e _ => heap_setCell_other w5 ⟨r, 0, none⟩ k _ (fun e' => by injection e with e; exact hmr (e.trans e')))
  · rw [List.map_append, h.eqK]; rfl
  · intro k e
    injection e with e
    subst e
    refine ⟨?_, hmr⟩
    rcases hat with e2 | e2
    · exact .inl (h.gK _ e2).1
    · exact .inr ⟨by show w.heap.size ≤ gk; rw [e2]; exact hb.size, hlt⟩
  · intro x hx
    rcases List.mem_append.1 hx with h1 | h1
    · exact (h.pK x h1).to (Nat.le_trans hsz (Nat.le_of_eq hsz')) (fun b hlt _ hbr hbM _ => hk b hlt hbr hbM) (fun _ h => .inl h) (fun b hlt hbM e => hgmb b hlt hbM (by injection e)) (fun _ _ h => h)
    · rw [List.mem_singleton.1 h1]; exact hnew
  · intro k hg
    rw [← hsz']
    rcases hg with hg | hg
    · exact Nat.lt_of_lt_of_le (h.lt k hg) hsz
    · exact hg.2
  · intro p hp; rw [show ({ s with K := s.K ++ [q.2.1] } : Dsk).M = s.M from rfl, hM] at hp; simp at hp
  · show (s.K ++ [q.2.1]).length ≤ _; rw [List.length_append]; exact hhi
end

/-- what is left of the document's disk that is made -/
def RFresh (w : World) (s : Dsk) (e : Ending) (w' : World) : Prop :=
  ∃ r G, e = .returned (.pointer (some ⟨r, 0, none⟩)) ∧ RefAt w' r G s ∧ (∀ k, G k → w.heap.size ≤ k) ∧ Below w.heap.size w w'
theorem new_start (w : World) : RefIn (w.alloc (.cells #[.slice none 0 0, .slice none 0 0, .bool false, .bool false, .int .i64 0, .int .i64 0] 54)) w.heap.size (.slice none 0 0) (.slice none 0 0) [] [] false 0 (· = w.heap.size) (Dsk.new 0) :=
  ⟨Blk.new w (rfCells (.slice none 0 0) (.slice none 0 0) false false 0 0) _, World.ownsRow_nil _ _ _ _, World.ownsRow_nil _ _ _ _, rfl, rfl, rfl, (fun k e => by cases e), (fun k e => by cases e), (fun k e => by cases e), (fun q hq => by simp at hq), (fun q hq => by simp at hq), (fun k e => by simp; omega), (fun p hp => by simp [Dsk.new] at hp), by simp [Dsk.new], fun _ => ⟨rfl, fun h => absurd h (by show ¬ 0 < 0; decide)⟩⟩
theorem new_more (k : Nat) : ({ Dsk.new k with K := (Dsk.new k).K ++ [List.replicate 64 0] } : Dsk) = Dsk.new (k + 1) :=
  congrArg (fun K => Dsk.mk K [] false 0 0) (List.replicate_succ' (n := k) (a := List.replicate 64 (0 : UInt8))).symm
end Go.Proofs.Ytkbjhnlihnakkaa

namespace Go.Proofs.Ytkbjhnlihnakkaa
open Go.RowKit

/-- a disk that holds the blocks R, all durable -/
def rowsDsk (R : List (List UInt8)) : Dsk := ⟨R, [], false, 0, 0⟩
theorem of_rows {l : List UInt8} {n : Nat} {s : Dsk} (h : OfAt l n n s) (hn : l.length = n * 64) : s = rowsDsk (rowsOf l) := by
  obtain ⟨h1, h2, h3, h4, h5, h6⟩ := h
  have hK : s.K = rowsOf l := by
    apply List.ext_getElem?
    intro i
    by_cases hi : i < n
    · rw [h6 i hi, List.getElem?_eq_getElem (by rw [rowsOf_length]; omega), rowsOf_get]
    · rw [List.getElem?_eq_none (by omega), List.getElem?_eq_none (by rw [rowsOf_length]; omega)]
  cases s
  simp only at h2 h3 h4 h5 hK
  subst h2 h3 h4 h5 hK
  rfl

theorem of_wrote {wr w4 w5 : World} {r g4 cap4 gk cap' : Nat} {vK : Value} {PK : List Piece} {G : Nat → Prop} {s : Dsk} {x : List UInt8} (h : RefIn wr r vK (.slice none 0 0) PK [] false 0 G s) (hb : wr.grownBy w4 none) (hl : x.length = 64)
    (hown4 : w4.ownsRow 0 5 1 (.slice (some ⟨g4, 0, none⟩) (0 + 64) cap4) (0 + 64) ([] ++ x.map bv)) (hge : wr.heap.size = g4) (hlt4 : g4 < w4.heap.size) (hM : s.M = []) (hhi : s.K.length + 1 ≤ 4096)
    (hgr : (w4.alloc (.cells #[.slice (some ⟨g4, 0, none⟩) 64 cap4] 22)).grownBy w5 vK.ownBlock)
    (hown5 : w5.ownsRow 0 22 1 (.slice (some ⟨gk, 0, none⟩) (PK.length + 1) cap') (PK.length + 1) (PK.map pv ++ [.slice (some ⟨g4, 0, none⟩) 64 cap4])) (hat : vK.ownBlock = some gk ∨ gk = w4.heap.size + 1) (hlt : gk < w5.heap.size) :
    RefIn (w5.setCell ⟨r, 0, none⟩ (.slice (some ⟨gk, 0, none⟩) (PK.length + 1) cap')) r (.slice (some ⟨gk, 0, none⟩) (PK.length + 1) cap') (.slice none 0 0) (PK ++ [((some ⟨g4, 0, none⟩ : Option Addr), x, cap4)]) [] false 0 (fun k => G k ∨ (wr.heap.size ≤ k ∧ k < w5.heap.size)) { s with K := s.K ++ [x] } ∧
    Spared wr (w5.setCell ⟨r, 0, none⟩ (.slice (some ⟨gk, 0, none⟩) (PK.length + 1) cap')) G ∧ w5.cell? ⟨r, 0, none⟩ = some vK ∧ w5.frozen? ⟨r, 0, none⟩ = false := by
  have hbl : Below wr.heap.size wr w4 := ⟨hb.os, hb.tape, hb.output, hb.size, fun k hk => hb.block k hk (by simp)⟩
  have hbl1 := hbl.alloc hb.size (.cells #[.slice (some ⟨g4, 0, none⟩) 64 cap4] 22)
  refine ref_kept (q := ((some ⟨g4, 0, none⟩ : Option Addr), x, cap4)) h hbl1 hgr hl hM hhi ⟨g4, rfl, Nat.le_of_eq hge, ?_, fun j hj => ?_⟩ ?_ (by simpa using hat) hlt
  · simp; omega
  · have hown4' : w4.ownsRow 0 5 1 (.slice (some ⟨g4, 0, none⟩) 64 cap4) x.length (x.map bv) := by rw [hl]; exact hown4
    have hc := own_bytes hown4' j hj
    rw [World.cell?_alloc_lt _ _ _ hlt4]
    exact hc
  · have e : pv ((some ⟨g4, 0, none⟩ : Option Addr), x, cap4) = .slice (some ⟨g4, 0, none⟩) 64 cap4 := by unfold pv; rw [hl]
    rw [e]
    exact hown5

set_option maxRecDepth 100000 in
set_option maxHeartbeats 1000000 in
theorem refOf_any (w : World) (A : Option Addr) (l : List UInt8) (n c m : Nat) (hn : l.length = n) (hm : n = m * 64) (hc : n ≤ c) (h4 : m ≤ 4096) (hs : Seen w A l) :
    Calls Try.prog 11 #[.slice A n c] w (RFresh w (rowsDsk (rowsOf l))) := by
  have HST : Hid (RefIn (w.alloc (.cells #[.slice none 0 0, .slice none 0 0, .bool false, .bool false, .int .i64 0, .int .i64 0] 54)) w.heap.size (.slice none 0 0) (.slice none 0 0) [] [] false 0 (· = w.heap.size) (rowsDsk [])) := new_start w
  have HB0 : Hid (Below w.heap.size w (w.alloc (.cells #[.slice none 0 0, .slice none 0 0, .bool false, .bool false, .int .i64 0, .int .i64 0] 54))) := (Below.refl _ _).alloc (Nat.le_refl _) _
  have HR : Hid ((rowsOf l).length = m) := by show _ = _; rw [rowsOf_length]; omega
  have HRG : Hid (∀ k (h : k < (rowsOf l).length), (rowsOf l)[k] = (l.drop (k * 64)).take 64) := fun k h => rowsOf_get h
  have HN := Lib.hid hn
  have HS := Lib.hid hs
  obtain ⟨R, hR⟩ : ∃ R, R = rowsOf l := ⟨_, rfl⟩
  rw [← hR] at HR HRG ⊢
  obtain ⟨iB, hiB, hzB, hsB, hbB⟩ := info_parts infoB
  obtain ⟨i8, hi8, hz8, hs8, hb8⟩ := info_parts info8d
  have HM64 := Lib.hid hm
  clear hR hn hs hm
  go_enter Try.func11, Try.ntmps11
  go_wp2
  go_loopw [4] (fun a wr => ∃ k j : Nat, j = k * 64 ∧ k ≤ m ∧ a = .int .i64 j ∧ (∃ vK PKk G, RefIn wr w.heap.size vK (.slice none 0 0) PKk [] false 0 G (rowsDsk (R.take k)) ∧ ∀ q, G q → w.heap.size ≤ q) ∧ Below w.heap.size w wr) (fun a _ => m * 64 - (intOf a).toNat)
  case atStart => exact ⟨0, 0, rfl, Nat.zero_le _, rfl, ⟨_, _, _, HST.out, fun q hq => Nat.le_of_eq hq.symm⟩, HB0.out⟩
  case round =>
    obtain ⟨k, j, hj, hk, rfl, ⟨vK, PKk, G, hr, hG⟩, hb⟩ := hrel
    have HRI := Lib.hid hr
    have HG := Lib.hid hG
    have HB := Lib.hid hb
    clear hr hG hb HST HB0
    have hm := HM64.out
    by_cases hlt : k < m
    · have hkl : (j : Int) + 64 ≤ (n : Int) := by omega
      have hkR : k < R.length := by rw [HR.out]; exact hlt
      obtain ⟨A', c', hcut, hs', hl'⟩ := (HS.out.below HB.out).mid_cut n c j (j + 64) 64 (j : Int) ((j : Int) + 64) rfl (by omega) (by omega) HN.out (by omega) (by omega) hc
      have HT : Hid (R.take (k + 1) = R.take k ++ [(l.drop j).take 64]) := by show _ = _; rw [List.take_succ_eq_append_getElem hkR, HRG.out k hkR, hj]
      generalize (l.drop j).take 64 = x at *
      obtain ⟨b, off, rfl, hbw, hcc⟩ : ∃ b off, A' = some ⟨b, off, none⟩ ∧ b < wr.heap.size ∧ ∀ i (h : i < x.length), wr.cell? ⟨b, off + i, none⟩ = some (.int .u8 (x[i].toNat : Int)) := by
        rcases hs' with rfl | h
        · simp at hl'
        · exact h
      have HNEWS : Hid (∀ i u, (x.map bv)[i]? = some u → wr.drew.cell? ((⟨b, off, none⟩ : Addr).add i) = some u) := fun i u hu => by
        obtain ⟨hi, hiu⟩ := List.getElem?_eq_some_iff.1 hu
        rw [List.length_map] at hi
        rw [add_plain, ← hiu, List.getElem_map]
        exact hcc i hi
      have HL' := Lib.hid hl'
      obtain ⟨c0, _⟩ := HRI.out.cells
      have f0 := HRI.out.blk.free 0
      have hrlt := HRI.out.blk.lt
      have hPb : PKk.length ≤ 4096 := by rw [HRI.out.len.2.2.1]; exact HRI.out.hi
      have HKL : Hid ((rowsDsk (R.take k)).K.length + 1 ≤ 4096) := by show (R.take k).length + 1 ≤ 4096; rw [List.length_take]; omega
      have HNK := Lib.hid hj
      have hw64 : IntKind.i64.wrap ((j : Int) + 64) = (j : Int) + 64 := by rw [IntKind.wrap_i64]; omega
      clear hs' hl' hcc hbw hj hm
      go_wp2
      go_region_law (first
        | (refine step_append_lies wr.drew rfl (.const (.slice none 0 0)) (.tmp 23) 22 rfl 0 5 i8 (.int .u8 0) 1 1 Try.underlying22 hi8 hz8 hs8 hb8 rfl (by decide) (.slice none 0 0) 0 [] (by simp [Act.eval]) (World.ownsRow_nil _ _ _ _) ⟨b, off, none⟩ 64 c' (x.map bv) (by simp [Act.eval, Act.put]) (by rw [List.length_map, HL'.out]) HNEWS.out (bytes_one x) (by decide) (by unfold maxLen; decide) (by decide) (Nat.zero_le _) _ rfl ?_; intro g4 cap4 w4 hown4 hgr4 hat4 hlt4
           have c04 : w4.cell? ⟨w.heap.size, 0, none⟩ = some vK := (World.cell?_of_block (a := ⟨w.heap.size, 0, none⟩) (hgr4.block w.heap.size hrlt (by simp [Value.ownBlock]))).trans c0
           have hr4 : w.heap.size < w4.heap.size := Nat.lt_of_lt_of_le hrlt hgr4.size
           have HO4 := Lib.hid hown4
           have HG4 : Hid (wr.grownBy w4 none) := ⟨hgr4.os, hgr4.tape, hgr4.output, hgr4.size, hgr4.block⟩
           have HA4 : Hid (wr.heap.size = g4) := (by rcases hat4 with e | e; (· cases e); (· exact e.symm))
           have HLT4 := Lib.hid hlt4
           clear hown4 hgr4 hat4 hlt4)
        | (refine step_append_lies (w4.alloc (.cells #[.slice (some ⟨g4, 0, none⟩) 64 cap4] 22)) rfl (.tmp 18) (.tmp 25) 42 rfl 0 22 iB (.slice none 0 0) 1 24 Try.underlying42 hiB hzB hsB hbB rfl (by decide) vK PKk.length (PKk.map pv) (by simp [Act.eval]) (own_kept HRI.out.rowK (fun k e hlt => (heap_alloc_old w4 _ (Nat.lt_of_lt_of_le hlt HG4.out.size)).trans (HG4.out.block k hlt (by simp)))) ⟨w4.heap.size, 0, none⟩ 1 1 [.slice (some ⟨g4, 0, none⟩) 64 cap4] (by simp [Act.eval]) rfl (World.news_of_block (heap_alloc_new w4 _)) (by intro u hu; rw [List.mem_singleton.1 hu]; rfl) (by decide) (by unfold maxLen; omega) (by omega) (Nat.zero_le _) (w4.heap.size + 1) (by simp) ?_; intro gk cap5 w5 hown5 hgr5 hat5 hlt5
           obtain ⟨D1, D2, c05, f05⟩ := of_wrote HRI.out HG4.out HL'.out HO4.out HA4.out HLT4.out rfl HKL.out hgr5 hown5 hat5 hlt5
           have HD1 := Lib.hid D1
           have HD2 := Lib.hid D2
           have HD3 : Hid (∀ q, (G q ∨ (wr.heap.size ≤ q ∧ q < w5.heap.size)) → w.heap.size ≤ q) := fun q hq => hq.elim (HG.out q) (fun h => Nat.le_trans HB.out.size h.1)
           have HD4 := Lib.hid (D2.below HB.out HG.out)
           clear D1 D2 hown5 hgr5 hat5 hlt5))
      all_goals go_wp2_with fail
      all_goals go_roundw
      all_goals first
        | exact ⟨k + 1, j + 64, by have := HNK.out; omega, by omega, by go_num, ⟨_, _, _, by rw [HT.out]; exact HD1.out, HD3.out⟩, HD4.out⟩
        | (have hjk := HNK.out; simp [intOf]; omega)
    · obtain rfl : k = m := by omega
      have hkl : ¬ (j : Int) + 64 ≤ (n : Int) := by omega
      have ht : R.take k = R := List.take_of_length_le (by rw [HR.out]; exact Nat.le_refl _)
      rw [ht] at HRI
      have hw64 : IntKind.i64.wrap ((j : Int) + 64) = (j : Int) + 64 := by rw [IntKind.wrap_i64]; omega
      clear hj ht hm
      go_wp2
      go_ret
      exact ⟨_, _, rfl, ⟨_, _, _, _, _, _, HRI.out⟩, HG.out, HB.out⟩
end Go.Proofs.Ytkbjhnlihnakkaa

namespace Go.Proofs.Ytkbjhnlihnakkaa
open Go.RowKit

/-- a block, what it holds, its type -/
abbrev Box := Nat × List Value × TypeId
/-- the program's disk g is s, the document's r is t; none lies in the other, and no box in either; all behind w -/
def Two (w : World) (g r : Nat) (s t : Dsk) (xs : List Box) (wr : World) : Prop :=
  ∃ F G, DiskAt wr g F s ∧ RefAt wr r G t ∧ (∀ q, F q → w.heap.size ≤ q) ∧ (∀ q, G q → w.heap.size ≤ q) ∧ (∀ q, F q → ¬ G q) ∧ Below w.heap.size w wr ∧ ∀ x ∈ xs, Blk wr x.1 x.2.1 x.2.2 ∧ ¬ F x.1 ∧ ¬ G x.1 ∧ w.heap.size ≤ x.1

section
variable {w wr w' : World} {g r b c : Nat} {s t s' t' : Dsk} {A : Option Addr} {d : List UInt8} {p : List Int} {n q cp : Nat} {i : Int} {xs ys : List Box} {l : Lg} {F G F' G' B : Nat → Prop}
theorem two_disk (_ : DiskAt wr g F s) (h2 : RefAt wr r G t) (h3 : ∀ q, F q → w.heap.size ≤ q) (h4 : ∀ q, G q → w.heap.size ≤ q) (h5 : ∀ q, F q → ¬ G q) (h6 : Below w.heap.size w wr) (h7 : ∀ x ∈ xs, Blk wr x.1 x.2.1 x.2.2 ∧ ¬ F x.1 ∧ ¬ G x.1 ∧ w.heap.size ≤ x.1)
    (hB : ∀ k, B k → w.heap.size ≤ k ∧ ¬ G k) (m1 : DiskAt w' g F' s') (m2 : Spared wr w' (fun k => F k ∨ B k)) (m3 : ∀ k, F' k → F k ∨ wr.heap.size ≤ k)
    (hy : ∀ y ∈ ys, (y ∈ xs ∧ ¬ B y.1) ∨ (Blk w' y.1 y.2.1 y.2.2 ∧ ¬ F' y.1 ∧ ¬ G y.1 ∧ w.heap.size ≤ y.1)) : Two w g r s' t ys w' := by
  refine ⟨F', G, m1, h2.apart m2 (fun k hg hf => hf.elim (fun hf => h5 k hf hg) (fun hb => (hB k hb).2 hg)), fun q hq => (m3 q hq).elim (h3 q) (Nat.le_trans h6.size), h4, fun q hq hg => (m3 q hq).elim (fun hf => h5 q hf hg) (fun h => by have := h2.lt q hg; omega), m2.below h6 (fun k hk => hk.elim (h3 k) (fun hb => (hB k hb).1)), fun y hmem => ?_⟩
  rcases hy y hmem with ⟨hx, hb⟩ | h
  · obtain ⟨k1, k2, k3, k4⟩ := h7 y hx
    exact ⟨m2.blk k1 (fun h => h.elim k2 hb), fun hf => (m3 _ hf).elim k2 (fun h => by have := k1.lt; omega), k3, k4⟩
  · exact h
theorem two_ref (h1 : DiskAt wr g F s) (_ : RefAt wr r G t) (h3 : ∀ q, F q → w.heap.size ≤ q) (h4 : ∀ q, G q → w.heap.size ≤ q) (h5 : ∀ q, F q → ¬ G q) (h6 : Below w.heap.size w wr) (h7 : ∀ x ∈ xs, Blk wr x.1 x.2.1 x.2.2 ∧ ¬ F x.1 ∧ ¬ G x.1 ∧ w.heap.size ≤ x.1)
    (hB : ∀ k, B k → w.heap.size ≤ k ∧ ¬ F k) (m1 : RefAt w' r G' t') (m2 : Spared wr w' (fun k => G k ∨ B k)) (m3 : ∀ k, G' k → G k ∨ wr.heap.size ≤ k)
    (hy : ∀ y ∈ ys, (y ∈ xs ∧ ¬ B y.1) ∨ (Blk w' y.1 y.2.1 y.2.2 ∧ ¬ F y.1 ∧ ¬ G' y.1 ∧ w.heap.size ≤ y.1)) : Two w g r s t' ys w' := by
  refine ⟨F, G', h1.apart m2 (fun k hf hg => hg.elim (h5 k hf) (fun hb => (hB k hb).2 hf)), m1, h3, fun q hq => (m3 q hq).elim (h4 q) (Nat.le_trans h6.size), fun q hf hq => (m3 q hq).elim (h5 q hf) (fun h => by have := h1.lt q hf; omega), m2.below h6 (fun k hk => hk.elim (h4 k) (fun hb => (hB k hb).1)), fun y hmem => ?_⟩
  rcases hy y hmem with ⟨hx, hb⟩ | h
  · obtain ⟨k1, k2, k3, k4⟩ := h7 y hx
    exact ⟨m2.blk k1 (fun h => h.elim k3 hb), k2, fun hf => (m3 _ hf).elim k3 (fun h => by have := k1.lt; omega), k4⟩
  · exact h
theorem Two.below (h : Two w g r s t xs wr) : Below w.heap.size w wr := by obtain ⟨_, _, _, _, _, _, _, h, _⟩ := h; exact h
theorem Two.ok (h : Two w g r s t xs wr) : s.Ok := by obtain ⟨_, _, h, _⟩ := h; exact h.ok
theorem Two.box (h : Two w g r s t xs wr) {x : Box} (hx : x ∈ xs) : Blk wr x.1 x.2.1 x.2.2 := by obtain ⟨_, _, _, _, _, _, _, _, h⟩ := h; exact (h x hx).1
theorem Two.keep (h : Two w g r s t xs wr) (hy : ∀ y ∈ ys, y ∈ xs) : Two w g r s t ys wr := by
  obtain ⟨F, G, h1, h2, h3, h4, h5, h6, h7⟩ := h
  exact ⟨F, G, h1, h2, h3, h4, h5, h6, fun y hm => h7 y (hy y hm)⟩
theorem Two.still (h : Two w g r s t xs wr) (hb : Below wr.heap.size wr w') : Two w g r s t xs w' := by
  obtain ⟨F, G, h1, h2, h3, h4, h5, h6, h7⟩ := h
  exact ⟨F, G, h1.still hb, h2.still hb, h3, h4, h5, hop h6 hb, fun x hx => ⟨(h7 x hx).1.below hb (h7 x hx).1.lt, (h7 x hx).2⟩⟩
/-- with a box more, that a call has made -/
theorem Two.adds (h : Two w g r s t xs wr) (hb : Below wr.heap.size wr w') {x : Box} (hx : Blk w' x.1 x.2.1 x.2.2) (hn : wr.heap.size ≤ x.1) : Two w g r s t (x :: xs) w' := by
  obtain ⟨F, G, h1, h2, h3, h4, h5, h6, h7⟩ := h
  refine ⟨F, G, h1.still hb, h2.still hb, h3, h4, h5, hop h6 hb, fun y hy => ?_⟩
  rcases List.mem_cons.1 hy with rfl | hy
  · exact ⟨hx, fun hf => by have := h1.lt _ hf; omega, fun hg => by have := h2.lt _ hg; omega, Nat.le_trans h6.size hn⟩
  · exact ⟨(h7 y hy).1.below hb (h7 y hy).1.lt, (h7 y hy).2⟩
theorem Two.holds (h : Two w g r s t xs wr) (L : List Value) (T : TypeId) : Two w g r s t ((wr.heap.size, L, T) :: xs) (wr.alloc (.cells L.toArray T)) :=
  h.adds ((Below.refl _ _).alloc (Nat.le_refl _) _) (Blk.new wr L T) (Nat.le_refl _)

theorem two_arm (h : Two w g r s t xs wr) :
    Calls Try.prog 19 #[.pointer (some ⟨g, 0, none⟩), .int .i64 i] wr fun e w' => e = .returned (.tuple #[]) ∧ Two w g r (s.arm i) t xs w' := by
  obtain ⟨F, G, h1, h2, h3, h4, h5, h6, h7⟩ := h
  refine (arm_any wr g F s i h1).mono ?_
  rintro e w' ⟨he, F', m1, m2, m3⟩
  exact ⟨he, two_disk (B := fun _ => False) h1 h2 h3 h4 h5 h6 h7 (fun _ h => h.elim) m1 (m2.mono fun _ h => .inl h) m3 (fun y hy => .inl ⟨hy, id⟩)⟩
theorem two_refArm (h : Two w g r s t xs wr) :
    Calls Try.prog 20 #[.pointer (some ⟨r, 0, none⟩), .int .i64 i] wr fun e w' => e = .returned (.tuple #[]) ∧ Two w g r s (t.arm i) xs w' := by
  obtain ⟨F, G, h1, h2, h3, h4, h5, h6, h7⟩ := h
  refine (refArm_any wr r G t i h2).mono ?_
  rintro e w' ⟨he, G', m1, m2, m3⟩
  exact ⟨he, two_ref (B := fun _ => False) h1 h2 h3 h4 h5 h6 h7 (fun _ h => h.elim) m1 (m2.mono fun _ h => .inl h) m3 (fun y hy => .inl ⟨hy, id⟩)⟩
theorem two_crash (h : Two w g r s t xs wr) (hs : Ints w A p) (hn : p.length = n) (hl : n ≤ 9223372036854775807) (hb : ∀ x ∈ p, -9223372036854775808 ≤ x ∧ x ≤ 9223372036854775807) :
    Calls Try.prog 21 #[.pointer (some ⟨g, 0, none⟩), .slice A n cp] wr fun e w' => e = .returned (.tuple #[]) ∧ Two w g r (s.crash (pickOf p)) t xs w' := by
  subst hn
  obtain ⟨F, G, h1, h2, h3, h4, h5, h6, h7⟩ := h
  refine (crash_any wr g F s h1 A p cp (hs.away h6 h3) hb hl).mono ?_
  rintro e w' ⟨he, F', m1, m2, m3⟩
  exact ⟨he, two_disk (B := fun _ => False) h1 h2 h3 h4 h5 h6 h7 (fun _ h => h.elim) m1 (m2.mono fun _ h => .inl h) m3 (fun y hy => .inl ⟨hy, id⟩)⟩
theorem two_refCrash (h : Two w g r s t xs wr) (hs : Ints w A p) (hn : p.length = n) (hl : n ≤ 9223372036854775807) (hb : ∀ x ∈ p, -9223372036854775808 ≤ x ∧ x ≤ 9223372036854775807) :
    Calls Try.prog 22 #[.pointer (some ⟨r, 0, none⟩), .slice A n cp] wr fun e w' => e = .returned (.tuple #[]) ∧ Two w g r s (t.crash (pickOf p)) xs w' := by
  subst hn
  obtain ⟨F, G, h1, h2, h3, h4, h5, h6, h7⟩ := h
  refine (refCrash_any wr r G t h2 A p cp (hs.away h6 h4) hb hl).mono ?_
  rintro e w' ⟨he, G', m1, m2, m3⟩
  exact ⟨he, two_ref (B := fun _ => False) h1 h2 h3 h4 h5 h6 h7 (fun _ h => h.elim) m1 (m2.mono fun _ h => .inl h) m3 (fun y hy => .inl ⟨hy, id⟩)⟩

/-- Append, of both logs -/
theorem two_append (h : Two w g r s t ((b, lgCells g l, 74) :: xs) wr) (hne : ∀ x ∈ xs, x.1 ≠ b) (hfit : l.Fits s) (ha : Seen w A d) (hn : d.length = n) (hl : n ≤ 9223372036854775807) (hf : s.Few q) (hq : q ≤ 700000) :
    Calls Try.prog 12 #[.pointer (some ⟨b, 0, none⟩), .slice A n cp] wr fun e w' => e = .returned (.int .i64 (l.err s d)) ∧ Two w g r (l.dsk s d) t ((b, lgCells g (l.next s d), 74) :: xs) w' := by
  obtain ⟨F, G, h1, h2, h3, h4, h5, h6, h7⟩ := h
  obtain ⟨k1, k2, k3, k4⟩ := h7 _ (List.mem_cons_self ..)
  refine (append_any wr g b F s l A d n cp q ⟨h1, k1, k2, hfit⟩ (ha.below h6) hn hl hf hq).mono ?_
  rintro e w' ⟨he, F', m1, m2, m3, m4, m5⟩
  refine ⟨he, two_disk (B := fun k => k = b) h1 h2 h3 h4 h5 h6 h7 (fun k hk => by rw [hk]; exact ⟨k4, k3⟩) m1 m4 m5 (fun y hy => ?_)⟩
  rcases List.mem_cons.1 hy with rfl | hy
  · exact .inr ⟨m2, m3, k3, k4⟩
  · exact .inl ⟨List.mem_cons_of_mem _ hy, hne y hy⟩
theorem two_refAppend (h : Two w g r s t ((b, lgCells r l, 80) :: xs) wr) (hne : ∀ x ∈ xs, x.1 ≠ b) (hfit : l.Fits t) (ha : Seen w A d) (hn : d.length = n) (hl : n ≤ 9223372036854775807) (hf : t.Few q) (hq : q ≤ 700000) :
    Calls Try.prog 13 #[.pointer (some ⟨b, 0, none⟩), .slice A n cp] wr fun e w' => e = .returned (.int .i64 (l.err t d)) ∧ Two w g r s (l.dsk t d) ((b, lgCells r (l.next t d), 80) :: xs) w' := by
  obtain ⟨F, G, h1, h2, h3, h4, h5, h6, h7⟩ := h
  obtain ⟨k1, k2, k3, k4⟩ := h7 _ (List.mem_cons_self ..)
  refine (refAppend_any wr r b G t l A d n cp q ⟨h2, k1, k3, hfit⟩ (ha.below h6) hn hl hf hq).mono ?_
  rintro e w' ⟨he, G', m1, m2, m3, m4, m5⟩
  refine ⟨he, two_ref (B := fun k => k = b) h1 h2 h3 h4 h5 h6 h7 (fun k hk => by rw [hk]; exact ⟨k4, k2⟩) m1 m4 m5 (fun y hy => ?_)⟩
  rcases List.mem_cons.1 hy with rfl | hy
  · exact .inr ⟨m2, k2, m3, k4⟩
  · exact .inl ⟨List.mem_cons_of_mem _ hy, hne y hy⟩
end

/-- the pointer to a log that may be, and its box -/
def lp (lo : Option Lg) (b : Nat) : Value := .pointer (lo.map fun _ => ⟨b, 0, none⟩)
def lx (g : Nat) (T : TypeId) (lo : Option Lg) (b : Nat) : List Box := match lo with
  | none => []
  | some l => [(b, lgCells g l, T)]
/-- what Begin comes to -/
def BgTo (s : Dsk) (f N gen : Int) (d : List UInt8) (E : Int) (s' : Dsk) (lo : Option Lg) : Prop :=
  (¬ (OnDisk s f N ∧ 1 ≤ gen ∧ gen ≤ 1152921504606846976) ∧ E = 1 ∧ s' = s ∧ lo = none) ∨
  ((OnDisk s f N ∧ 1 ≤ gen ∧ gen ≤ 1152921504606846976) ∧ (Lg.new f.toNat N.toNat gen).err s d ≠ 0 ∧ E = (Lg.new f.toNat N.toNat gen).err s d ∧ s' = (Lg.new f.toNat N.toNat gen).dsk s d ∧ lo = none) ∨
  ((OnDisk s f N ∧ 1 ≤ gen ∧ gen ≤ 1152921504606846976) ∧ (Lg.new f.toNat N.toNat gen).err s d = 0 ∧ E = 0 ∧ s' = (Lg.new f.toNat N.toNat gen).dsk s d ∧ lo = some ((Lg.new f.toNat N.toNat gen).next s d))
theorem bg_exists (s : Dsk) (f N gen : Int) (d : List UInt8) : ∃ E s' lo, BgTo s f N gen d E s' lo := by
  by_cases h : OnDisk s f N ∧ 1 ≤ gen ∧ gen ≤ 1152921504606846976
  · by_cases h0 : (Lg.new f.toNat N.toNat gen).err s d = 0
    · exact ⟨_, _, _, .inr (.inr ⟨h, h0, rfl, rfl, rfl⟩)⟩
    · exact ⟨_, _, _, .inr (.inl ⟨h, h0, rfl, rfl, rfl⟩)⟩
  · exact ⟨_, _, _, .inl ⟨h, rfl, rfl, rfl⟩⟩
theorem bg_fits {s s' : Dsk} {f N gen E : Int} {d : List UInt8} {lo : Option Lg} {m : Nat} (h : BgTo s f N gen d E s' lo) (ok : s.Ok) (hf : s.Few m) : (∀ l, lo = some l → l.Fits s') ∧ s'.Few (m + 1100) := by
  have hc := (Lg.new f.toNat N.toNat gen).code_fits d
  rcases h with ⟨_, _, rfl, rfl⟩ | ⟨hg, _, _, rfl, rfl⟩ | ⟨hg, _, _, rfl, rfl⟩
  · exact ⟨(fun l h => by cases h), hf.mono (by omega)⟩
  · exact ⟨(fun l h => by cases h), (Lg.few (new_fits hg) ok hf).mono (by omega)⟩
  · refine ⟨fun l h => ?_, (Lg.few (new_fits hg) ok hf).mono (by omega)⟩
    injection h with h
    rw [← h]
    exact (new_fits hg).next.1
/-- what Open comes to -/
def OpTo (s : Dsk) (f N : Int) (E : Int) (lo : Option Lg) (ds : List (List UInt8)) : Prop :=
  (¬ OnDisk s f N ∧ E = 1 ∧ lo = none ∧ ds = []) ∨ (OnDisk s f N ∧ s.off = true ∧ E = 5 ∧ lo = none ∧ ds = []) ∨
  (OnDisk s f N ∧ s.off = false ∧ openL (s.bytes f.toNat N.toNat) = none ∧ E = 13 ∧ lo = none ∧ ds = []) ∨
  (OnDisk s f N ∧ s.off = false ∧ ∃ gen, openL (s.bytes f.toNat N.toNat) = some (gen, ds) ∧ E = 0 ∧ lo = some (Lg.found f.toNat N.toNat gen ds))
theorem op_exists (s : Dsk) (f N : Int) : ∃ E lo ds, OpTo s f N E lo ds := by
  by_cases h : OnDisk s f N
  · by_cases ho : s.off = true
    · exact ⟨_, _, _, .inr (.inl ⟨h, ho, rfl, rfl, rfl⟩)⟩
    · have ho' : s.off = false := by simpa using ho
      rcases hp : openL (s.bytes f.toNat N.toNat) with _ | ⟨gen, ds⟩
      · exact ⟨_, _, _, .inr (.inr (.inl ⟨h, ho', hp, rfl, rfl, rfl⟩))⟩
      · exact ⟨_, _, _, .inr (.inr (.inr ⟨h, ho', gen, hp, rfl, rfl⟩))⟩
  · exact ⟨_, _, _, .inl ⟨h, rfl, rfl, rfl⟩⟩
theorem op_fits {s : Dsk} {f N E : Int} {lo : Option Lg} {ds : List (List UInt8)} (h : OpTo s f N E lo ds) (ok : s.Ok) : (∀ l, lo = some l → l.Fits s) ∧ ds.length ≤ 262144 := by
  rcases h with ⟨_, _, rfl, rfl⟩ | ⟨_, _, _, rfl, rfl⟩ | ⟨_, _, _, _, rfl, rfl⟩ | ⟨⟨h1, h2, h3⟩, _, gen, hp, _, rfl⟩
  · exact ⟨(fun l h => by cases h), by simp⟩
  · exact ⟨(fun l h => by cases h), by simp⟩
  · exact ⟨(fun l h => by cases h), by simp⟩
  · have hK := ok.hi
    have hlen := bytes_length ok (f := f.toNat) (N := N.toNat) (by omega)
    obtain ⟨g1, g2, hds, _⟩ := open_some hp
    have hfit := scan_fits gen _ (s.bytes f.toNat N.toNat) 0 (Nat.le_refl _)
    rw [← hds, hlen] at hfit
    have hseq := framesL_seq gen ds 0
    refine ⟨fun l h => ?_, by omega⟩
    injection h with h
    rw [← h]
    exact ⟨by show 1 ≤ N.toNat; omega, by show f.toNat + N.toNat ≤ _; omega, hfit, hseq, g1, g2⟩

section
variable {w wr w' : World} {g r : Nat} {s t s' t' : Dsk} {A : Option Addr} {d : List UInt8} {n q cp : Nat} {f N gen E : Int} {xs : List Box} {lo : Option Lg} {ds : List (List UInt8)}
theorem two_begin (h : Two w g r s t xs wr) (hb : BgTo s f N gen d E s' lo) (ha : Seen w A d) (hn : d.length = n) (hl : n ≤ 9223372036854775807) (hf : s.Few q) (hq : q ≤ 700000) (f0 : IntOk f) :
    Calls Try.prog 14 #[.pointer (some ⟨g, 0, none⟩), .int .i64 f, .int .i64 N, .int .i64 gen, .slice A n cp] wr fun e w' => ∃ b, e = .returned (.tuple #[lp lo b, .int .i64 E]) ∧ Two w g r s' t (lx g 74 lo b ++ xs) w' ∧ wr.heap.size ≤ b := by
  obtain ⟨F, G, h1, h2, h3, h4, h5, h6, h7⟩ := h
  refine (begin_any wr g F s f N gen A d n cp q h1 (ha.below h6) hn hl hf hq f0.1 f0.2).mono ?_
  rintro e w' (⟨k1, rfl, k3⟩ | ⟨k1, k2, rfl, F', m1, m2, m3⟩ | ⟨k1, k2, b, rfl, hbw, F', m1, m2, m3, m4, m5⟩)
  · rcases hb with ⟨_, rfl, rfl, rfl⟩ | ⟨j, _⟩ | ⟨j, _⟩
    · exact ⟨wr.heap.size, rfl, two_disk (B := fun _ => False) h1 h2 h3 h4 h5 h6 h7 (fun _ h => h.elim) (h1.still k3) (.of_below k3 _) (fun _ h => .inl h) (fun y hy => .inl ⟨hy, id⟩), Nat.le_refl _⟩
    · exact absurd j k1
    · exact absurd j k1
  · rcases hb with ⟨j, _⟩ | ⟨_, _, rfl, rfl, rfl⟩ | ⟨_, j, _⟩
    · exact absurd k1 j
    · exact ⟨wr.heap.size, rfl, two_disk (B := fun _ => False) h1 h2 h3 h4 h5 h6 h7 (fun _ h => h.elim) m1 (m2.mono fun _ h => .inl h) m3 (fun y hy => .inl ⟨hy, id⟩), Nat.le_refl _⟩
    · exact absurd j k2
  · rcases hb with ⟨j, _⟩ | ⟨_, j, _⟩ | ⟨_, _, rfl, rfl, rfl⟩
    · exact absurd k1 j
    · exact absurd k2 j
    · refine ⟨b, rfl, two_disk (B := fun _ => False) h1 h2 h3 h4 h5 h6 h7 (fun _ h => h.elim) m1 (m4.mono fun _ h => .inl h) m5 (fun y hy => ?_), hbw⟩
      rcases List.mem_append.1 hy with hy | hy
      · rw [List.mem_singleton.1 hy]
        exact .inr ⟨m2, m3, fun hg => by have := h2.lt _ hg; omega, Nat.le_trans h6.size hbw⟩
      · exact .inl ⟨hy, id⟩
theorem two_refBegin (h : Two w g r s t xs wr) (hb : BgTo t f N gen d E t' lo) (ha : Seen w A d) (hn : d.length = n) (hl : n ≤ 9223372036854775807) (hf : t.Few q) (hq : q ≤ 700000) :
    Calls Try.prog 15 #[.pointer (some ⟨r, 0, none⟩), .int .i64 f, .int .i64 N, .int .i64 gen, .slice A n cp] wr fun e w' => ∃ b, e = .returned (.tuple #[lp lo b, .int .i64 E]) ∧ Two w g r s t' (lx r 80 lo b ++ xs) w' ∧ wr.heap.size ≤ b := by
  obtain ⟨F, G, h1, h2, h3, h4, h5, h6, h7⟩ := h
  refine (refBegin_any wr r G t f N gen A d n cp q h2 (ha.below h6) hn hl hf hq).mono ?_
  rintro e w' (⟨k1, rfl, k3⟩ | ⟨k1, k2, rfl, G', m1, m2, m3⟩ | ⟨k1, k2, b, rfl, hbw, G', m1, m2, m3, m4, m5⟩)
  · rcases hb with ⟨_, rfl, rfl, rfl⟩ | ⟨j, _⟩ | ⟨j, _⟩
    · exact ⟨wr.heap.size, rfl, two_ref (B := fun _ => False) h1 h2 h3 h4 h5 h6 h7 (fun _ h => h.elim) (h2.still k3) (.of_below k3 _) (fun _ h => .inl h) (fun y hy => .inl ⟨hy, id⟩), Nat.le_refl _⟩
    · exact absurd j k1
    · exact absurd j k1
  · rcases hb with ⟨j, _⟩ | ⟨_, _, rfl, rfl, rfl⟩ | ⟨_, j, _⟩
    · exact absurd k1 j
    · exact ⟨wr.heap.size, rfl, two_ref (B := fun _ => False) h1 h2 h3 h4 h5 h6 h7 (fun _ h => h.elim) m1 (m2.mono fun _ h => .inl h) m3 (fun y hy => .inl ⟨hy, id⟩), Nat.le_refl _⟩
    · exact absurd j k2
  · rcases hb with ⟨j, _⟩ | ⟨_, j, _⟩ | ⟨_, _, rfl, rfl, rfl⟩
    · exact absurd k1 j
    · exact absurd k2 j
    · refine ⟨b, rfl, two_ref (B := fun _ => False) h1 h2 h3 h4 h5 h6 h7 (fun _ h => h.elim) m1 (m4.mono fun _ h => .inl h) m5 (fun y hy => ?_), hbw⟩
      rcases List.mem_append.1 hy with hy | hy
      · rw [List.mem_singleton.1 hy]
        exact .inr ⟨m2, fun hf => by have := h1.lt _ hf; omega, m3, Nat.le_trans h6.size hbw⟩
      · exact .inl ⟨hy, id⟩
/-- what Open answers, under names -/
def OpenTo (w : World) (g r : Nat) (s t : Dsk) (xs : List Box) (T : TypeId) (v : Nat) (E : Int) (lo : Option Lg) (ds : List (List UInt8)) (wr : World) (e : Ending) (w' : World) : Prop :=
  ∃ b A ps n c, e = .returned (.tuple #[lp lo b, .slice A n c, .int .i64 E]) ∧ ps.length = n ∧ bytesOf ps = ds ∧ SeenAll w' A ps ∧ Two w g r s t (lx v T lo b ++ xs) w' ∧ wr.heap.size ≤ b ∧ Below wr.heap.size wr w'
theorem two_open (h : Two w g r s t xs wr) (hb : OpTo s f N E lo ds) (f0 : IntOk f) :
    Calls Try.prog 16 #[.pointer (some ⟨g, 0, none⟩), .int .i64 f, .int .i64 N] wr (OpenTo w g r s t xs 74 g E lo ds wr) := by
  have hd : ∃ F, DiskAt wr g F s := by obtain ⟨F, _, h, _⟩ := h; exact ⟨F, h⟩
  obtain ⟨F, h1⟩ := hd
  refine (open_any wr g F s f N h1 f0.1 f0.2).mono ?_
  rintro e w' (⟨k1, rfl, k3⟩ | ⟨k1, k2, rfl, k3⟩ | ⟨k1, k2, k4, rfl, k3⟩ | ⟨k1, k2, gen', ds', k4, b, ps, v, rfl, k5, k6, k7, k8, k3⟩)
  · rcases hb with ⟨_, rfl, rfl, rfl⟩ | ⟨j, _⟩ | ⟨j, _⟩ | ⟨j, _⟩
    · exact ⟨wr.heap.size, none, [], 0, 0, rfl, rfl, rfl, .inl rfl, h.still k3, Nat.le_refl _, k3⟩
    · exact absurd j k1
    · exact absurd j k1
    · exact absurd j k1
  · rcases hb with ⟨j, _⟩ | ⟨_, _, rfl, rfl, rfl⟩ | ⟨_, j, _⟩ | ⟨_, j, _⟩
    · exact absurd k1 j
    · exact ⟨wr.heap.size, none, [], 0, 0, rfl, rfl, rfl, .inl rfl, h.still k3, Nat.le_refl _, k3⟩
    · rw [k2] at j; cases j
    · rw [k2] at j; cases j
  · rcases hb with ⟨j, _⟩ | ⟨_, j, _⟩ | ⟨_, _, _, rfl, rfl, rfl⟩ | ⟨_, _, _, j, _⟩
    · exact absurd k1 j
    · rw [k2] at j; cases j
    · exact ⟨wr.heap.size, none, [], 0, 0, rfl, rfl, rfl, .inl rfl, h.still k3, Nat.le_refl _, k3⟩
    · rw [k4] at j; cases j
  · rcases hb with ⟨j, _⟩ | ⟨_, j, _⟩ | ⟨_, _, j, _⟩ | ⟨_, _, gen2, j, rfl, rfl⟩
    · exact absurd k1 j
    · rw [k2] at j; cases j
    · rw [k4] at j; cases j
    · rw [k4] at j
      injection j with j
      injection j with j1 j2
      subst j1 j2
      obtain ⟨A, c, hv⟩ := k8.form
      subst hv
      exact ⟨b, A, ps, ps.length, c, rfl, rfl, k5, k8.shown, h.adds k3 k7 k6, k6, k3⟩
theorem two_refOpen (h : Two w g r s t xs wr) (hb : OpTo t f N E lo ds) :
    Calls Try.prog 17 #[.pointer (some ⟨r, 0, none⟩), .int .i64 f, .int .i64 N] wr (OpenTo w g r s t xs 80 r E lo ds wr) := by
  have hd : ∃ G, RefAt wr r G t := by obtain ⟨_, G, _, h, _⟩ := h; exact ⟨G, h⟩
  obtain ⟨G, h1⟩ := hd
  refine (refOpen_any wr r G t f N h1).mono ?_
  rintro e w' (⟨k1, rfl, k3⟩ | ⟨k1, k2, rfl, k3⟩ | ⟨k1, k2, k4, rfl, k3⟩ | ⟨k1, k2, gen', ds', k4, b, ps, v, rfl, k5, k6, k7, k8, k3⟩)
  · rcases hb with ⟨_, rfl, rfl, rfl⟩ | ⟨j, _⟩ | ⟨j, _⟩ | ⟨j, _⟩
    · exact ⟨wr.heap.size, none, [], 0, 0, rfl, rfl, rfl, .inl rfl, h.still k3, Nat.le_refl _, k3⟩
    · exact absurd j k1
    · exact absurd j k1
    · exact absurd j k1
  · rcases hb with ⟨j, _⟩ | ⟨_, _, rfl, rfl, rfl⟩ | ⟨_, j, _⟩ | ⟨_, j, _⟩
    · exact absurd k1 j
    · exact ⟨wr.heap.size, none, [], 0, 0, rfl, rfl, rfl, .inl rfl, h.still k3, Nat.le_refl _, k3⟩
    · rw [k2] at j; cases j
    · rw [k2] at j; cases j
  · rcases hb with ⟨j, _⟩ | ⟨_, j, _⟩ | ⟨_, _, _, rfl, rfl, rfl⟩ | ⟨_, _, _, j, _⟩
    · exact absurd k1 j
    · rw [k2] at j; cases j
    · exact ⟨wr.heap.size, none, [], 0, 0, rfl, rfl, rfl, .inl rfl, h.still k3, Nat.le_refl _, k3⟩
    · rw [k4] at j; cases j
  · rcases hb with ⟨j, _⟩ | ⟨_, j, _⟩ | ⟨_, _, j, _⟩ | ⟨_, _, gen2, j, rfl, rfl⟩
    · exact absurd k1 j
    · rw [k2] at j; cases j
    · rw [k4] at j; cases j
    · rw [k4] at j
      injection j with j
      injection j with j1 j2
      subst j1 j2
      obtain ⟨A, c, hv⟩ := k8.form
      subst hv
      exact ⟨b, A, ps, ps.length, c, rfl, rfl, k5, k8.shown, h.adds k3 k7 k6, k6, k3⟩
/-- what both are asked behind each call -/
theorem two_calls (h : Two w g r s t xs wr) : Calls Try.prog 24 #[.pointer (some ⟨g, 0, none⟩)] wr fun e w' => e = .returned (.int .i64 (s.calls : Int)) ∧ w' = wr := by
  obtain ⟨_, _, h, _⟩ := h; exact calls_any h
def ImageTo (T : ByteArray) (n : Nat) (w w' : World) (e : Ending) : Prop :=
  ∃ A c, e = .returned (.slice A n c) ∧ (∀ w'', Below w'.heap.size w' w'' → (convert 22 9 (.slice A n c)).run Try.prog w'' = .ok (.string T) w'') ∧ Below w.heap.size w w'
theorem two_image (h : Two w g r s t xs wr) : Calls Try.prog 25 #[.pointer (some ⟨g, 0, none⟩)] wr fun e w' => ImageTo ⟨s.K.flatten.toArray⟩ s.K.flatten.length wr w' e := by
  obtain ⟨_, _, h, _⟩ := h
  refine (image_any wr g _ s h).mono ?_
  rintro e w' ⟨v, rfl, hm⟩
  obtain ⟨A, c, rfl, hs⟩ := hm.form
  exact ⟨A, c, rfl, text_on hs _ c rfl, hm.2⟩
theorem two_refImage (h : Two w g r s t xs wr) : Calls Try.prog 26 #[.pointer (some ⟨r, 0, none⟩)] wr fun e w' => ImageTo ⟨t.K.flatten.toArray⟩ t.K.flatten.length wr w' e := by
  obtain ⟨_, _, _, h, _⟩ := h
  refine (refImage_any wr r _ t h).mono ?_
  rintro e w' ⟨v, rfl, hm⟩
  obtain ⟨A, c, rfl, hs⟩ := hm.form
  exact ⟨A, c, rfl, text_on hs _ c rfl, hm.2⟩
theorem two_cells (h : Two w g r s t xs wr) : ∀ w', Below wr.heap.size wr w' → w'.cell? ⟨r, 5, none⟩ = some (.int .i64 (t.calls : Int)) := by
  obtain ⟨_, _, _, ⟨_, _, _, _, _, _, h⟩, _⟩ := h
  intro w' hb
  exact (h.still hb).cells.2.2.2.2.2
end
end Go.Proofs.Ytkbjhnlihnakkaa
