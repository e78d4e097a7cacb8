/-
  Scan. Conditions: at most 100,000 pairs, of at most 1,000,000,000 bytes a key and a value.
-/
import Derived.Test.YtaeocbgmoijedaaTrTree
namespace Go.Proofs.Ytaeocbgmoijedaa
open Go.RowKit

/-- what Scan finds -/
def scanL (fr to : Key) (mo : Int) (L : List Kv) : List Kv := if mo < 1 then [] else (visit to mo [] (since fr L)).1
/-- what Scan answers: pairs of its own -/
def ScanOut (w : World) (l : List Kv) (e : Ending) (w' : World) : Prop :=
  Below w.heap.size w w' ∧ ∃ (B0 : Nat) (acc : List (El 0)) (v : Value), e = .returned v ∧ w.heap.size ≤ B0 ∧ Found B0 w' acc v ∧ acc.map kv0 = l
set_option maxHeartbeats 1000000 in
theorem scan_any (w : World) (F : Nat → Prop) (g : Nat) (room : Int) (L : List Kv) (R T : Option Addr) (fr to : Key) (r rc m d : Nat) (mo : Int) (t : TreeAt w F g room L) (hr : Seen w R fr) (hrl : fr.length = r) (ht : Seen w T to) (htl : to.length = m) (hmm : m ≤ 9223372036854775807) :
    Calls Try.prog 23 #[.pointer (some ⟨g, 0, none⟩), .slice R r rc, .slice T m d, .int .i64 mo] w (ScanOut w (scanL fr to mo L)) := by
  have hsm := t.2.1.1
  obtain ⟨h, p, A0, A1, A2, n0, c0, n1, c1, n2, c2, hrt, hv, hc, hb⟩ := tree_open t
  have HB := Lib.hid hb
  have x0 := hb.cell (i := 0) (by simp)
  have x1 := hb.cell (i := 1) (by simp)
  have x2 := hb.cell (i := 2) (by simp)
  simp only [List.getElem_cons_zero, List.getElem_cons_succ] at x0 x1 x2
  have hgood := hrt.good
  have hflat := hrt.flat
  have HE : Hid (∀ W, Below w.heap.size w W → W.heap.size = w.heap.size + 3 → W.cell? ⟨w.heap.size, 0, none⟩ = some (.slice T m d) → W.cell? ⟨w.heap.size + 1, 0, none⟩ = some (.int .i64 mo) → Blk W (w.heap.size + 2) [.slice none 0 0] 28 →
      Calls Try.prog 39 #[.agg #[.slice A0 n0 c0, .slice A1 n1 c1, .slice A2 n2 c2], .slice R r rc, .func (.func 40) #[] #[.pointer (some ⟨w.heap.size, 0, none⟩), .pointer (some ⟨w.heap.size + 2, 0, none⟩), .pointer (some ⟨w.heap.size + 1, 0, none⟩)]] W (EachOut (w.heap.size + 3) (w.heap.size + 2) W [] (.slice none 0 0) to mo (since fr L))) := fun W hW hs h1 h2 h3 => by
    have hF2 : ∀ b, Mine (w.heap.size + 3) (w.heap.size + 2) b → F b ∨ w.heap.size ≤ b := fun b hb => .inr (by rcases hb with hb | hb <;> omega)
    have hF3 : ∀ b, Mine (w.heap.size + 3) (w.heap.size + 2) b → w.heap.size ≤ b ∨ w.heap.size ≤ b := fun b hb => .inr (by rcases hb with hb | hb <;> omega)
    have hg2 : Good W (Mine (w.heap.size + 3) (w.heap.size + 2)) h p := ⟨EOk.moved (.of_below hW F) hF2 (h + 1) p hgood.ok, hgood.inner, hgood.srt, hgood.few, hgood.some_⟩
    have hse : ScanEnv (w.heap.size + 3) w.heap.size (w.heap.size + 2) (w.heap.size + 1) T to m d mo R fr W := ⟨h1, h2, ⟨by omega, by omega, by omega, by omega⟩, (Away.of_seen (F := fun b => w.heap.size ≤ b) ht (fun b _ _ hb h => by omega)).moved (.of_below hW _) hF3, (Away.of_seen (F := fun b => w.heap.size ≤ b) hr (fun b _ _ hb h => by omega)).moved (.of_below hW _) hF3, by omega⟩
    have hsa : ScanAt (w.heap.size + 3) (w.heap.size + 2) W [] (.slice none 0 0) := ⟨by rw [← hs]; exact Found.nil W, h3, by omega⟩
    have := each_any (w.heap.size + 3) w.heap.size (w.heap.size + 2) (w.heap.size + 1) T to m d mo R fr r rc htl hmm hrl h W [] (.slice none 0 0) p hg2 hsa hse (by rw [hflat]; simp; omega)
    rw [hv, hflat] at this
    exact this
  clear hrt hv hc hb hgood hflat t hr ht
  go_enter Try.func23, Try.ntmps23
  by_cases hmo : mo < 1
  · have hl : scanL fr to mo L = [] := if_pos hmo
    rw [hl]
    go_wp2_with fail
    go_ret
    refine ⟨((Below.refl _ _).alloc (Nat.le_refl _) _).alloc (by simp) _, _, [], _, rfl, ?_, Found.nil _, rfl⟩
    simp; omega
  · have hl : scanL fr to mo L = (visit to mo [] (since fr L)).1 := if_neg hmo
    rw [hl]
    have hmo2 : 1 ≤ mo := by omega
    obtain ⟨w5, hw5⟩ : ∃ w5, w5 = ((w.alloc (.cells #[.slice T m d] 31)).alloc (.cells #[.int .i64 mo] 3)).alloc (.cells #[.slice none 0 0] 28) := ⟨_, rfl⟩
    have B5 : Hid (Below w.heap.size w w5) := by show _; rw [hw5]; exact ((((Below.refl _ _).alloc (Nat.le_refl _) _).alloc (by simp) _).alloc (by simp; omega) _)
    have HW5 : Hid (((w.alloc (.cells #[.slice T m d] 31)).alloc (.cells #[.int .i64 mo] 3)).alloc (.cells #[.slice none 0 0] 28) = w5) := hw5.symm
    have HE5 : Hid (Calls Try.prog 39 #[.agg #[.slice A0 n0 c0, .slice A1 n1 c1, .slice A2 n2 c2], .slice R r rc, .func (.func 40) #[] #[.pointer (some ⟨w.heap.size, 0, none⟩), .pointer (some ⟨w.heap.size + 1 + 1, 0, none⟩), .pointer (some ⟨w.heap.size + 1, 0, none⟩)]] w5 (EachOut (w.heap.size + 3) (w.heap.size + 2) w5 [] (.slice none 0 0) to mo (since fr L))) := by
      refine HE.out w5 B5.out (by rw [hw5]; simp) ?_ ?_ ?_
      · rw [hw5]
        exact ((((Blk.new w [.slice T m d] 31).alloc _).alloc _).cell (i := 0) (by simp))
      · have := (((Blk.new (w.alloc (.cells #[.slice T m d] 31)) [.int .i64 mo] 3).alloc (.cells #[.slice none 0 0] 28)).cell (i := 0) (by simp))
        rw [hw5]
        simpa using this
      · have := Blk.new ((w.alloc (.cells #[.slice T m d] 31)).alloc (.cells #[.int .i64 mo] 3)) [.slice none 0 0] 28
        rw [hw5]
        simpa using this
    have HG : Hid (Blk w5 g [.slice A0 n0 c0, .slice A1 n1 c1, .slice A2 n2 c2, .int .i64 room, .int .i64 (L.length : Int), .int .i64 (sizeL L : Int)] 57) := HB.out.below B5.out HB.out.lt
    have hg3 : Blk (((w.alloc (.cells #[.slice T m d] 31)).alloc (.cells #[.int .i64 mo] 3)).alloc (.cells #[.slice none 0 0] 28)) g [.slice A0 n0 c0, .slice A1 n1 c1, .slice A2 n2 c2, .int .i64 room, .int .i64 (L.length : Int), .int .i64 (sizeL L : Int)] 57 := by rw [HW5.out]; exact HG.out
    have y0 := hg3.cell (i := 0) (by simp)
    have y1 := hg3.cell (i := 1) (by simp)
    have y2 := hg3.cell (i := 2) (by simp)
    simp only [List.getElem_cons_zero, List.getElem_cons_succ] at y0 y1 y2
    clear hg3 hw5 x0 x1 x2
    go_wp2_with fail
    rw [HW5.out]
    with_reducible refine HE5.out.mono ?_
    rintro e w6 ⟨acc, v, rfl, hacc, hsa, hsm⟩
    have hv := hsa.var.cell (i := 0) (by simp)
    simp only [List.getElem_cons_zero] at hv
    have HSA := Lib.hid hsa
    have HACC := Lib.hid hacc
    have B6 : Hid (Below w.heap.size w w6) := by
      exact hsm.spared.below (W := w) B5.out (fun b hb => by
        rcases hb with hb | hb
        · omega
        · cases hb)
    clear hacc hsa hsm
    go_wp2_with fail
    go_ret
    exact ⟨B6.out, _, acc, v, rfl, Nat.le_add_right _ _, HSA.out.found, HACC.out⟩
end Go.Proofs.Ytaeocbgmoijedaa
