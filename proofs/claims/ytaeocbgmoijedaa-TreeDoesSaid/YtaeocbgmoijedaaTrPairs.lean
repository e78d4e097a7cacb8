/-
  pairs: two lists of pairs that show the same. Condition: at most 1,000,000 pairs.
-/
import Derived.Test.YtaeocbgmoijedaaTrLists
import Derived.BigQuiet
namespace Go.Proofs.Ytaeocbgmoijedaa
open Go.RowKit

/-- A slice that begins at A shows the pairs. -/
def KvSeen (W : World) (A : Option Addr) (l : List Kv) : Prop := ∀ (i : Nat) (h : i < l.length), ∃ b off A0 c0 A1 c1, A = some ⟨b, off, none⟩ ∧ b < W.heap.size ∧ W.cell? ⟨b, off + i * 2, none⟩ = some (.slice A0 l[i].1.length c0) ∧ W.cell? ⟨b, off + i * 2 + 1, none⟩ = some (.slice A1 l[i].2.length c1) ∧ Seen W A0 l[i].1 ∧ Seen W A1 l[i].2
theorem Found.kv {B0 : Nat} {W : World} {acc : List (El 0)} {A : Option Addr} {n c : Nat} (hf : Found B0 W acc (.slice A n c)) {L : List Kv} (hL : acc.map kv0 = L) : KvSeen W A L := fun i hi => by
  obtain ⟨b, off, A0, c0, A1, c1, hA, hb, q0, q1, s0, s1, _⟩ := found_at hf hL i hi
  exact ⟨b, off, A0, c0, A1, c1, hA, hb, q0, q1, s0, s1⟩
theorem KvSeen.below {W W' : World} {A : Option Addr} {l : List Kv} (h : KvSeen W A l) (hW : Below W.heap.size W W') : KvSeen W' A l := fun i hi => by
  obtain ⟨b, off, A0, c0, A1, c1, hA, hb, q0, q1, s0, s1⟩ := h i hi
  have key : ∀ o, W'.cell? ⟨b, o, none⟩ = W.cell? ⟨b, o, none⟩ := fun o => World.cell?_of_block (a := ⟨b, o, none⟩) (hW.block b hb)
  exact ⟨b, off, A0, c0, A1, c1, hA, Nat.lt_of_lt_of_le hb hW.size, (key _).trans q0, (key _).trans q1, s0.below hW, s1.below hW⟩

set_option maxRecDepth 100000 in
set_option maxHeartbeats 1000000 in
theorem pairs_same (w : World) (A B : Option Addr) (l : List Kv) (n c d : Nat) (hn : l.length = n) (hl : n ≤ 1000000) (ha : KvSeen w A l) (hb : KvSeen w B l) :
    Calls Try.prog 22 #[.slice A n c, .slice B n d] w fun e w' => e = .returned (.bool true) ∧ Below w.heap.size w w' := by
  have HA := Lib.hid ha
  have HB := Lib.hid hb
  have HN := Lib.hid hn
  clear ha hb hn
  go_enter Try.func22, Try.ntmps22
  go_wp2_with fail
  go_loopg [5] n (fun kx s wr => ∃ i : Nat, i + kx = n ∧ s = .int .i64 (i : Int) ∧ Below w.heap.size w wr)
  case atStart => exact ⟨0, by omega, rfl, Below.refl _ _⟩
  case round =>
    obtain ⟨i, hi, rfl, hbr⟩ := hrel
    have HBR := Lib.hid hbr
    have HI := Lib.hid hi
    clear hbr hi
    by_cases hlt : i < n
    · have hkl : (i : Int) < (n : Int) := by omega
      have hil : i < l.length := by have := HN.out; omega
      obtain ⟨b, off, A0, c0, A1, c1, rfl, _, q0, q1, s0, s1⟩ := HA.out.below HBR.out i hil
      obtain ⟨b2, off2, B0, d0, B1, d1, rfl, _, p0, p1, t0, t1⟩ := HB.out.below HBR.out i hil
      obtain ⟨k, hk⟩ : ∃ k, k = l[i].1 := ⟨_, rfl⟩
      obtain ⟨v, hv⟩ : ∃ v, v = l[i].2 := ⟨_, rfl⟩
      rw [← hk] at q0 s0 p0 t0
      rw [← hv] at q1 s1 p1 t1
      clear hk hv hil
      have cv : ∀ (X : Option Addr) (y : Key) (z : Nat), Seen wr X y → ∀ q, (convert 31 9 (.slice X y.length z)).run Try.prog (wr.drewN q) = .ok (.string ⟨y.toArray⟩) (wr.drewN q) := fun X y z h q => (h.below (below_drewN (Below.refl _ _) q)).text (P := Try.prog) 31 9 5 Try.underlying31 Try.underlying5 Try.underlying9 z
      have e0 := cv A0 k c0 s0
      have e1 := cv A1 v c1 s1
      have f0 := cv B0 k d0 t0
      have f1 := cv B1 v d1 t1
      have hwi : IntKind.i64.wrap ((i : Int) + 1) = ((i + 1 : Nat) : Int) := by rw [IntKind.wrap_i64]; omega
      clear s0 s1 t0 t1 cv
      go_wp2_with fail
      go_quiet (fail)
      go_wp2_with fail
      go_roundg (n - (i + 1))
      case measure => have := HI.out; omega
      case rel => exact ⟨i + 1, by have := HI.out; omega, rfl, below_drewN HBR.out _⟩
    · have hkl : ¬ (i : Int) < (n : Int) := by omega
      go_wp2_with fail
      go_ret
      exact ⟨rfl, HBR.out⟩
end Go.Proofs.Ytaeocbgmoijedaa
