/-
  A slice of calls of this layer: what it shows; the statement's own question few. No conditions but that lengths are ints.
-/
import Derived.Test.YtaeocbgmoijedaaTrAw
namespace Go.Proofs.Ytaeocbgmoijedaa
open Go.RowKit

/-- a call: its kind, its key, its value, its number -/
abbrev TOp := Int × Piece × Piece × Int
def IntOk (i : Int) : Prop := -9223372036854775808 ≤ i ∧ i ≤ 9223372036854775807
/-- what is known of a call -/
def TOk (w : World) (o : TOp) : Prop :=
  (IntOk o.1 ∧ IntOk o.2.2.2) ∧ (Seen w o.2.1.1 o.2.1.2.1 ∧ o.2.1.2.1.length ≤ 9223372036854775807) ∧ (Seen w o.2.2.1.1 o.2.2.1.2.1 ∧ o.2.2.1.2.1.length ≤ 9223372036854775807)
/-- the cells of a call -/
def tcells (o : TOp) : List Value := [.int .i64 o.1, pv o.2.1, pv o.2.2.1, .int .i64 o.2.2.2]
/-- A slice that begins at A shows the calls. -/
def TsSeen (w : World) (A : Option Addr) (l : List TOp) : Prop :=
  l = [] ∨ ∃ b off, A = some ⟨b, off, none⟩ ∧ b < w.heap.size ∧ ∀ j (h : j < l.length), (∀ i, i < 4 → w.cell? ⟨b, off + j * 4 + i, none⟩ = (tcells l[j])[i]?) ∧ TOk w l[j]
theorem TsSeen.at_ {w : World} {A : Option Addr} {l : List TOp} (h : TsSeen w A l) (k : Nat) (hk : k < l.length) : ∃ b off, A = some ⟨b, off, none⟩ ∧ TOk w l[k] ∧ ∀ w', Below w.heap.size w w' → w'.cell? ⟨b, off + k * 4, none⟩ = some (.int .i64 l[k].1) ∧ w'.cell? ⟨b, off + k * 4 + 1, none⟩ = some (.slice l[k].2.1.1 l[k].2.1.2.1.length l[k].2.1.2.2) ∧
    w'.cell? ⟨b, off + k * 4 + 2, none⟩ = some (.slice l[k].2.2.1.1 l[k].2.2.1.2.1.length l[k].2.2.1.2.2) ∧ w'.cell? ⟨b, off + k * 4 + 3, none⟩ = some (.int .i64 l[k].2.2.2) := by
  rcases h with rfl | ⟨b, off, rfl, hb, hc⟩
  · simp at hk
  · obtain ⟨h1, h5⟩ := hc k hk
    refine ⟨b, off, rfl, h5, fun w' hbl => ?_⟩
    have e : ∀ o, w'.cell? ⟨b, o, none⟩ = w.cell? ⟨b, o, none⟩ := fun o => hbl.cell (p := ⟨b, o, none⟩) hb
    exact ⟨(e _).trans (h1 0 (by decide)), (e _).trans (h1 1 (by decide)), (e _).trans (h1 2 (by decide)), (e _).trans (h1 3 (by decide))⟩

def fewB (l : List TOp) : Bool := decide (l.length ≤ 300 ∧ ∀ o ∈ l, o.2.1.2.1.length ≤ 100 ∧ o.2.2.1.2.1.length ≤ 100)

set_option maxRecDepth 100000 in
set_option maxHeartbeats 400000 in
theorem few_any (A : Option Addr) (l : List TOp) (n c : Nat) (w : World) (hs : TsSeen w A l) (hn : l.length = n) :
    Calls Try.prog 10 #[.slice A n c] w fun e w' => e = .returned (.bool (fewB l)) ∧ w = w' := by
  have HS := Lib.hid hs
  have HN := Lib.hid hn
  obtain ⟨B, hB⟩ : ∃ B, B = fewB l := ⟨_, rfl⟩
  have HB := Lib.hid hB
  rw [← hB]
  clear hs hn hB
  by_cases hlong : 300 < n
  · have hF : B = false := by
      rw [HB.out]
      refine decide_eq_false ?_
      rintro ⟨h, _⟩
      have := HN.out
      omega
    subst hF
    go_enter Try.func10, Try.ntmps10
    go_wp2_with fail
    go_ret
    exact ⟨rfl, rfl⟩
  go_enter Try.func10, Try.ntmps10
  go_wp2_with fail
  go_loopw [3] (fun a wr => ∃ k : Nat, k ≤ n ∧ a = .int .i64 k ∧ wr = w ∧ ∀ j (h : j < l.length), j < k → l[j].2.1.2.1.length ≤ 100 ∧ l[j].2.2.1.2.1.length ≤ 100) (fun a _ => n - (intOf a).toNat)
  case atStart => exact ⟨0, Nat.zero_le _, rfl, rfl, fun j _ h => by omega⟩
  case round =>
    obtain ⟨k, hk, rfl, rfl, hall⟩ := hrel
    have HALL := Lib.hid hall
    clear hall
    by_cases hlt : k < n
    · have hkl : (k : Int) < (n : Int) := by omega
      have hkn : k < l.length := by have := HN.out; omega
      obtain ⟨ba, oa, rfl, hok, hc⟩ := HS.out.at_ k hkn
      have o1 := (hc wr (Below.refl _ _)).2.1
      have o2 := (hc wr (Below.refl _ _)).2.2.1
      obtain ⟨p, hp⟩ : ∃ p : Piece, p = l[k].2.1 := ⟨_, rfl⟩
      obtain ⟨q, hq⟩ : ∃ q : Piece, q = l[k].2.2.1 := ⟨_, rfl⟩
      have HP := Lib.hid hp
      have HQ := Lib.hid hq
      rw [← hp] at o1
      rw [← hq] at o2
      obtain ⟨m, hm⟩ : ∃ m, m = p.2.1.length := ⟨_, rfl⟩
      obtain ⟨z, hz⟩ : ∃ z, z = q.2.1.length := ⟨_, rfl⟩
      have HM := Lib.hid hm
      have HZ := Lib.hid hz
      rw [← hm] at o1
      rw [← hz] at o2
      clear hc hok hp hm hq hz
      have hF : (100 < m ∨ 100 < z) → B = false := fun hbig => by
        rw [HB.out]
        refine decide_eq_false ?_
        rintro ⟨_, h⟩
        have := h _ (List.getElem_mem hkn)
        rw [← HP.out, ← HQ.out, ← HM.out, ← HZ.out] at this
        omega
      have HF := Lib.hid hF
      clear hF
      by_cases hbig : 100 < m
      · obtain rfl := HF.out (.inl hbig)
        have hbig' : (100 : Int) < (m : Int) := by omega
        clear HP HQ hkn
        go_wp2_with fail
        go_ret
        exact ⟨rfl, rfl⟩
      · have hbig' : ¬ (100 : Int) < (m : Int) := by omega
        by_cases hbig2 : 100 < z
        · obtain rfl := HF.out (.inr hbig2)
          have hbig2' : (100 : Int) < (z : Int) := by omega
          clear HP HQ hkn
          go_wp2_with fail
          go_ret
          exact ⟨rfl, rfl⟩
        · have hbig2' : ¬ (100 : Int) < (z : Int) := by omega
          have HK2 : Hid (∀ j (h : j < l.length), j < k + 1 → l[j].2.1.2.1.length ≤ 100 ∧ l[j].2.2.1.2.1.length ≤ 100) := fun j h hj => by
            rcases Nat.lt_or_ge j k with h1 | h1
            · exact HALL.out j h h1
            · obtain rfl : j = k := by omega
              rw [← HP.out, ← HQ.out, ← HM.out, ← HZ.out]; omega
          clear HP HQ hkn
          go_wp2_with fail
          go_roundw
          case rel => exact ⟨k + 1, by omega, by go_num, by trivial, HK2.out⟩
          case measure => simp [intOf]; omega
    · obtain rfl : k = n := by omega
      have hkl : ¬ (k : Int) < (k : Int) := by omega
      have hT : B = true := by
        rw [HB.out]
        refine decide_eq_true ⟨by have := HN.out; omega, fun o ho => ?_⟩
        obtain ⟨j, hj, rfl⟩ := List.mem_iff_getElem.1 ho
        exact HALL.out j hj (by have := HN.out; omega)
      subst hT
      go_wp2_with fail
      go_ret
      exact ⟨rfl, rfl⟩
end Go.Proofs.Ytaeocbgmoijedaa
