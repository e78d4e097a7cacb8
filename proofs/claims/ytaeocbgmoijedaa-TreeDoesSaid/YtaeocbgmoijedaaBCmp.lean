/-
  bytes.Compare and bytes.Equal over this program. No conditions but that the bytes are there.
-/
import Derived.Test.YtaeocbgmoijedaaText
import Derived.Test.YtaeocbgmoijedaaTrO
import Derived.Laws.Entries
namespace Go.Proofs.Ytaeocbgmoijedaa
open Go.RowKit

theorem run_bytes_off {P : Program} {w : World} : ∀ (l : List UInt8) (a : Addr) (acc : ByteArray), (∀ j x, l[j]? = some x → w.cell? (a.add j) = some (.int .u8 (x.toNat : Int))) →
    (Extern.Bytes.loadBytes a l.length acc).run P w = .ok ⟨acc.data ++ l.toArray⟩ w
  | [], a, acc, _ => by simp [Extern.Bytes.loadBytes]
  | x :: l, a, acc, h => by
    have h0 : w.cell? a = some (.int .u8 (x.toNat : Int)) := by
      have := h 0 x rfl
      simpa [Addr.add] using this
    have ih := run_bytes_off (P := P) (w := w) l (a.add 1) (acc.push x) (fun j y hy => by
      have := h (j + 1) y (by simpa using hy)
      have e : (a.add 1).add j = a.add (j + 1) := by
        unfold Addr.add
        by_cases hj : j = 0
        · subst hj; simp
        · simp [hj]; omega
      rw [e]; exact this)
    have hx : ((x.toNat : Int).toNat).toUInt8 = x := by simp
    simp only [List.length_cons, Extern.Bytes.loadBytes, Sem.run_bind, run_load, h0, Result.andThen, hx]
    rw [ih]
    congr 1
    apply ByteArray.ext
    simp [ByteArray.push]

theorem run_bytesOf_seen {P : Program} {w : World} {A : Option Addr} {l : List UInt8} (h : Seen w A l) (n c : Nat) (hn : l.length = n) : (Extern.Bytes.bytesOf (.slice A n c)).run P w = .ok ⟨l.toArray⟩ w := by
  subst hn
  rcases A with _ | a
  · obtain rfl : l = [] := by
      rcases h with h | ⟨_, _, h, _⟩
      · exact h
      · cases h
    rfl
  · show (Extern.Bytes.loadBytes a l.length .empty).run P w = _
    rw [run_bytes_off l a .empty (fun j x hj => by
      obtain ⟨hj', hx⟩ := List.getElem?_eq_some_iff.1 hj
      obtain ⟨b, off, ha, _, hc⟩ := h.at_ hj'
      injection ha with ha
      subst ha
      rw [add_plain, hc, hx])]
    congr 1
    apply ByteArray.ext
    simp

theorem run_compare_seen {P : Program} {w : World} {A B : Option Addr} {l k : List UInt8} (h : Seen w A l) (h' : Seen w B k) (n c m d : Nat) (hn : l.length = n) (hm : k.length = m) :
    (Extern.BytealgCompare.compare #[.slice A n c, .slice B m d]).run P w = .ok (.int .i64 (Lib.compareBytes l k)) w := by
  change Sem.run P (do pure (goInt (Extern.BytealgCompare.cmp (← Extern.Bytes.bytesOf (.slice A n c)) (← Extern.Bytes.bytesOf (.slice B m d))))) w = _
  simp only [Sem.run_bind, Sem.run_pure, run_bytesOf_seen h n c hn, run_bytesOf_seen h' m d hm, Result.andThen]
  rw [Lib.cmp_eq]
  rfl

set_option maxHeartbeats 400000 in
theorem bcompare_any {w : World} {A B : Option Addr} {l k : List UInt8} (h : Seen w A l) (h' : Seen w B k) (n c m d : Nat) (hn : l.length = n) (hm : k.length = m) :
    Calls Try.prog 41 #[.slice A n c, .slice B m d] w fun e w' => e = .returned (.int .i64 (Lib.compareBytes l k)) ∧ w' = w := by
  have HR := Lib.hid (run_compare_seen (P := Try.prog) h h' n c m d hn hm)
  generalize Lib.compareBytes l k = x at *
  clear h h' hn hm
  go_enter Try.func41, Try.ntmps41
  go_wp2
  rw [run_callFunc_extern Try.func55 (by kernel_rfl) (by kernel_rfl) (by kernel_rfl) (e := Extern.BytealgCompare.compare) (by kernel_rfl), HR.out]
  simp only [Result.andThen]
  rw [Oper.upon_value]
  go_wp2
  go_ret
  exact ⟨rfl, rfl⟩

set_option maxHeartbeats 400000 in
theorem bequal_any {w : World} {A B : Option Addr} {l k : List UInt8} (h : Seen w A l) (h' : Seen w B k) (n c m d : Nat) (hn : l.length = n) (hm : k.length = m) :
    Calls Try.prog 59 #[.slice A n c, .slice B m d] w fun e w' => e = .returned (.bool (decide (l = k))) ∧ w' = w := by
  have u1 := text_on h n c hn w (Below.refl _ _)
  have u2 := text_on h' m d hm w (Below.refl _ _)
  have hq := text_beq l k
  obtain ⟨b, hb⟩ : ∃ b, b = decide (l = k) := ⟨_, rfl⟩
  rw [← hb] at hq ⊢
  clear h h' hn hm hb
  generalize (⟨l.toArray⟩ : ByteArray) = t1 at *
  generalize (⟨k.toArray⟩ : ByteArray) = t2 at *
  go_enter Try.func59, Try.ntmps59
  go_wp2
  go_ret
  exact ⟨rfl, rfl⟩
end Go.Proofs.Ytaeocbgmoijedaa
