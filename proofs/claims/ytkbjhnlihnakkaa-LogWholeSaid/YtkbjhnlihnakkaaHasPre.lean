/-
  What bytes.Equal and bytes.HasPrefix come to. No conditions beyond how the bytes lie in memory.
-/
import Derived.Test.YtkbjhnlihnakkaaMadeN
import Derived.Test.YtkbjhnlihnakkaaFEnc
namespace Go.Proofs.Ytkbjhnlihnakkaa
open Go.RowKit

def eqB (a b : List UInt8) : Bool := decide (a = b)
def preB (l p : List UInt8) : Bool := decide (l.take p.length = p)

theorem bytesEqual_any (A B : Option Addr) (a b : List UInt8) (n c m k : Nat) (w : World) (hn : a.length = n) (hm : b.length = m) (ha : Seen w A a) (hb : Seen w B b) :
    Calls Try.prog 78 #[.slice A n c, .slice B m k] w fun e w' => e = .returned (.bool (eqB a b)) ∧ w = w' := by
  have ua := text_on ha n c hn w (Below.refl _ _)
  have ub := text_on hb m k hm w (Below.refl _ _)
  have HT : Hid ((a == b) = eqB a b) := by show _ = _; unfold eqB; rw [Bool.eq_iff_iff, beq_iff_eq, decide_eq_true_iff]
  clear ha hb hn hm
  go_enter Try.func78, Try.ntmps78
  go_wp2_with fail
  go_ret
  exact ⟨ret_bool HT.out, rfl⟩

theorem hasPrefix_any (A B : Option Addr) (l p : List UInt8) (n c m k : Nat) (w : World) (hn : l.length = n) (hc : n ≤ c) (hm : p.length = m) (ha : Seen w A l) (hp : Seen w B p) :
    Calls Try.prog 59 #[.slice A n c, .slice B m k] w fun e w' => e = .returned (.bool (preB l p)) ∧ w = w' := by
  by_cases hlt : m ≤ n
  · have HE : Hid (eqB (l.take m) p = preB l p) := by show _ = _; unfold eqB preB; rw [hm]
    have HC := Lib.hid (bytesEqual_any A B (l.take m) p m c m k w (by rw [List.length_take]; omega) hm (ha.take m) hp)
    have hcut := cut_head A n c m (by omega)
    have ht : decide ((m : Int) ≤ (n : Int)) = true := decide_eq_true (by omega)
    clear ha hp hn hm
    go_enter Try.func59, Try.ntmps59
    go_wp2_with fail
    refine HC.out.mono ?_
    rintro e w' ⟨rfl, rfl⟩
    go_wp2_with fail
    go_ret
    exact ⟨ret_bool HE.out, rfl⟩
  · have HE : Hid (preB l p = false) := decide_eq_false (fun e => by have := congrArg List.length e; rw [List.length_take] at this; omega)
    have ht : decide ((m : Int) ≤ (n : Int)) = false := decide_eq_false (by omega)
    clear ha hp hn hm
    go_enter Try.func59, Try.ntmps59
    go_wp2_with fail
    go_ret
    exact ⟨ret_bool HE.out.symm, rfl⟩
end Go.Proofs.Ytkbjhnlihnakkaa
