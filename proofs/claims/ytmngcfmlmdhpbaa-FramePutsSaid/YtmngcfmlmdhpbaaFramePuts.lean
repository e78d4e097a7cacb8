/-
  The statement FramePuts: what was put together is parted again. Condition: the row's own.
-/
import Derived.Test.YtmngcfmlmdhpbaaFAwake
import Derived.Test.YtmngcfmlmdhpbaaFPuts
import Derived.Test.YtmngcfmlmdhpbaaSame
namespace Go.Proofs.Ytmngcfmlmdhpbaa
open Go.RowKit

theorem putsV_few : ∀ (l : List PutV), (∀ p ∈ l, p.1.length ≤ 500 ∧ p.2.1.length ≤ 500) → (putsV l).length ≤ l.length * 1020
  | [], _ => by simp [putsV]
  | p :: l, h => by
    have h1 := h p (by simp)
    have ih := putsV_few l (fun q hq => h q (by simp [hq]))
    have e : putsV (p :: l) = putV1 p ++ putsV l := rfl
    have k1 := putL_length9 (n := p.1.length) (by omega)
    have k2 := putL_length9 (n := p.2.1.length) (by omega)
    have hp : (putV1 p).length ≤ 1020 := by
      unfold putV1
      split
      · rw [List.length_cons, partP, List.length_append]; omega
      · rw [List.length_cons, List.length_append, partP, partP, List.length_append, List.length_append]; omega
    rw [e, List.length_append, List.length_cons, Nat.succ_mul]
    omega
theorem few_vals {ps : List PPut} (h : fewB ps = true) : ∀ p ∈ valsOf ps, p.1.length ≤ 500 ∧ p.2.1.length ≤ 500 := fun p hp => by
  obtain ⟨q, hq, rfl⟩ := List.mem_map.1 hp
  exact (fewB_true h).2 q hq
theorem few_batch {ps : List PPut} (h : fewB ps = true) : (batchL (valsOf ps)).length ≤ 62000 := by
  have h1 := putsV_few _ (few_vals h)
  have h2 := (fewB_true h).1
  rw [valsOf_length] at h1
  have h3 := putL_length9 (n := ps.length) (by omega)
  rw [batchL, List.length_append, valsOf_length]
  omega
theorem few_back {ps : List PPut} (h : fewB ps = true) : putsL (batchL (valsOf ps)) = some ((valsOf ps).map clearV) := by
  refine puts_batch _ ?_ (fun p hp => ?_)
  · rw [valsOf_length]; have := (fewB_true h).1; omega
  · have := few_vals h p hp; omega

theorem fputs_made (A : Option Addr) (b : List UInt8) (n c : Nat) (w : World) (hn : b.length = n) (hs : Seen w A b) (hc : n ≤ c) (hb : n ≤ 1099511627776) :
    Calls Try.prog 19 #[.slice A n c] w (PutsOut w (putsL b)) := by
  subst hn
  exact fputs_any A b c w hs hc hb

set_option maxRecDepth 100000 in
set_option maxHeartbeats 2000000 in
theorem framePuts_walk (A : Option Addr) (ps : List PPut) (c : Nat) (w : World) (hn : ps.length ≤ 9223372036854775807) (hs : PutsSeen w A ps) :
    Calls Try.prog 7 #[.slice A ps.length c] w fun e w' => e = .returned (.bool true) ∧ Below w.heap.size w w' := by
  obtain ⟨n, hn'⟩ : ∃ n, n = ps.length := ⟨_, rfl⟩
  rw [← hn'] at hn ⊢
  have HN : Hid (ps.length = n) := hn'.symm
  have HS := Lib.hid hs
  have HFW := Lib.hid (fun w hs => few_any A ps n c w HN.out hn hs)
  clear hs hn'
  cases hf : fewB ps with
  | false =>
    rw [hf] at HFW
    clear hf
    go_enter Try.func7, Try.ntmps7
    go_wp2_with fail
    refine (awake_any w).mono ?_
    rintro e w1 ⟨rfl, hb1⟩
    have HB1 := Lib.hid hb1
    clear hb1
    go_wp2_with fail
    refine (HFW.out w1 (HS.out.below HB1.out)).mono ?_
    rintro e w2 ⟨rfl, rfl⟩
    go_wp2_with fail
    go_ret
    exact ⟨rfl, HB1.out⟩
  | true =>
    rw [hf] at HFW
    have HBK := Lib.hid (few_back hf)
    have hfit := few_batch hf
    obtain ⟨L, hL⟩ : ∃ L, L = batchL (valsOf ps) := ⟨_, rfl⟩
    have HBA := Lib.hid (fun w hs => batch_any A ps n c w HN.out hs hn (by omega))
    rw [← hL] at HBK hfit HBA
    obtain ⟨m, hm⟩ : ∃ m, m = L.length := ⟨_, rfl⟩
    rw [← hm] at hfit
    have HM : Hid (L.length = m) := hm.symm
    clear hf hL hm
    go_enter Try.func7, Try.ntmps7
    go_wp2_with fail
    refine (awake_any w).mono ?_
    rintro e w1 ⟨rfl, hb1⟩
    have HB1 := Lib.hid hb1
    clear hb1
    go_wp2_with fail
    refine (HFW.out w1 (HS.out.below HB1.out)).mono ?_
    rintro e w2 ⟨rfl, rfl⟩
    go_wp2_with fail
    refine (HBA.out w1 (HS.out.below HB1.out)).mono ?_
    rintro e w2 ⟨A2, n2, c2, rfl, hm2⟩
    obtain rfl : n2 = m := by rw [← hm2.1, HM.out]
    have hc2 : n2 ≤ c2 := by have := cap_of hm2.2; rw [hm2.1] at this; exact this
    have HS2 := Lib.hid hm2.seen
    have HB2 := Lib.hid (hop HB1.out hm2.2.2)
    clear hm2
    go_wp2_with fail
    refine (fputs_made A2 L n2 c2 w2 HM.out HS2.out hc2 (by omega)).mono ?_
    rintro e w3 ⟨A3, n3, c3, qs, rfl, hn3, hs3, hv3, hb3⟩
    rw [HBK.out] at hv3 ⊢
    have e0 : errOf (some ((valsOf ps).map clearV)) = 0 := rfl
    rw [e0]
    have HN3 := Lib.hid hn3
    have HS3 := Lib.hid hs3
    have HV : Hid (sameV (valsOf qs) (valsOf ps) = true) := by show _ = _; rw [hv3]; exact same_clear _
    have HB3 := Lib.hid (hop HB2.out hb3)
    have hn3' : n3 = n := by
      have := congrArg List.length hv3
      simpa [valsOf, hn3, HN.out] using this
    subst hn3'
    clear hn3 hs3 hv3 hb3 e0
    go_wp2_with fail
    refine (same_any A3 A qs ps n3 c3 n3 c w3 HN3.out HN.out hn hn HS3.out (HS.out.below HB3.out)).mono ?_
    rintro e w4 ⟨rfl, hb4⟩
    rw [HV.out]
    have HB4 := Lib.hid (hop HB3.out hb4)
    clear hb4
    go_wp2_with fail
    go_ret
    exact ⟨rfl, HB4.out⟩
end Go.Proofs.Ytmngcfmlmdhpbaa
