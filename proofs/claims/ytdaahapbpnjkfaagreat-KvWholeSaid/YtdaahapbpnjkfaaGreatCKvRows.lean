/-
  A list of batches: what it shows; batches: at most 40 of at most 60 puts. No conditions but that lengths are ints.
-/
import Derived.Test.YtdaahapbpnjkfaaGreatCPutsFew
import Derived.Deep.LoopGhost
namespace Go.Proofs.YtdaahapbpnjkfaaGreat
open Go.RowKit
abbrev PRow := Option Addr × List PPut × Nat
def RowsSeen (w : World) (A : Option Addr) (l : List PRow) : Prop :=
  l = [] ∨ ∃ b off, A = some ⟨b, off, none⟩ ∧ b < w.heap.size ∧ ∀ j (h : j < l.length), w.cell? ⟨b, off + j, none⟩ = some (.slice l[j].1 l[j].2.1.length l[j].2.2) ∧ PutsSeen w l[j].1 l[j].2.1 ∧ l[j].2.1.length ≤ l[j].2.2 ∧ l[j].2.1.length ≤ 9223372036854775807
theorem RowsSeen.below {w w' : World} {A : Option Addr} {l : List PRow} (h : RowsSeen w A l) (hb : Below w.heap.size w w') : RowsSeen w' A l := by
  rcases h with rfl | ⟨b, off, rfl, hlt, hc⟩
  · exact .inl rfl
  · refine .inr ⟨b, off, rfl, Nat.lt_of_lt_of_le hlt hb.size, fun j hj => ?_⟩
    obtain ⟨h1, h2, h3⟩ := hc j hj
    exact ⟨(hb.cell (p := ⟨b, off + j, none⟩) hlt).trans h1, h2.below hb, h3⟩
theorem RowsSeen.at_ {w : World} {A : Option Addr} {l : List PRow} (h : RowsSeen w A l) (k : Nat) (hk : k < l.length) : ∃ b off, A = some ⟨b, off, none⟩ ∧ PutsSeen w l[k].1 l[k].2.1 ∧ l[k].2.1.length ≤ l[k].2.2 ∧ l[k].2.1.length ≤ 9223372036854775807 ∧ ∀ w', Below w.heap.size w w' → w'.cell? ⟨b, off + k, none⟩ = some (.slice l[k].1 l[k].2.1.length l[k].2.2) := by
  rcases h with rfl | ⟨b, off, rfl, hlt, hc⟩
  · simp at hk
  · obtain ⟨h1, h2, h3, h4⟩ := hc k hk
    exact ⟨b, off, rfl, h2, h3, h4, fun w' hb => (hb.cell (p := ⟨b, off + k, none⟩) hlt).trans h1⟩
def batchesB (l : List PRow) : Bool := decide (l.length ≤ 40) && l.all fun r => pfewB r.2.1
theorem batchesB_true {l : List PRow} (h : batchesB l = true) : l.length ≤ 40 ∧ ∀ (k : Nat) (hk : k < l.length), l[k].2.1.length ≤ 60 ∧ ∀ q ∈ l[k].2.1, q.1.2.1.length ≤ 500 ∧ q.2.1.2.1.length ≤ 500 := by
  unfold batchesB at h
  rw [Bool.and_eq_true, decide_eq_true_eq, List.all_eq_true] at h
  exact ⟨h.1, fun k hk => pfewB_true (h.2 _ (List.getElem_mem hk))⟩
set_option maxRecDepth 100000 in
set_option maxHeartbeats 1000000 in
theorem batches_any (A : Option Addr) (l : List PRow) (n c : Nat) (w : World) (hn : l.length = n) (hs : RowsSeen w A l) :
    Calls Tryz.prog 25 #[.slice A n c] w fun e w' => e = .returned (.bool (batchesB l)) ∧ w = w' := by
  have HS := Lib.hid hs
  have HN := Lib.hid hn
  obtain ⟨v, hv⟩ : ∃ v, v = batchesB l := ⟨_, rfl⟩
  rw [← hv]
  by_cases h40 : 40 < n
  · have HV : Hid (false = v) := by show _ = _; rw [hv, batchesB, decide_eq_false (by omega)]; rfl
    clear hs hn hv
    go_enter Tryz.func25, Tryz.ntmps25
    go_wp2_with fail
    go_ret
    exact ⟨ret_bool HV.out, rfl⟩
  · have HV : Hid (l.all (fun r => pfewB r.2.1) = v) := by show _ = _; rw [hv, batchesB, decide_eq_true (by omega)]; rfl
    clear hs hn hv
    go_enter Tryz.func25, Tryz.ntmps25
    go_wp2_with fail
    go_loopg [3] n (fun kx s wr => ∃ k : Nat, k + kx = n ∧ s = .int .i64 (k : Int) ∧ w = wr ∧ Hid ((l.drop k).all (fun r => pfewB r.2.1) = v))
    case atStart => exact ⟨0, by omega, rfl, rfl, HV.out⟩
    case round =>
      obtain ⟨k, hk, rfl, rfl, hall⟩ := hrel
      have HK := Lib.hid hk
      clear hk
      by_cases hlt : k < n
      · have hkl : (k : Int) < (n : Int) := by omega
        have hkn : k < l.length := by have := HN.out; omega
        obtain ⟨b, off, rfl, hps, hcp, hl9, hc⟩ := HS.out.at_ k hkn
        have o0 := hc w (Below.refl _ _)
        have hdr : (l.drop k).all (fun r => pfewB r.2.1) = (pfewB l[k].2.1 && (l.drop (k + 1)).all (fun r => pfewB r.2.1)) := by rw [List.drop_eq_getElem_cons hkn, List.all_cons]
        obtain ⟨⟨B, ps, cp⟩, hq⟩ : ∃ q, q = l[k] := ⟨_, rfl⟩
        rw [← hq] at o0 hps hl9 hdr
        have HDR := Lib.hid hdr
        obtain ⟨m, hm⟩ : ∃ m, ps.length = m := ⟨_, rfl⟩
        have hps' : PutsSeen w B ps := hps
        have hl' : ps.length ≤ 9223372036854775807 := hl9
        have HF := Lib.hid (pfew_any B ps m cp w hm (by omega) hps')
        have o1 : w.cell? ⟨b, off + k, none⟩ = some (.slice B m cp) := by rw [← hm]; exact o0
        obtain ⟨u, hu⟩ : ∃ u, u = pfewB ps := ⟨_, rfl⟩
        rw [← hu] at HF
        have HU := Lib.hid hu
        have hwi : IntKind.i64.wrap ((k : Int) + 1) = ((k + 1 : Nat) : Int) := by rw [IntKind.wrap_i64]; omega
        clear hcp hps hl9 hc hdr hq hm hps' hl' o0 hu hkn
        go_wp2_with fail
        with_reducible refine HF.out.mono ?_
        rintro e w1 ⟨rfl, rfl⟩
        cases u
        · have HV2 : Hid (false = v) := by
            have h5 : pfewB ps = false := HU.out.symm
            show _ = _
            rw [← hall.out, HDR.out]
            show false = (pfewB ps && _)
            rw [h5]; rfl
          clear hall
          go_wp2_with fail
          go_ret
          exact ⟨ret_bool HV2.out, rfl⟩
        · have HV2 : Hid ((l.drop (k + 1)).all (fun r => pfewB r.2.1) = v) := by
            have h5 : pfewB ps = true := HU.out.symm
            show _ = _
            rw [← hall.out, HDR.out]
            show _ = (pfewB ps && _)
            rw [h5, Bool.true_and]
          clear hall
          go_wp2_with fail
          go_roundg (n - (k + 1))
          case measure => have := HK.out; omega
          case rel => exact ⟨k + 1, by have := HK.out; omega, rfl, rfl, HV2⟩
      · obtain rfl : k = n := by have := HK.out; omega
        have hkl : ¬ (k : Int) < (k : Int) := by omega
        have HF : Hid (true = v) := by
          show _ = _
          rw [← hall.out, List.drop_of_length_le (by have := HN.out; omega)]; rfl
        clear hall
        go_wp2_with fail
        go_ret
        exact ⟨ret_bool HF.out, rfl⟩
end Go.Proofs.YtdaahapbpnjkfaaGreat
