/-
  What the statements' own helpers come to: frames, Few, Same. No conditions beyond how their arguments lie in memory.
-/
import Derived.Test.YtmngcfmlmdhpbaaFEncode
import Derived.Test.YtmngcfmlmdhpbaaPuts
namespace Go.Proofs.Ytmngcfmlmdhpbaa
open Go.RowKit

set_option maxHeartbeats 400000 in
theorem frames_same (g s : Int) (A B : Option Addr) (d : List UInt8) (n c m k : Nat) (w : World) (hn : d.length = n) (hm : d.length = m) (ha : Seen w A d) (hb : Seen w B d) :
    Calls Try.prog 16 #[.agg #[.int .i64 g, .int .i64 s, .slice A n c], .agg #[.int .i64 g, .int .i64 s, .slice B m k]] w fun e w' => e = .returned (.bool true) ∧ Below w.heap.size w w' := by
  have HB : Hid (Below w.heap.size w ((w.alloc (.cells #[.int .i64 g, .int .i64 s, .slice A n c] 24)).alloc (.cells #[.int .i64 g, .int .i64 s, .slice B m k] 24))) := ((Below.refl _ _).alloc (Nat.le_refl _) _).alloc (by simp) _
  have ua := text_on ha n c hn _ HB.out
  have ub := text_on hb m k hm _ HB.out
  have hg : (g == g) = true := by simp
  have hs : (s == s) = true := by simp
  clear ha hb hn hm
  generalize (⟨d.toArray⟩ : ByteArray) = T at *
  go_enter Try.func16, Try.ntmps16
  go_wp2_with fail
  go_ret
  exact ⟨ret_bool (by simp), HB.out⟩

def fewOne (q : PPut) : Bool := decide (q.1.2.1.length ≤ 500) && decide (q.2.1.2.1.length ≤ 500)
def fewB (ps : List PPut) : Bool := decide (ps.length ≤ 60) && ps.all fewOne
theorem fewB_true {ps : List PPut} (h : fewB ps = true) : ps.length ≤ 60 ∧ ∀ q ∈ ps, q.1.2.1.length ≤ 500 ∧ q.2.1.2.1.length ≤ 500 := by
  unfold fewB at h
  rw [Bool.and_eq_true, decide_eq_true_eq, List.all_eq_true] at h
  refine ⟨h.1, fun q hq => ?_⟩
  have := h.2 q hq
  unfold fewOne at this
  rw [Bool.and_eq_true, decide_eq_true_eq, decide_eq_true_eq] at this
  exact this

set_option maxRecDepth 100000 in
set_option maxHeartbeats 1000000 in
theorem few_any (A : Option Addr) (ps : List PPut) (L c : Nat) (w : World) (hL : ps.length = L) (hn : L ≤ 9223372036854775807) (hs : PutsSeen w A ps) :
    Calls Try.prog 18 #[.slice A L c] w fun e w' => e = .returned (.bool (fewB ps)) ∧ w = w' := by
  have HS := Lib.hid hs
  have HL := Lib.hid hL
  obtain ⟨v, hv⟩ : ∃ v, v = fewB ps := ⟨_, rfl⟩
  rw [← hv]
  by_cases h60 : 60 < L
  · have HV : Hid (false = v) := by show _ = _; rw [hv, fewB, decide_eq_false (by omega)]; rfl
    clear hs hL hv
    go_enter Try.func18, Try.ntmps18
    go_wp2_with fail
    go_ret
    exact ⟨ret_bool HV.out, rfl⟩
  · have HV : Hid (ps.all fewOne = v) := by show _ = _; rw [hv, fewB, decide_eq_true (by omega)]; rfl
    clear hs hL hv
    go_enter Try.func18, Try.ntmps18
    go_wp2_with fail
    go_loop [3] (fun i => ∃ k : Nat, k ≤ L ∧ i = .int .i64 k ∧ Hid ((ps.drop k).all fewOne = v)) (fun i => L - (intOf i).toNat)
    case atStart => exact ⟨0, by omega, rfl, HV.out⟩
    case round =>
      obtain ⟨k, hk, rfl, hall⟩ := hrel
      by_cases hlt : k < L
      · have hk' : k < ps.length := by rw [HL.out]; exact hlt
        obtain ⟨b, off, hA, hok, hat⟩ := HS.out.at_ k hk'
        subst hA
        obtain ⟨e0, e1, e2⟩ := hat w (Below.refl _ _)
        have HN : Hid ((ps.drop k).all fewOne = (fewOne ps[k] && (ps.drop (k + 1)).all fewOne)) := by show _ = _; rw [List.drop_eq_getElem_cons hk', List.all_cons]
        obtain ⟨q, hq⟩ : ∃ q, q = ps[k] := ⟨_, rfl⟩
        rw [← hq] at hok HN e0 e1 e2
        obtain ⟨⟨qA, ql, qc⟩, ⟨vA, vl, vc⟩, g⟩ := q
        have hl1 : ql.length ≤ 9223372036854775807 := hok.1.2
        have hl2 : vl.length ≤ 9223372036854775807 := hok.2.2
        simp only [pv] at e0 e1
        have HN' : Hid ((ps.drop k).all fewOne = (decide (ql.length ≤ 500) && decide (vl.length ≤ 500) && (ps.drop (k + 1)).all fewOne)) := HN.out
        clear hat hok hq HN e2
        by_cases h1 : 500 < ql.length
        · have HF : Hid (false = v) := by show _ = _; rw [← hall.out, HN'.out, decide_eq_false (by omega)]; simp
          clear HN'
          generalize ql.length = qn at *
          generalize vl.length = vn at *
          go_wp2_with fail
          go_ret
          exact ⟨ret_bool HF.out, rfl⟩
        · by_cases h2 : 500 < vl.length
          · have HF : Hid (false = v) := by show _ = _; rw [← hall.out, HN'.out, decide_eq_false (p := vl.length ≤ 500) (by omega)]; simp
            clear HN'
            generalize ql.length = qn at *
            generalize vl.length = vn at *
            go_wp2_with fail
            go_ret
            exact ⟨ret_bool HF.out, rfl⟩
          · have HF : Hid ((ps.drop (k + 1)).all fewOne = v) := by show _ = _; rw [← hall.out, HN'.out, decide_eq_true (by omega), decide_eq_true (by omega)]; simp
            clear HN'
            generalize ql.length = qn at *
            generalize vl.length = vn at *
            go_wp2_with fail
            go_round
            case rel => exact ⟨k + 1, by omega, by go_num, HF.out⟩
            case measure => simp [intOf]; omega
      · have HF : Hid (true = v) := by
          have e : ps.drop k = [] := List.drop_eq_nil_of_le (by rw [HL.out]; omega)
          show _ = _
          rw [← hall.out, e]; rfl
        clear hall
        go_wp2_with fail
        go_ret
        exact ⟨ret_bool HF.out, rfl⟩
end Go.Proofs.Ytmngcfmlmdhpbaa
