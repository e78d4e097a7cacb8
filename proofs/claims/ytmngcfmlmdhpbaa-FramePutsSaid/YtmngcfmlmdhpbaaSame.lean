/-
  What the statements' own Same comes to. No conditions beyond how its arguments lie in memory.
-/
import Derived.Test.YtmngcfmlmdhpbaaLawL
namespace Go.Proofs.Ytmngcfmlmdhpbaa
open Go.RowKit

theorem same_drop {a b : List PPut} {k : Nat} (h1 : k < a.length) (h2 : k < b.length) : sameV (valsOf (a.drop k)) (valsOf (b.drop k)) = (decide (clearV (valOf a[k]) = clearV (valOf b[k])) && sameV (valsOf (a.drop (k + 1))) (valsOf (b.drop (k + 1)))) := by
  rw [List.drop_eq_getElem_cons h1, List.drop_eq_getElem_cons h2]
  unfold sameV valsOf
  simp only [List.map_cons]
  rw [Bool.eq_iff_iff]
  simp
theorem same_no {a b : List PPut} (h : a.length ≠ b.length) : sameV (valsOf a) (valsOf b) = false := by
  refine decide_eq_false (fun e => h ?_)
  have := congrArg List.length e
  simpa [valsOf] using this

set_option maxRecDepth 100000 in
set_option maxHeartbeats 4000000 in
theorem same_any (A B : Option Addr) (ps qs : List PPut) (n c m d : Nat) (w : World) (hn : ps.length = n) (hm : qs.length = m) (hn' : n ≤ 9223372036854775807) (hm' : m ≤ 9223372036854775807) (hs : PutsSeen w A ps) (hs' : PutsSeen w B qs) :
    Calls Try.prog 21 #[.slice A n c, .slice B m d] w fun e w' => e = .returned (.bool (sameV (valsOf ps) (valsOf qs))) ∧ Below w.heap.size w w' := by
  have HS := Lib.hid hs
  have HS' := Lib.hid hs'
  have HN := Lib.hid hn
  have HM := Lib.hid hm
  obtain ⟨v, hv⟩ : ∃ v, v = sameV (valsOf ps) (valsOf qs) := ⟨_, rfl⟩
  rw [← hv]
  by_cases hnm : n = m
  · subst hnm
    have HV : Hid (sameV (valsOf ps) (valsOf qs) = v) := hv.symm
    clear hs hs' hn hm hv hm'
    go_enter Try.func21, Try.ntmps21
    go_wp2_with fail
    go_loopw [5] (fun i wr => ∃ k : Nat, k ≤ n ∧ i = .int .i64 k ∧ Hid (sameV (valsOf (ps.drop k)) (valsOf (qs.drop k)) = v) ∧ Hid (Below w.heap.size w wr)) (fun i _ => n - (intOf i).toNat)
    case atStart => exact ⟨0, by omega, rfl, Lib.hid HV.out, Lib.hid (Below.refl _ _)⟩
    case round =>
      obtain ⟨k, hk, rfl, hall, BW⟩ := hrel
      by_cases hlt : k < n
      · have hk1 : k < ps.length := by rw [HN.out]; exact hlt
        have hk2 : k < qs.length := by rw [HM.out]; exact hlt
        obtain ⟨b, off, hA, hok, hat⟩ := HS.out.at_ k hk1
        obtain ⟨b', off', hB, hok', hat'⟩ := HS'.out.at_ k hk2
        subst hA hB
        obtain ⟨e0, e1, e2⟩ := hat wr BW.out
        obtain ⟨e0', e1', e2'⟩ := hat' wr BW.out
        have ED := Lib.hid (same_drop hk1 hk2)
        obtain ⟨q, hq⟩ : ∃ q, q = ps[k] := ⟨_, rfl⟩
        obtain ⟨q', hq'⟩ : ∃ q, q = qs[k] := ⟨_, rfl⟩
        rw [← hq] at hok ED e0 e1 e2
        rw [← hq'] at hok' ED e0' e1' e2'
        obtain ⟨⟨qA, x, qc⟩, ⟨vA, y, vc⟩, g⟩ := q
        obtain ⟨⟨qA', x', qc'⟩, ⟨vA', y', vc'⟩, g'⟩ := q'
        have hd : Below w.heap.size w wr.drew := BW.out.drew
        have U1 := text_on hok.1.1 x.length qc rfl wr.drew hd
        have U2 := text_on hok'.1.1 x'.length qc' rfl wr.drew hd
        have U3 := text_on hok.2.1 y.length vc rfl wr.drew hd
        have U4 := text_on hok'.2.1 y'.length vc' rfl wr.drew hd
        have hqx := text_beq x x'
        have hqy := text_beq y y'
        have ED' : Hid (sameV (valsOf (ps.drop k)) (valsOf (qs.drop k)) = (decide (clearV (x, y, g) = clearV (x', y', g')) && sameV (valsOf (ps.drop (k + 1))) (valsOf (qs.drop (k + 1))))) := ED.out
        simp only [pv] at e0 e1 e2 e0' e1' e2' U1 U2 U3 U4
        clear hat hat' hok hok' hq hq' ED hd
        by_cases hg : g = g'
        · subst hg
          by_cases hx : x = x'
          · cases g with
            | true =>
              have HF : Hid (sameV (valsOf (ps.drop (k + 1))) (valsOf (qs.drop (k + 1))) = v) := by
                show _ = _; rw [← hall.out, ED'.out, decide_eq_true (by simp [clearV, hx])]; simp
              rw [decide_eq_true hx] at hqx
              clear ED' hx hall U3 U4 hqy
              have hqx' : ((⟨x.toArray⟩ : ByteArray).toList != (⟨x'.toArray⟩ : ByteArray).toList) = false := by rw [bne, hqx]; rfl
              generalize (⟨x.toArray⟩ : ByteArray) = tx at *
              generalize (⟨x'.toArray⟩ : ByteArray) = tx' at *
              generalize x.length = xn at *
              generalize x'.length = xn' at *
              generalize y.length = yn at *
              generalize y'.length = yn' at *
              go_wp2_with fail
              go_region
              go_wp2_with fail
              go_roundw
              case rel => exact ⟨k + 1, by omega, by go_num, HF.out, BW.out.drew⟩
              case measure => simp [intOf]; omega
            | false =>
              rw [decide_eq_true hx] at hqx
              have hqx' : ((⟨x.toArray⟩ : ByteArray).toList != (⟨x'.toArray⟩ : ByteArray).toList) = false := by rw [bne, hqx]; rfl
              by_cases hy : y = y'
              · have HF : Hid (sameV (valsOf (ps.drop (k + 1))) (valsOf (qs.drop (k + 1))) = v) := by
                  show _ = _; rw [← hall.out, ED'.out, decide_eq_true (by rw [hx, hy])]; simp
                rw [decide_eq_true hy] at hqy
                have hqy' : ((⟨y.toArray⟩ : ByteArray).toList != (⟨y'.toArray⟩ : ByteArray).toList) = false := by rw [bne, hqy]; rfl
                clear ED' hx hy hall
                generalize (⟨x.toArray⟩ : ByteArray) = tx at *
                generalize (⟨x'.toArray⟩ : ByteArray) = tx' at *
                generalize (⟨y.toArray⟩ : ByteArray) = ty at *
                generalize (⟨y'.toArray⟩ : ByteArray) = ty' at *
                generalize x.length = xn at *
                generalize x'.length = xn' at *
                generalize y.length = yn at *
                generalize y'.length = yn' at *
                go_wp2_with fail
                go_region
                go_wp2_with fail
                go_roundw
                case rel => exact ⟨k + 1, by omega, by go_num, HF.out, BW.out.drew⟩
                case measure => simp [intOf]; omega
              · have HF : Hid (false = v) := by
                  show _ = _; rw [← hall.out, ED'.out, decide_eq_false (by simp [clearV, hy])]; simp
                rw [decide_eq_false hy] at hqy
                have hqy' : ((⟨y.toArray⟩ : ByteArray).toList != (⟨y'.toArray⟩ : ByteArray).toList) = true := by rw [bne, hqy]; rfl
                clear ED' hx hy hall
                generalize (⟨x.toArray⟩ : ByteArray) = tx at *
                generalize (⟨x'.toArray⟩ : ByteArray) = tx' at *
                generalize (⟨y.toArray⟩ : ByteArray) = ty at *
                generalize (⟨y'.toArray⟩ : ByteArray) = ty' at *
                generalize x.length = xn at *
                generalize x'.length = xn' at *
                generalize y.length = yn at *
                generalize y'.length = yn' at *
                go_wp2_with fail
                go_region
                go_wp2_with fail
                go_ret
                exact ⟨ret_bool HF.out, BW.out.drew⟩
          · have HF : Hid (false = v) := by
              show _ = _; rw [← hall.out, ED'.out, decide_eq_false (by cases g <;> simp [clearV, hx])]; simp
            rw [decide_eq_false hx] at hqx
            have hqx' : ((⟨x.toArray⟩ : ByteArray).toList != (⟨x'.toArray⟩ : ByteArray).toList) = true := by rw [bne, hqx]; rfl
            clear ED' hx hall U3 U4 hqy
            cases g with
            | true =>
              generalize (⟨x.toArray⟩ : ByteArray) = tx at *
              generalize (⟨x'.toArray⟩ : ByteArray) = tx' at *
              generalize x.length = xn at *
              generalize x'.length = xn' at *
              generalize y.length = yn at *
              generalize y'.length = yn' at *
              go_wp2_with fail
              go_region
              go_wp2_with fail
              go_ret
              exact ⟨ret_bool HF.out, BW.out.drew⟩
            | false =>
              generalize (⟨x.toArray⟩ : ByteArray) = tx at *
              generalize (⟨x'.toArray⟩ : ByteArray) = tx' at *
              generalize x.length = xn at *
              generalize x'.length = xn' at *
              generalize y.length = yn at *
              generalize y'.length = yn' at *
              go_wp2_with fail
              go_region
              go_wp2_with fail
              go_ret
              exact ⟨ret_bool HF.out, BW.out.drew⟩
        · have HF : Hid (false = v) := by
            show _ = _; rw [← hall.out, ED'.out, decide_eq_false (by cases g <;> cases g' <;> simp_all [clearV] <;> (intro _ _ e; cases e))]; simp
          clear ED' hall U1 U2 U3 U4 hqx hqy
          generalize x.length = xn at *
          generalize x'.length = xn' at *
          generalize y.length = yn at *
          generalize y'.length = yn' at *
          cases g with
          | true =>
            cases g' with
            | true => exact absurd rfl hg
            | false =>
              clear hg
              go_wp2_with fail
              go_region
              go_wp2_with fail
              go_ret
              exact ⟨ret_bool HF.out, BW.out.drew⟩
          | false =>
            cases g' with
            | false => exact absurd rfl hg
            | true =>
              clear hg
              go_wp2_with fail
              go_region
              go_wp2_with fail
              go_ret
              exact ⟨ret_bool HF.out, BW.out.drew⟩
      · have HF : Hid (true = v) := by
          have e : ps.drop k = [] := List.drop_eq_nil_of_le (by rw [HN.out]; omega)
          have e' : qs.drop k = [] := List.drop_eq_nil_of_le (by rw [HM.out]; omega)
          show _ = _
          rw [← hall.out, e, e']; rfl
        have HB := Lib.hid BW.out
        clear hall
        go_wp2_with fail
        go_ret
        exact ⟨ret_bool HF.out, HB.out⟩
  · have HV : Hid (false = v) := by show _ = _; rw [hv, same_no (by omega)]
    clear hs hs' hn hm hv
    have t0 : ((n : Int) != (m : Int)) = true := by rw [bne_iff_ne]; omega
    clear hnm
    go_enter Try.func21, Try.ntmps21
    go_wp2_with fail
    go_ret
    exact ⟨ret_bool HV.out, Below.refl _ _⟩
end Go.Proofs.Ytmngcfmlmdhpbaa
