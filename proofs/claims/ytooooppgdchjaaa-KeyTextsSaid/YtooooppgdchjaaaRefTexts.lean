/-
  What the document's Texts comes to. Conditions: at most 2^40 texts; the key is at most 2^47 bytes.
-/
import Derived.Test.YtooooppgdchjaaaTexts
namespace Go.Proofs.Ytooooppgdchjaaa
open Go.RowKit

/-- ahead of the text k, the document's -/
def RT (w : World) (ts : List (List UInt8)) (s i : Value) (wr : World) : Prop :=
  ∃ (k : Nat) (ps : List Piece) (A : Option Addr) (c : Nat), k ≤ ts.length ∧ i = .int .i64 k ∧ s = .slice A k c ∧ ps.length = k ∧ bytesOf ps = ts.take k ∧ DecAt 5 23 w ps [] (.slice A k c) (.slice none 0 0) wr

set_option maxRecDepth 100000 in
set_option maxHeartbeats 1000000 in
theorem refTexts_any (A : Option Addr) (ts : List (List UInt8)) (c : Nat) (w : World) (hs : SeenT w A ts) (hn : ts.length ≤ 1099511627776) (hb : (encL ts).length ≤ 140737488355328) :
    Calls Try.prog 18 #[.slice A ts.length c] w fun e w' => ∃ A' n' c', e = .returned (.slice A' n' c') ∧ (encL ts).length = n' ∧ Seen w' A' (encL ts) ∧ Below w.heap.size w w' := by
  obtain ⟨j0, gi, gz0, gz1, gz2⟩ := info_parts infoPart
  have HS := Lib.hid hs
  have HB := Lib.hid hb
  clear hs hb
  go_enter Try.func18, Try.ntmps18
  go_wp2_with fail
  go_loopw [3, 4] (fun s i wr => RT w ts s i wr) (fun _ i _ => ts.length - (intOf i).toNat)
  case atStart => exact ⟨0, [], none, 0, by omega, rfl, rfl, rfl, rfl, DecAt.start _ _ _⟩
  case round =>
    obtain ⟨k, ps, A1, c1, hk, rfl, rfl, hps, hbo, hat⟩ := hrel
    have HP := Lib.hid hps
    have HO := Lib.hid hbo
    have H := Lib.hid hat
    clear hps hbo hat
    by_cases hlt : k < ts.length
    · obtain ⟨b, off, hA, hbw, hc, hmax⟩ := HS.out.at_ k hlt
      subst hA
      have hc' := (H.out.below.cell (p := ⟨b, off + k, none⟩) hbw).trans hc
      have HT : Hid (∀ q : Piece, q.2.1 = ts[k] → bytesOf (ps ++ [q]) = ts.take (k + 1)) := fun q hq => tx_take HO.out hlt q hq
      clear hc
      obtain ⟨l, hl⟩ : ∃ l, l = ts[k] := ⟨_, rfl⟩
      rw [← hl] at hc' hmax HT
      clear hl
      obtain ⟨cc, w2, hrun, hs2, hcc, hb2, hz2⟩ := bytes_of_text wr l
      have H2 := Lib.hid (H.out.lower hb2)
      have hll := H.out.list
      obtain ⟨g2, hg2⟩ : ∃ g2, g2 = wr.heap.size := ⟨_, rfl⟩
      rw [← hg2] at hrun hs2
      have HQ : Hid (Free w2 (Value.ownBlock (.slice A1 k c1)) (Value.ownBlock (.slice none 0 0)) (some ⟨g2, 0, none⟩, l, cc)) := by
        refine ⟨?_, hcc, by show l.length ≤ _; omega⟩
        rcases hs2 with h0 | ⟨b', off', hA, hb', hc'⟩
        · exact .inl h0
        · injection hA with hA
          injection hA with e1 e2 _
          subst e1 e2
          refine .inr ⟨g2, 0, rfl, hb', ?_, (by simp [Value.ownBlock]), hc'⟩
          intro e
          have := (hll.lt g2 e.symm).2
          omega
      clear hs2 hb2 H hg2 hz2 hll
      generalize (⟨l.toArray⟩ : ByteArray) = tl at *
      go_wp2_with (at_builtin; refine wpList_append_piece w2 rfl (.tmp 11) (.tmp 17) 22 rfl 23 j0 (.slice none 0 0) Try.underlying22 gi gz0 gz1 gz2 rfl 5 w ps [] (.slice none 0 0) A1 k c1 (some ⟨g2, 0, none⟩, l, cc) (some ⟨g2, 0, none⟩) l.length cc rfl rfl H2.out HP.out rfl HQ.out (by omega) ?_)
      intro A3 c3 w3 H3
      have H3' := Lib.hid H3
      clear H3 H2 HQ
      go_wp2_with fail
      go_roundw
      case rel => exact ⟨k + 1, ps ++ [(some ⟨g2, 0, none⟩, l, cc)], A3, c3, by omega, by go_num, rfl, by rw [List.length_append, HP.out]; rfl, HT.out _ rfl, H3'.out⟩
      case measure => simp [intOf]; omega
    · obtain rfl : k = ts.length := by omega
      have hall : bytesOf ps = ts := by rw [HO.out, List.take_length]
      have HA := Lib.hid hall
      have HC : Hid (Calls Try.prog 16 #[.slice A1 ts.length c1] wr fun e w' => ∃ A' n' c', e = .returned (.slice A' n' c') ∧ MadeN 5 wr (encL ts) A' n' c' w') := by
        have h := refEncode_any A1 ps c1 wr H.out.shown (by rw [HP.out]; omega) (by rw [HA.out]; exact HB.out)
        rw [HP.out, HA.out] at h
        exact h
      have BW := Lib.hid H.out.below
      clear hall H
      go_wp2_with fail
      refine HC.out.mono ?_
      rintro e w3 ⟨A3, n3, c3, rfl, hm3⟩
      have H3 := Lib.hid hm3
      clear hm3
      go_wp2_with fail
      go_ret
      exact ⟨A3, n3, c3, rfl, H3.out.1, H3.out.2.at_len.2, hop BW.out H3.out.2.2⟩
end Go.Proofs.Ytooooppgdchjaaa
