/-
  What the program's Decode comes to. Condition: the bytes are at most 2^42.
-/
import Derived.Test.YtooooppgdchjaaaEnc
import Derived.Test.YtooooppgdchjaaaGather
import Derived.Lib.SliceRun
namespace Go.Proofs.Ytooooppgdchjaaa
open Go.RowKit

theorem infoPiece : (Try.prog.info? 23).map (fun i => (i.zero, i.size, i.bytes)) = some (some (.slice none 0 0), 1, 24) := by kernel_rfl

/-! steps on the rest of the bytes -/
section
variable {b pt : List UInt8} {k : Nat} {L : List (List UInt8)}
theorem dec_step (h : k < b.length) (h0 : b[k] ≠ 0) : decL (b.drop k) pt L = decL (b.drop (k + 1)) (pt ++ [b[k]]) L := by
  rw [List.drop_eq_getElem_cons h, dec_byte _ _ _ h0]
theorem dec_last (h : k < b.length) (h0 : b[k] = 0) (hk : k + 1 = b.length) : decL (b.drop k) pt L = none := by
  rw [List.drop_eq_getElem_cons h, h0, List.drop_eq_nil_of_le (by omega)]
  rfl
theorem dec_pair (h : k + 1 < b.length) (h0 : b[k]'(by omega) = 0) : decL (b.drop k) pt L = if b[k + 1] = 255 then decL (b.drop (k + 2)) (pt ++ [0]) L else if b[k + 1] = 1 then decL (b.drop (k + 2)) [] (L ++ [pt]) else none := by
  rw [List.drop_eq_getElem_cons (show k < b.length by omega), h0, List.drop_eq_getElem_cons h, dec_two]
theorem dec_done : decL (b.drop b.length) pt L = if pt = [] then some L else none := by
  rw [List.drop_length, dec_end]
end

/-- the error of a key that is none -/
def errOf (D : Option (List (List UInt8))) : Int := if D.isSome then 0 else 3
/-- what Decode answers -/
def DecOut (w : World) (D : Option (List (List UInt8))) (e : Ending) (w' : World) : Prop :=
  ∃ (A : Option Addr) (ps : List Piece) (n c : Nat), e = .returned (.tuple #[.slice A n c, .int .i64 (errOf D)]) ∧ ps.length = n ∧ SeenAll w' A ps ∧ bytesOf ps = D.getD [] ∧ Below w.heap.size w w'
theorem DecOut.fail {w w' : World} {D : Option (List (List UInt8))} (h : D = none) (hb : Below w.heap.size w w') : DecOut w D (.returned (.tuple #[.slice none 0 0, .int .i64 3])) w' := by
  subst h
  exact ⟨none, [], 0, 0, rfl, rfl, .inl rfl, rfl, hb⟩

theorem clone_any (A : Option Addr) (l : List UInt8) (n c : Nat) (w : World) (hn : l.length = n) (hs : Seen w A l) (hl : n ≤ 140737488355328) :
    Calls Try.prog 24 #[.slice A n c] w fun e w' => ∃ A' c', e = .returned (.slice A' n c') ∧ Made 5 w l (.slice A' n c') w' := by
  obtain ⟨i0, hi, hz0, hz1, hz2⟩ := info_parts infoByte
  have q22 : ∀ (w : World) (a : Option Addr) (n c n' c' : Nat), (binOp .eql 23 (.slice a n c) (.slice none n' c')).run Try.prog w = .ok (.bool a.isNone) w := fun w a n c n' c' => Lib.run_eql_slice_nil w _ _ a n c n' c' Try.underlying23
  rcases A with _ | ad
  · obtain rfl : l = [] := by
      rcases hs with h | ⟨_, _, h, _⟩
      · exact h
      · cases h
    obtain rfl : n = 0 := hn.symm
    go_enter Try.func24, Try.ntmps24
    go_wp2_with fail
    go_ret
    exact ⟨none, 0, rfl, Made.nil _ _⟩
  · have HS := Lib.hid hs
    have HO : Made 5 w [] (.slice (some ⟨w.heap.size, 0, none⟩) 0 0) (w.alloc (.cells #[] 5)) :=
      ⟨World.ownsRow_made w #[] 0 (Nat.le_refl _) (Nat.zero_le _) rfl, (Below.refl _ _).alloc (Nat.le_refl _) _⟩
    clear hs
    subst hn
    go_enter Try.func24, Try.ntmps24
    go_wp2_with (at_builtin; refine wpList_append_bytes _ rfl _ _ 23 rfl 5 i0 (.int .u8 0) Try.underlying23 hi hz0 hz1 hz2 rfl w _ [] (some ad) l c rfl rfl HO ?a1 ?a2 ?_)
    case a1 => exact HS.out.below HO.2
    case a2 => simpa using hl
    intro v1 w1 HM _
    obtain ⟨A1, c1, rfl, _⟩ := HM.form
    have H1 : Hid (Made 5 w l (.slice A1 l.length c1) w1) := by show Made _ _ _ _ _; simpa using HM
    clear HM HO
    go_wp2_with fail
    go_ret
    exact ⟨A1, c1, rfl, H1.out⟩

/-- ahead of the byte k -/
def DR (w : World) (b : List UInt8) (D : Option (List (List UInt8))) (s p i : Value) (wr : World) : Prop :=
  ∃ (k : Nat) (ps : List Piece) (pt : List UInt8) (A : Option Addr) (n c : Nat) (B : Option Addr) (m d : Nat), k ≤ b.length ∧ i = .int .i64 k ∧ s = .slice A n c ∧ p = .slice B m d ∧ ps.length = n ∧ pt.length = m ∧ n ≤ k ∧ m ≤ k ∧
    decL (b.drop k) pt (bytesOf ps) = D ∧ DecAt 5 23 w ps pt (.slice A n c) (.slice B m d) wr
theorem bytesOf_more (ps : List Piece) (q : Piece) : bytesOf (ps ++ [q]) = bytesOf ps ++ [q.2.1] := by simp [bytesOf]
theorem byte_ne {y : UInt8} (h : y ≠ 0) : ((y.toNat : Int) != 0) = true := by
  have : y.toNat ≠ 0 := fun e => h (UInt8.toNat_inj.1 e)
  rw [bne_iff_ne]; omega
theorem byte_is {y c : UInt8} (n : Int) (hn : (c.toNat : Int) = n) (h : y = c) : ((y.toNat : Int) == n) = true := by
  subst h; rw [hn]; simp
theorem byte_not {y c : UInt8} (n : Int) (hn : (c.toNat : Int) = n) (h : y ≠ c) : ((y.toNat : Int) == n) = false := by
  rw [beq_eq_false_iff_ne, ← hn]
  intro e
  exact h (UInt8.toNat_inj.1 (by omega))

set_option maxRecDepth 100000 in
set_option maxHeartbeats 1000000 in
theorem decode_any (Ab : Option Addr) (b : List UInt8) (cb : Nat) (w : World) (hs : Seen w Ab b) (hb : b.length ≤ 4398046511104) :
    Calls Try.prog 12 #[.slice Ab b.length cb] w fun e w' => DecOut w (decL b [] []) e w' := by
  obtain ⟨i0, hi, hz0, hz1, hz2⟩ := info_parts infoByte
  obtain ⟨j0, gi, gz0, gz1, gz2⟩ := info_parts infoPiece
  have HS := Lib.hid hs
  obtain ⟨D, hD⟩ : ∃ D, D = decL b [] [] := ⟨_, rfl⟩
  rw [← hD]
  have HD := Lib.hid hD
  clear hs hD
  go_enter Try.func12, Try.ntmps12
  go_wp2_with fail
  go_loopw [4, 5, 6] (fun s p i wr => DR w b D s p i wr) (fun _ _ i _ => b.length - (intOf i).toNat)
  case atStart => exact ⟨0, [], [], none, 0, 0, none, 0, 0, by omega, rfl, rfl, rfl, rfl, rfl, by omega, by omega, by rw [HD.out]; rfl, DecAt.start _ _ _⟩
  case round =>
    clear HD
    obtain ⟨k, ps, pt, A, n, c, B, m, d, hk, rfl, rfl, rfl, hn, hm, hnk, hmk, hdec, hat⟩ := hrel
    have HN := Lib.hid hn
    have HM := Lib.hid hm
    have HDE := Lib.hid hdec
    have H := Lib.hid hat
    clear hn hm hdec hat
    by_cases hlt : k < b.length
    · obtain ⟨g, off, hA, hgw, hc⟩ := HS.out.at_ hlt
      subst hA
      have hc0 := (H.out.below.cell (p := ⟨g, off + k, none⟩) hgw).trans hc
      clear hc
      by_cases h0 : b[k] = 0
      · have t0 : (((b[k]).toNat : Int) != 0) = false := by rw [h0]; rfl
        by_cases hlast : k + 1 < b.length
        · obtain ⟨_, _, hA, _, hc⟩ := HS.out.at_ hlast
          injection hA with hA
          injection hA with hg hoff _
          subst hg hoff
          have hc1 := (H.out.below.cell (p := ⟨g, off + (k + 1), none⟩) hgw).trans hc
          clear hc
          have HP := Lib.hid (dec_pair (pt := pt) (L := bytesOf ps) hlast h0)
          rw [HDE.out] at HP
          obtain ⟨y, hy⟩ : ∃ y, y = b[k] := ⟨_, rfl⟩
          obtain ⟨z, hz⟩ : ∃ z, z = b[k + 1] := ⟨_, rfl⟩
          rw [← hy] at t0 hc0 h0
          rw [← hz] at HP hc1
          clear hy hz h0
          by_cases h255 : z = 255
          · have t1 : ((z.toNat : Int) == 255) = true := byte_is 255 rfl h255
            rw [if_pos h255] at HP
            clear h255
            go_wp2_with (at_builtin; refine wpList_append_part wr rfl (.tmp 39) (.tmp 40) 23 rfl 5 i0 (.int .u8 0) Try.underlying23 hi hz0 hz1 hz2 rfl 23 w ps pt _ B m d 0 0 rfl rfl H.out HM.out rfl (by omega) ?_)
            intro B2 d2 w2 H2
            have H2' := Lib.hid H2
            clear H2
            go_wp2_with fail
            go_roundw
            case rel => exact ⟨k + 2, ps, pt ++ [0], A, n, c, B2, m + 1, d2, by omega, by go_num, rfl, rfl, HN.out, by rw [List.length_append, HM.out]; rfl, by omega, by omega, HP.out.symm, H2'.out⟩
            case measure => simp [intOf]; omega
          · have t1 : ((z.toNat : Int) == 255) = false := byte_not 255 rfl h255
            rw [if_neg h255] at HP
            clear h255
            by_cases h1 : z = 1
            · have t2 : ((z.toNat : Int) == 1) = true := byte_is 1 rfl h1
              rw [if_pos h1] at HP
              clear h1
              go_wp2_with fail
              refine (clone_any B pt m d wr HM.out H.out.seen (by omega)).mono ?_
              rintro e w2 ⟨A2, c2, rfl, hm2⟩
              have F2 := Lib.hid (hm2.piece H.out (by rw [HM.out]; omega))
              have H2 := Lib.hid (H.out.lower hm2.2)
              have EQ : Hid (pv (A2, pt, c2) = .slice A2 m c2) := by show _ = _; rw [pv, HM.out]
              clear hm2 H
              go_wp2_with (at_builtin; refine wpList_append_piece w2 rfl (.tmp 54) (.tmp 57) 22 rfl 23 j0 (.slice none 0 0) Try.underlying22 gi gz0 gz1 gz2 rfl 5 w ps pt _ A n c (A2, pt, c2) A2 m c2 rfl rfl H2.out HN.out EQ.out F2.out (by omega) ?_)
              intro A3 c3 w3 H3
              have H3' := Lib.hid H3.none_of
              clear H3 H2 F2 EQ
              go_wp2_with fail
              go_roundw
              case rel => exact ⟨k + 2, ps ++ [(A2, pt, c2)], [], A3, n + 1, c3, B, 0, d, by omega, by go_num, rfl, rfl, by rw [List.length_append, HN.out]; rfl, rfl, by omega, by omega, by rw [bytesOf_more]; exact HP.out.symm, H3'.out⟩
              case measure => simp [intOf]; omega
            · have t2 : ((z.toNat : Int) == 1) = false := byte_not 1 rfl h1
              rw [if_neg h1] at HP
              clear h1
              go_wp2_with fail
              go_ret2
              exact DecOut.fail HP.out H.out.below
        · have HP := Lib.hid (dec_last (pt := pt) (L := bytesOf ps) hlt h0 (by omega))
          rw [HDE.out] at HP
          clear h0
          generalize b[k] = y at *
          go_wp2_with fail
          go_ret2
          exact DecOut.fail HP.out H.out.below
      · have t0 : (((b[k]).toNat : Int) != 0) = true := byte_ne h0
        have HP := Lib.hid (dec_step (pt := pt) (L := bytesOf ps) hlt h0)
        rw [HDE.out] at HP
        clear h0
        generalize b[k] = y at *
        have hy := y.toNat_lt
        go_wp2_with (at_builtin; refine wpList_append_part wr rfl (.tmp 18) (.tmp 23) 23 rfl 5 i0 (.int .u8 0) Try.underlying23 hi hz0 hz1 hz2 rfl 23 w ps pt _ B m d _ y rfl rfl H.out HM.out rfl (by omega) ?_)
        intro B2 d2 w2 H2
        have H2' := Lib.hid H2
        clear H2
        go_wp2_with fail
        go_roundw
        case rel => exact ⟨k + 1, ps, pt ++ [y], A, n, c, B2, m + 1, d2, by omega, by go_num, rfl, rfl, HN.out, by rw [List.length_append, HM.out]; rfl, by omega, by omega, HP.out.symm, H2'.out⟩
        case measure => simp [intOf]; omega
    · obtain rfl : k = b.length := by omega
      have HP := Lib.hid (dec_done (b := b) (pt := pt) (L := bytesOf ps))
      rw [HDE.out] at HP
      by_cases hm0 : m = 0
      · subst hm0
        have hp0 : pt = [] := List.eq_nil_of_length_eq_zero HM.out
        rw [if_pos hp0] at HP
        clear hp0
        go_wp2_with fail
        go_ret2
        exact ⟨A, ps, n, c, by rw [HP.out]; rfl, HN.out, H.out.shown, by rw [HP.out]; rfl, H.out.below⟩
      · have hp0 : pt ≠ [] := fun e => hm0 (by rw [← HM.out, e]; rfl)
        rw [if_neg hp0] at HP
        clear hp0
        have t3 : (0 : Int) < (m : Int) := by omega
        go_wp2_with fail
        go_ret2
        exact DecOut.fail HP.out H.out.below
end Go.Proofs.Ytooooppgdchjaaa
