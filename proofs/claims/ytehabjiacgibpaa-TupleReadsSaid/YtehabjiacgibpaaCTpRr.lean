/-
  What the document's Decode comes to. Condition: the bytes are at most 2^42.
  What the document's read comes to: the seven parts behind the first of a key. Condition: the key is of at most 1,000,000 bytes.
-/
import Derived.Test.YtehabjiacgibpaaCText
import Derived.Test.YtehabjiacgibpaaCTpX
import Derived.Test.YtehabjiacgibpaaCRowT
namespace Go.Proofs.Ytehabjiacgibpaa
open Go.RowKit
def DRR (w : World) (b : List UInt8) (D : Option (List (List UInt8))) (s p o i : Value) (wr : World) : Prop :=
  ∃ (k : Nat) (ps : List Piece) (pt : List UInt8) (A : Option Addr) (n c : Nat) (B : Option Addr) (m d : Nat), k ≤ b.length ∧ i = .int .i64 k ∧ s = .slice A n c ∧ p = .slice B m d ∧ o = .bool (decide (0 < m)) ∧ ps.length = n ∧ pt.length = m ∧ n ≤ k ∧ m ≤ k ∧
    decL (b.drop k) pt (bytesOf ps) = D ∧ DecAt 5 36 w ps pt (.slice A n c) (.slice B m d) wr
set_option maxRecDepth 100000 in
set_option maxHeartbeats 1000000 in
theorem refDecode_any (Ab : Option Addr) (b : List UInt8) (cb : Nat) (w : World) (hs : Seen w Ab b) (hb : b.length ≤ 4398046511104) :
    Calls Try.prog 58 #[.slice Ab b.length cb] w fun e w' => DecOut w (decL b [] []) e w' := by
  obtain ⟨i0, hi, hz0, hz1, hz2⟩ := info_parts infoByte
  obtain ⟨j0, gi, gz0, gz1, gz2⟩ := info_parts infoPiece
  have HS := Lib.hid hs
  obtain ⟨D, hD⟩ : ∃ D, D = decL b [] [] := ⟨_, rfl⟩
  rw [← hD]
  have HD := Lib.hid hD
  clear hs hD
  go_enter Try.func58, Try.ntmps58
  go_wp2_with fail
  go_loopw [4, 5, 6, 7] (fun s p o i wr => DRR w b D s p o i wr) (fun _ _ _ i _ => b.length - (intOf i).toNat)
  case atStart => exact ⟨0, [], [], none, 0, 0, none, 0, 0, by omega, rfl, rfl, rfl, rfl, rfl, rfl, by omega, by omega, by rw [HD.out]; rfl, DecAt.start _ _ _⟩
  case round =>
    clear HD
    obtain ⟨k, ps, pt, A, n, c, B, m, d, hk, rfl, rfl, rfl, rfl, hn, hm, hnk, hmk, hdec, hat⟩ := hrel
    have HN := Lib.hid hn
    have HM := Lib.hid hm
    have HDE := Lib.hid hdec
    have H := Lib.hid hat
    clear hn hm hdec hat
    by_cases hlt : k < b.length
    · obtain ⟨g, off, hA, hgw, hc⟩ := HS.out.at_ hlt
      subst hA
      have hc0 := (H.out.below.cell (p := ⟨g, off + k, none⟩) hgw).trans hc
      clear hc
      by_cases h0 : b[k] = 0
      · have t0 : (((b[k]).toNat : Int) != 0) = false := by rw [h0]; rfl
        by_cases hlast : k + 1 < b.length
        · obtain ⟨_, _, hA, _, hc⟩ := HS.out.at_ hlast
          injection hA with hA
          injection hA with hg hoff _
          subst hg hoff
          have hc1 := (H.out.below.cell (p := ⟨g, off + (k + 1), none⟩) hgw).trans hc
          clear hc
          have HP := Lib.hid (dec_pair (pt := pt) (L := bytesOf ps) hlast h0)
          rw [HDE.out] at HP
          obtain ⟨y, hy⟩ : ∃ y, y = b[k] := ⟨_, rfl⟩
          obtain ⟨z, hz⟩ : ∃ z, z = b[k + 1] := ⟨_, rfl⟩
          rw [← hy] at t0 hc0 h0
          rw [← hz] at HP hc1
          clear hy hz h0
          by_cases h255 : z = 255
          · have t1 : ((z.toNat : Int) == 255) = true := byte_is 255 rfl h255
            have t2 : ((z.toNat : Int) != 255) = false := by rw [bne, t1]; rfl
            have t3 : ((z.toNat : Int) != 1) = true := by rw [h255]; rfl
            rw [if_pos h255] at HP
            clear h255
            go_wp2_with (at_builtin; refine wpList_append_part wr rfl (.tmp 51) (.tmp 52) 36 rfl 5 i0 (.int .u8 0) Try.underlying36 hi hz0 hz1 hz2 rfl 36 w ps pt _ B m d 0 0 rfl rfl H.out HM.out rfl (by omega) ?_)
            intro B2 d2 w2 H2
            have H2' := Lib.hid H2
            clear H2
            go_wp2_with fail
            go_roundw
            case rel => exact ⟨k + 2, ps, pt ++ [0], A, n, c, B2, m + 1, d2, by omega, by go_num, rfl, rfl, by simp, HN.out, by rw [List.length_append, HM.out]; rfl, by omega, by omega, HP.out.symm, H2'.out⟩
            case measure => simp [intOf]; omega
          · have t1 : ((z.toNat : Int) == 255) = false := byte_not 255 rfl h255
            have t4 : ((z.toNat : Int) != 255) = true := by rw [bne, t1]; rfl
            rw [if_neg h255] at HP
            clear h255
            by_cases h1 : z = 1
            · have t2 : ((z.toNat : Int) != 1) = false := by rw [bne, byte_is 1 rfl h1]; rfl
              rw [if_pos h1] at HP
              clear h1
              have F2 := Lib.hid (H.out.piece (by rw [HM.out]; omega))
              have H2 := Lib.hid H.out.drop
              have EQ : Hid (pv (B, pt, d) = .slice B m d) := by show _ = _; rw [pv, HM.out]
              clear H
              go_wp2_with (at_builtin; refine wpList_append_piece wr rfl (.tmp 54) (.tmp 56) 101 rfl 36 j0 (.slice none 0 0) Try.underlying101 gi gz0 gz1 gz2 rfl 5 w ps [] (.slice none 0 0) A n c (B, pt, d) B m d rfl rfl H2.out HN.out EQ.out F2.out (by omega) ?_)
              intro A3 c3 w3 H3
              have H3' := Lib.hid H3
              clear H3 H2 F2 EQ
              go_wp2_with fail
              go_roundw
              case rel => exact ⟨k + 2, ps ++ [(B, pt, d)], [], A3, n + 1, c3, none, 0, 0, by omega, by go_num, rfl, rfl, rfl, by rw [List.length_append, HN.out]; rfl, rfl, by omega, by omega, by rw [bytesOf_more]; exact HP.out.symm, H3'.out⟩
              case measure => simp [intOf]; omega
            · have t2 : ((z.toNat : Int) != 1) = true := by rw [bne, byte_not 1 rfl h1]; rfl
              rw [if_neg h1] at HP
              clear h1
              go_wp2_with fail
              go_ret2
              exact DecOut.fail HP.out H.out.below
        · have HP := Lib.hid (dec_last (pt := pt) (L := bytesOf ps) hlt h0 (by omega))
          rw [HDE.out] at HP
          clear h0
          generalize b[k] = y at *
          go_wp2_with fail
          go_ret2
          exact DecOut.fail HP.out H.out.below
      · have t0 : (((b[k]).toNat : Int) != 0) = true := byte_ne h0
        have HP := Lib.hid (dec_step (pt := pt) (L := bytesOf ps) hlt h0)
        rw [HDE.out] at HP
        clear h0
        generalize b[k] = y at *
        have hy := y.toNat_lt
        go_wp2_with (at_builtin; refine wpList_append_part wr rfl (.tmp 19) (.tmp 24) 36 rfl 5 i0 (.int .u8 0) Try.underlying36 hi hz0 hz1 hz2 rfl 36 w ps pt _ B m d _ y rfl rfl H.out HM.out rfl (by omega) ?_)
        intro B2 d2 w2 H2
        have H2' := Lib.hid H2
        clear H2
        go_wp2_with fail
        go_roundw
        case rel => exact ⟨k + 1, ps, pt ++ [y], A, n, c, B2, m + 1, d2, by omega, by go_num, rfl, rfl, by simp, HN.out, by rw [List.length_append, HM.out]; rfl, by omega, by omega, HP.out.symm, H2'.out⟩
        case measure => simp [intOf]; omega
    · obtain rfl : k = b.length := by omega
      have HP := Lib.hid (dec_done (b := b) (pt := pt) (L := bytesOf ps))
      rw [HDE.out] at HP
      by_cases hm0 : m = 0
      · subst hm0
        have hp0 : pt = [] := List.eq_nil_of_length_eq_zero HM.out
        rw [if_pos hp0] at HP
        clear hp0
        go_wp2_with fail
        go_ret2
        exact ⟨A, ps, n, c, by rw [HP.out]; rfl, HN.out, H.out.shown, by rw [HP.out]; rfl, H.out.below⟩
      · have hp0 : pt ≠ [] := fun e => hm0 (by rw [← HM.out, e]; rfl)
        rw [if_neg hp0] at HP
        clear hp0
        have t3 : decide (0 < m) = true := by simp; omega
        go_wp2_with fail
        go_ret2
        exact DecOut.fail HP.out H.out.below
end Go.Proofs.Ytehabjiacgibpaa
namespace Go.Proofs.Ytehabjiacgibpaa
open Go.RowKit
def sevenO (fs : Txt) (b : List UInt8) : Option (List Txt) :=
  match decL b [] [] with
  | some [f, tn, p0, p1, p2, p3, p4, p5] => if f = fs then some [tn, p0, p1, p2, p3, p4, p5] else none
  | _ => none
theorem sevenO_none {fs : Txt} {b : List UInt8} (h : decL b [] [] = none) : sevenO fs b = none := by unfold sevenO; rw [h]
theorem sevenO_len {fs : Txt} {b : List UInt8} {L : List Txt} (h : decL b [] [] = some L) (hn : L.length ≠ 8) : sevenO fs b = none := by
  unfold sevenO
  rw [h]
  match L, hn with
  | [], _ => rfl
  | [_], _ => rfl
  | [_, _], _ => rfl
  | [_, _, _], _ => rfl
  | [_, _, _, _], _ => rfl
  | [_, _, _, _, _], _ => rfl
  | [_, _, _, _, _, _], _ => rfl
  | [_, _, _, _, _, _, _], _ => rfl
  | [_, _, _, _, _, _, _, _], hn => exact absurd rfl hn
  | _ :: _ :: _ :: _ :: _ :: _ :: _ :: _ :: _ :: _, _ => rfl
theorem readO_seven (fs : Txt) (mk : Txt → Txt → Txt → Txt → Txt → Txt → Tup) (b : List UInt8) : readO fs mk b = match sevenO fs b with
    | some [tn, p0, p1, p2, p3, p4, p5] => if showT (mk p0 p1 p2 p3 p4 p5) ≠ [] then some (tn, mk p0 p1 p2 p3 p4 p5) else none
    | _ => none := by
  unfold readO sevenO
  cases h : decL b [] [] with
  | none => rfl
  | some L =>
    by_cases h8 : L.length = 8
    · obtain ⟨f, tn, p0, p1, p2, p3, p4, p5, rfl⟩ := eight h8
      dsimp only
      by_cases hf : f = fs
      · rw [if_pos hf]
        dsimp only
        by_cases hs : showT (mk p0 p1 p2 p3 p4 p5) ≠ []
        · rw [if_pos ⟨hf, hs⟩, if_pos hs]
        · rw [if_neg (fun k => hs k.2), if_neg hs]
      · rw [if_neg (fun k => hf k.1), if_neg hf]
    · have h1 := readO_len (fs := fs) (mk := mk) h h8
      have h2 := sevenO_len (fs := fs) h h8
      unfold readO at h1
      unfold sevenO at h2
      rw [h] at h1 h2
      rw [h1, h2]
def TxRow (base : Nat) (w : World) (A : Option Addr) (L : List Txt) : Prop := ∃ g off, A = some ⟨g, off, none⟩ ∧ (base ≤ g ∧ g < w.heap.size) ∧ ∀ j (h : j < L.length), w.cell? ⟨g, off + j, none⟩ = some (strV L[j])
theorem rowCTxt : ∃ i z, RowT Try.prog 72 9 1 16 i z := by
  have hf : (Try.prog.info? 9).map (fun i => (i.zero, i.size, i.bytes)) = some (some (.string ⟨#[]⟩), 1, 16) := by kernel_rfl
  obtain ⟨i, hi, he⟩ := Option.map_eq_some_iff.1 hf
  injection he with h1 h2
  injection h2 with h2 h3
  exact ⟨i, .string ⟨#[]⟩, Try.underlying72, hi, h1, h2, h3, rfl⟩
def SevenP (W : World) (O : Option (List Txt)) (e : Ending) (w' : World) : Prop := ∃ (A : Option Addr) (n c : Nat), e = .returned (.tuple #[.slice A n c, .bool O.isSome]) ∧ (∀ L, O = some L → n = 7 ∧ L.length = 7 ∧ TxRow W.heap.size w' A L) ∧ Below W.heap.size W w'
theorem part_old {w : World} {B : Option Addr} {ps : List Piece} {L : List Txt} (h : SeenAll w B ps) (hb : bytesOf ps = L) (hne : L ≠ []) :
    ∃ b off, B = some ⟨b, off, none⟩ ∧ b < w.heap.size ∧ ∀ j (hj : j < L.length), ∃ A' c', ∀ w', Below w.heap.size w w' → w'.cell? ⟨b, off + j, none⟩ = some (.slice A' L[j].length c') ∧ (convert 36 9 (.slice A' L[j].length c')).run Try.prog w' = .ok (strV L[j]) w' := by
  subst hb
  rcases h with rfl | ⟨b, off, rfl, hlt, hc⟩
  · exact absurd rfl hne
  refine ⟨b, off, rfl, hlt, fun j hj => ?_⟩
  rw [length_bytesOf] at hj
  obtain ⟨h1, h2, _, _⟩ := hc j hj
  have e : (bytesOf ps)[j]'(by rw [length_bytesOf]; exact hj) = ps[j].2.1 := by simp [bytesOf]
  rw [e]
  exact ⟨ps[j].1, ps[j].2.2, fun w' hw => ⟨(hw.cell (p := ⟨b, off + j, none⟩) hlt).trans h1, text_on (h2.below hw) _ _ rfl w' (Below.refl _ _)⟩⟩
set_option maxRecDepth 100000 in
set_option maxHeartbeats 4000000 in
theorem refRead_any (fs : Txt) (b : List UInt8) (A : Option Addr) (c : Nat) (W : World) (hs : Seen W A b) (hb : b.length ≤ 1000000) :
    Calls Try.prog 36 #[.slice A b.length c, strV fs] W (SevenP W (sevenO fs b)) := by
  unfold SevenP
  obtain ⟨i0, z0, RT⟩ := rowCTxt
  obtain ⟨O, hO⟩ : ∃ O, O = sevenO fs b := ⟨_, rfl⟩
  rw [← hO]
  have HD := Lib.hid (refDecode_any A b c W hs (by omega))
  unfold DecOut at HD
  have HON := Lib.hid (fun h : decL b [] [] = none => hO.trans (sevenO_none h))
  have HOL := Lib.hid (fun L (h : decL b [] [] = some L) (hn : L.length ≠ 8) => hO.trans (sevenO_len h hn))
  have HO8 : Hid (∀ f tn p0 p1 p2 p3 p4 p5, decL b [] [] = some [f, tn, p0, p1, p2, p3, p4, p5] → O = if f = fs then some [tn, p0, p1, p2, p3, p4, p5] else none) := Lib.hid (fun f tn p0 p1 p2 p3 p4 p5 h => by rw [hO]; unfold sevenO; rw [h])
  have HRT := Lib.hid RT
  generalize decL b [] [] = D at *
  clear hO hs RT
  cases D with
  | none =>
    have HO2 := Lib.hid (HON.out rfl)
    clear HON HOL HO8
    go_enter Try.func36, Try.ntmps36
    go_wp2_with (go_at_call 58; refine HD.out.mono ?_; rintro e w2 ⟨B, ps, n, d, rfl, hn, _, _, hb2⟩; have HB2 := Lib.hid hb2; have he : errOf none = 3 := rfl; clear hb2 hn)
    go_ret2
    exact ⟨none, 0, 0, by rw [HO2.out]; rfl, (fun L h => by rw [HO2.out] at h; cases h), HB2.out⟩
  | some L =>
    clear HON
    by_cases h8 : L.length = 8
    case neg =>
      have HO2 := Lib.hid (HOL.out L rfl h8)
      have HN8 := Lib.hid h8
      clear HOL HO8 h8
      go_enter Try.func36, Try.ntmps36
      go_wp2_with (go_at_call 58; refine HD.out.mono ?_; rintro e w2 ⟨B, ps, n, d, rfl, hn, _, hby, hb2⟩; have HB2 := Lib.hid hb2; have he : errOf (some L) = 0 := rfl; have hne : ¬ ((n : Int) = 8) := (by intro h; apply HN8.out; have := congrArg List.length hby; rw [length_bytesOf] at this; simp at this; omega); clear hb2 hn hby)
      go_ret2
      exact ⟨none, 0, 0, by rw [HO2.out]; rfl, (fun L h => by rw [HO2.out] at h; cases h), HB2.out⟩
    case pos =>
      obtain ⟨f, tn, p0, p1, p2, p3, p4, p5, rfl⟩ := eight h8
      have HOX := Lib.hid (HO8.out f tn p0 p1 p2 p3 p4 p5 rfl)
      clear HOL HO8 h8
      have HDC : Hid (Calls Try.prog 58 #[.slice A b.length c] W fun e w2 => ∃ (bb off d : Nat), e = .returned (.tuple #[.slice (some ⟨bb, off, none⟩) 8 d, .int .i64 0]) ∧ Hid (Below W.heap.size W w2) ∧ Hid (∀ j (hj : j < [f, tn, p0, p1, p2, p3, p4, p5].length), ∃ A' c', ∀ w', Below w2.heap.size w2 w' → w'.cell? ⟨bb, off + j, none⟩ = some (.slice A' [f, tn, p0, p1, p2, p3, p4, p5][j].length c') ∧ (convert 36 9 (.slice A' [f, tn, p0, p1, p2, p3, p4, p5][j].length c')).run Try.prog w' = .ok (strV [f, tn, p0, p1, p2, p3, p4, p5][j]) w')) := Lib.hid (HD.out.mono (by
        rintro e w2 ⟨B, ps, n, d, rfl, hn, hse, hby, hb2⟩
        obtain ⟨bb, off, rfl, h3, h4⟩ := part_old hse hby (by simp)
        have hn8 : n = 8 := by rw [← hn, ← length_bytesOf, hby]; rfl
        subst hn8
        exact ⟨bb, off, d, rfl, hb2, h4⟩))
      clear HD
      by_cases hf : f = fs
      case neg =>
        have HO2 : Hid (O = none) := Lib.hid (by rw [HOX.out, if_neg hf])
        have hf2 : (f == fs) = false := beq_eq_false_iff_ne.2 hf
        clear HOX
        go_enter Try.func36, Try.ntmps36
        go_wp2_with (go_at_call 58; refine HDC.out.mono ?_; rintro e w2 ⟨bb, off, d, rfl, hb2, hpt⟩; obtain ⟨A0, c0, h0⟩ := hpt.out 0 (by simp); obtain ⟨y0, x0⟩ := h0 w2 (Below.refl _ _); simp only [List.getElem_cons_zero, Nat.add_zero] at y0 x0; clear h0)
        go_ret2
        exact ⟨none, 0, 0, by rw [HO2.out]; rfl, (fun L h => by rw [HO2.out] at h; cases h), hb2.out⟩
      case pos =>
        subst hf
        have HO2 : Hid (O = some [tn, p0, p1, p2, p3, p4, p5]) := Lib.hid (by rw [HOX.out, if_pos rfl])
        clear HOX
        go_enter Try.func36, Try.ntmps36
        go_wp2_with (go_at_call 58; refine HDC.out.mono ?_; rintro e w2 ⟨bb, off, d, rfl, hb2, hpt⟩; obtain ⟨A0, c0, h0⟩ := hpt.out 0 (by simp); obtain ⟨y0, x0⟩ := h0 w2 (Below.refl _ _); simp only [List.getElem_cons_zero, Nat.add_zero] at y0 x0; clear h0)
        clear y0 x0
        go_loopw [8, 9] (fun s i wr => ∃ (k : Nat) (A1 : Option Addr) (c1 : Nat), s = .slice A1 k c1 ∧ i = .int .i64 ((k : Int) + 1) ∧ k ≤ 7 ∧ Hid (wr.ownsRow w2.heap.size 9 1 (.slice A1 k c1) k (([tn, p0, p1, p2, p3, p4, p5].take k).map strV)) ∧ Hid (Below w2.heap.size w2 wr)) (fun _ i _ => 8 - (intOf i).toNat)
        case atStart => exact ⟨0, none, 0, rfl, rfl, by omega, World.ownsRow_nil _ _ _ _, Below.refl _ _⟩
        case round =>
          obtain ⟨k, A1, c1, rfl, rfl, hk, HOW, BW⟩ := hrel
          by_cases hlt : k < 7
          · obtain ⟨A3, c3, h3⟩ := hpt.out (k + 1) (by simp; omega)
            obtain ⟨y3, x3⟩ := h3 wr BW.out
            simp only [List.getElem_cons_succ] at y3 x3
            have htk : ([tn, p0, p1, p2, p3, p4, p5].take k).map strV ++ [strV ([tn, p0, p1, p2, p3, p4, p5][k]'(by simp; omega))] = ([tn, p0, p1, p2, p3, p4, p5].take (k + 1)).map strV := by
              rw [List.take_succ_eq_append_getElem (by simp; omega), List.map_append]; rfl
            have HTK := Lib.hid htk
            generalize [tn, p0, p1, p2, p3, p4, p5][k]'(by simp; omega) = pk at *
            clear h3 htk
            obtain ⟨X, hX⟩ : ∃ X, X = ([tn, p0, p1, p2, p3, p4, p5].take k).map strV := ⟨_, rfl⟩
            rw [← hX] at HOW HTK
            have HTK2 := Lib.hid HTK.out
            clear hX HTK
            go_wp2_with (at_builtin; refine wpList_append_struct _ rfl _ _ _ rfl HRT.out (by decide) (by decide) w2 A1 k c1 X [strV pk] rfl rfl rfl BW.out HOW.out (by intro u hu; simp at hu; subst hu; rfl) (by omega) ?_)
            intro A4 c4 w4 hO4 hb4 _ _
            have HO4 : Hid (w4.ownsRow w2.heap.size 9 1 (.slice A4 (k + 1) c4) (k + 1) (([tn, p0, p1, p2, p3, p4, p5].take (k + 1)).map strV)) := Lib.hid (by rw [← HTK2.out]; exact hO4)
            have HB4 := Lib.hid hb4
            clear hO4 hb4
            go_wp2_with fail
            go_roundw
            case rel => exact ⟨k + 1, A4, c4, rfl, by go_num, by omega, HO4, HB4⟩
            case measure => simp [intOf]; omega
          · obtain rfl : k = 7 := by omega
            go_wp2_with fail
            go_ret2
            refine ⟨A1, 7, c1, by rw [HO2.out]; rfl, fun L hL => ?_, hb2.out.trans (BW.out.mono hb2.out.size)⟩
            rw [HO2.out] at hL
            injection hL with hL
            subst hL
            refine ⟨rfl, rfl, ?_⟩
            have ho := HOW.out
            rcases ho.2 with ⟨_, hn⟩ | ⟨g, cap, cur, hv, hbg, hg, _⟩
            · exact absurd hn (by decide)
            injection hv with hA
            subst hA
            have hgl : g < wr.heap.size := by
              rcases Nat.lt_or_ge g wr.heap.size with hlt2 | hge
              · exact hlt2
              · rw [Array.getElem?_eq_none hge] at hg; cases hg
            refine ⟨g, 0, rfl, ⟨Nat.le_trans hb2.out.size hbg, hgl⟩, fun j hj => ?_⟩
            have h1 := ho.cells (g := g) rfl j (strV [tn, p0, p1, p2, p3, p4, p5][j]) (by
              rw [List.take_of_length_le (by simp), List.getElem?_map, List.getElem?_eq_getElem hj]; rfl)
            rw [add_plain] at h1
            exact h1
end Go.Proofs.Ytehabjiacgibpaa
