/-
  What the document's Mac comes to: the same Lean function as the program's. Condition: the key and the bytes are at most 2^46 - 64.
-/
import Derived.Test.YtmmfnfndepijlaaDoorTwoRows
import Derived.Test.YtmmfnfndepijlaaDoorRefSum
import Derived.Test.YtmmfnfndepijlaaDoorMask
namespace Go.Proofs.YtmmfnfndepijlaaDoor
open Go.RowKit

/-- ahead of each round of the first loop -/
def MR1 (w : World) (k : List UInt8) (s : Value) (wr : World) : Prop :=
  ∃ (j : Nat) (A : Option Addr) (c : Nat), k.length + j ≤ 64 ∧ s = .slice A (k.length + j) c ∧ Made 5 w (k ++ List.replicate j 0) (.slice A (k.length + j) c) wr
/-- and of the second -/
def MR2 (w : World) (F : List UInt8) (si so i : Value) (wr : World) : Prop :=
  ∃ k : Nat, k ≤ 64 ∧ i = .int .i64 k ∧ Rows2 5 w (xorL 54 (F.take k)) (xorL 92 (F.take k)) si so wr
theorem xorL_next (m : UInt8) (F : List UInt8) (k : Nat) (h : k < F.length) : xorL m (F.take k) ++ [F[k] ^^^ m] = xorL m (F.take (k + 1)) := by
  rw [List.take_succ_eq_append_getElem h, xorL_append]; rfl
theorem made_form {e : TypeId} {w0 w : World} {l : List UInt8} {v : Value} (h : Made e w0 l v w) : ∃ A c, v = .slice A l.length c ∧ Seen w A l := h.form
theorem made_len {e : TypeId} {w0 w : World} {l : List UInt8} {n : Nat} {v : Value} (h : Made e w0 l v w) (hn : l.length = n) : ∃ A c, v = .slice A n c ∧ Made e w0 l (.slice A n c) w := by
  subst hn
  obtain ⟨A, c, rfl, _⟩ := h.form
  exact ⟨A, c, rfl, h⟩
theorem Made.at_len {e : TypeId} {w0 w : World} {l : List UInt8} {A : Option Addr} {n c : Nat} (h : Made e w0 l (.slice A n c) w) : l.length = n ∧ Seen w A l := by
  obtain ⟨A', c', hv, hs⟩ := h.form
  injection hv with h1 h2 h3
  subst h1
  exact ⟨h2.symm, hs⟩

set_option maxRecDepth 100000 in
set_option maxHeartbeats 1000000 in
/-- from the key that is short enough on -/
theorem refMac_any (A : Option Addr) (key : List UInt8) (c : Nat) (B : Option Addr) (b : List UInt8) (d : Nat) (w : World) (hs : Seen w A key) (hn : key.length ≤ 70368744177600)
    (hs' : Seen w B b) (hn' : b.length ≤ 70368744177600) :
    Calls Tryd.prog 9 #[.slice A key.length c, .slice B b.length d] w fun e w' => ∃ A' c', e = .returned (.slice A' 32 c') ∧ Made 5 w (macL key b) (.slice A' 32 c') w' := by
  obtain ⟨i0, hi, hz0, hz1, hz2⟩ := info_parts info5
  have HS := Lib.hid hs
  have HS' := Lib.hid hs'
  clear hs hs'
  obtain ⟨k1, hk1⟩ : ∃ k1, k1 = keyL key := ⟨_, rfl⟩
  have h64 : k1.length ≤ 64 := by rw [hk1]; exact keyL_short key
  have HM : Hid (macL key b = shaL (xorL 92 (fillL k1) ++ shaL (xorL 54 (fillL k1) ++ b))) := by rw [hk1]; rfl
  by_cases hlong : 64 < key.length
  · have e1 : k1 = shaL key := by rw [hk1]; unfold keyL; rw [if_pos hlong]
    have NL : Hid (k1.length = 32) := by show _ = _; rw [e1]; exact length_shaL _
    have HE := Lib.hid e1
    clear e1 hk1
    go_enter Tryd.func9, Tryd.ntmps9
    have HO := Made.nil 5 w
    go_wp2_with (at_builtin; refine wpList_append_bytes _ rfl _ _ 22 rfl 5 i0 (.int .u8 0) Tryd.underlying22 hi hz0 hz1 hz2 rfl w _ [] A key c rfl rfl HO ?a1 ?a2 ?_)
    case a1 => exact HS.out
    case a2 => simp; omega
    intro v1 w1 HM1 _
    obtain ⟨A1, c1, rfl, hs1⟩ := HM1.form
    have S1 := Lib.hid hs1
    have B1 := Lib.hid HM1.2
    clear hs1 HO HM1
    go_wp2_with fail
    refine (refSum_made A1 key c1 _ S1.out (by omega)).mono ?_
    rintro e w2 ⟨A2, c2, rfl, hm2⟩
    rw [← HE.out] at hm2
    have hm3 := hm2.since B1.out
    have M2 : Hid (Made 5 w k1 (.slice A2 k1.length c2) w2) := by
      show Made _ _ _ _ _
      rw [NL.out]; exact hm3
    clear hm2 hm3 S1 B1 HE HS hlong
    go_wp2_with fail
    go_loopw [5] (fun s wr => MR1 w k1 s wr) (fun s _ => 64 - lenOf s)
    case atStart => exact ⟨0, A2, c2, h64, by rw [NL.out, Nat.add_zero], by simpa using M2.out⟩
    case round =>
      clear M2 NL
      obtain ⟨j, A3, c3, hj, rfl, hm⟩ := hrel
      have M3 := Lib.hid hm
      clear hm
      by_cases hlt : k1.length + j < 64
      · go_wp2_with (refine wpList_append_one wr rfl (.tmp 19) (.tmp 20) 22 rfl 5 i0 (.int .u8 0) Tryd.underlying22 hi hz0 hz1 hz2 rfl w A3 (k1.length + j) c3 _ 0 0 rfl rfl M3.out (by simp) rfl (by omega) ?_; intro A4 c4 w4 HM4)
        have M4 : Hid (Made 5 w (k1 ++ List.replicate (j + 1) 0) (.slice A4 (k1.length + (j + 1)) c4) w4) := by
          show Made _ _ _ _ _
          rw [List.replicate_succ', ← List.append_assoc]; exact HM4
        clear HM4
        go_wp2_with fail
        go_roundw
        case rel => exact ⟨j + 1, A4, c4, by omega, rfl, M4.out⟩
        case measure => show 64 - (k1.length + j + 1) < 64 - (k1.length + j); omega
      · have ej : k1.length + j = 64 := by omega
        have hf : k1 ++ List.replicate j 0 = fillL k1 := by unfold fillL; congr 2; omega
        rw [ej, hf] at M3
        have F64 : Hid ((fillL k1).length = 64) := length_fillL h64
        rw [ej]
        clear hf ej hlt hj h64
        obtain ⟨F, hF⟩ : ∃ F, F = fillL k1 := ⟨_, rfl⟩
        rw [← hF] at M3 F64 HM
        clear hF
        have SF := Lib.hid M3.out.at_len.2
        have B3 := Lib.hid M3.out.2
        clear M3
        obtain ⟨w3, hw3⟩ : ∃ w3 : World, w3 = wr := ⟨_, rfl⟩
        rw [← hw3] at SF B3 ⊢
        clear hw3
        go_wp2_with fail
        go_loopw [6, 7, 8] (fun si so i wr => MR2 w3 F si so i wr) (fun _ _ i _ => 64 - (intOf i).toNat)
        case atStart => exact ⟨0, by omega, rfl, Rows2.nil _ _⟩
        case round =>
          obtain ⟨k, hk, rfl, hr2⟩ := hrel
          have R := Lib.hid hr2
          clear hr2
          by_cases hlt : k < 64
          · have hkF : k < F.length := by rw [F64.out]; exact hlt
            obtain ⟨g, off, hA, c0⟩ := (SF.out.below R.out.2.2.2).byte k hkF
            have CK : Hid (∀ w', Below w3.heap.size w3 w' → w'.cell? ⟨g, off + k, none⟩ = some (.int .u8 (F[k].toNat : Int))) := by
              intro w' hb
              obtain ⟨g', off', hA', c'⟩ := (SF.out.below hb).byte k hkF
              rw [hA] at hA'
              injection hA' with hA'
              injection hA' with h1 h2 _
              rw [h1, h2]; exact c'
            have N54 := Lib.hid (xorL_next 54 F k hkF)
            have N92 := Lib.hid (xorL_next 92 F k hkF)
            have L54 : Hid ((xorL 54 (F.take k)).length = k) := by show _ = _; rw [length_xorL, List.length_take]; omega
            have L92 : Hid ((xorL 92 (F.take k)).length = k) := by show _ = _; rw [length_xorL, List.length_take]; omega
            obtain ⟨x, hx⟩ : ∃ x, F[k] = x := ⟨_, rfl⟩
            rw [hx] at c0 N54 N92 CK
            clear hx
            subst hA
            have hx8 := x.toNat_lt
            have l1 : (k : Int) < 64 := by omega
            go_wp2_with (first
              | (at_builtin; refine wpList_append_row1 _ rfl (.tmp 26) (.tmp 32) 22 rfl 5 i0 (.int .u8 0) Tryd.underlying22 hi hz0 hz1 hz2 rfl w3 _ _ _ _ _ (x ^^^ 54) rfl rfl R.out (bits_xor8 x 54) (by rw [L54.out]; omega) ?_; intro v4 w4 R4; have c4 := CK.out _ R4.2.2.2; clear c0)
              | (at_builtin; refine wpList_append_row1 _ rfl (.tmp 34) (.tmp 40) 22 rfl 5 i0 (.int .u8 0) Tryd.underlying22 hi hz0 hz1 hz2 rfl w3 _ _ _ _ _ (x ^^^ 92) rfl rfl R4.symm (bits_xor8 x 92) (by rw [L92.out]; omega) ?_; intro v5 w5 R5))
            clear c4 R4
            have R6 := Lib.hid R5.symm
            clear R5
            go_wp2_with fail
            go_roundw
            case rel => exact ⟨k + 1, by omega, by go_num, by rw [← N54.out, ← N92.out]; exact R6.out⟩
            case measure => simp [intOf]; omega
          · obtain rfl : k = 64 := by omega
            rw [List.take_of_length_le (Nat.le_of_eq F64.out)] at R
            have L54 : Hid ((xorL 54 F).length = 64) := by show _ = _; rw [length_xorL]; exact F64.out
            have L92 : Hid ((xorL 92 F).length = 64) := by show _ = _; rw [length_xorL]; exact F64.out
            clear SF F64 hlt hk
            go_wp2_with (at_builtin; refine wpList_append_rowN _ rfl (.tmp 42) (.tmp 43) 22 rfl 5 i0 (.int .u8 0) Tryd.underlying22 hi hz0 hz1 hz2 rfl w3 _ _ _ _ B b d rfl rfl R.out (HS'.out.below (hop B3.out R.out.2.2.2)) (by rw [L54.out]; omega) ?_; intro v6 w6 R6 _)
            obtain ⟨A6, c6, rfl, hs6⟩ := R6.made.form
            have S6 := Lib.hid hs6
            have M6 := Lib.hid R6.symm.made
            have I64 : Hid ((xorL 54 F ++ b).length ≤ 70368744177664) := by show _ ≤ _; rw [List.length_append, L54.out]; omega
            clear hs6 R6 R L54
            obtain ⟨I, hI⟩ : ∃ I, I = xorL 54 F ++ b := ⟨_, rfl⟩
            rw [← hI] at S6 HM I64
            rw [← hI]
            clear hI
            go_wp2_with fail
            refine (refSum_made A6 I c6 _ S6.out I64.out).mono ?_
            rintro e w7 ⟨A7, c7, rfl, hm7⟩
            have S32 : Hid ((shaL I).length = 32) := length_shaL I
            have S7 := Lib.hid hm7.at_len.2
            have M7 := Lib.hid (M6.out.below hm7.2)
            clear hm7 S6 M6
            obtain ⟨S, hS⟩ : ∃ S, S = shaL I := ⟨_, rfl⟩
            rw [← hS] at S32 S7 HM
            clear hS
            go_wp2_with (at_builtin; refine wpList_append_bytes _ rfl (.tmp 45) (.tmp 47) 22 rfl 5 i0 (.int .u8 0) Tryd.underlying22 hi hz0 hz1 hz2 rfl w3 _ _ A7 S c7 rfl (by show Value.slice A7 32 c7 = .slice A7 S.length c7; rw [S32.out]) M7.out S7.out (by rw [L92.out, S32.out]; omega) ?_; intro v8 w8 M8 _)
            obtain ⟨A8, c8, rfl, hs8⟩ := M8.form
            have S8 := Lib.hid hs8
            have B8 := Lib.hid (hop B3.out M8.2)
            have O96 : Hid ((xorL 92 F ++ S).length ≤ 70368744177664) := by show _ ≤ _; rw [List.length_append, L92.out, S32.out]; omega
            clear M8 hs8 S7 M7 L92 S32
            have HM' : Hid (∀ O, O = xorL 92 F ++ S → macL key b = shaL O) := by intro O hO; rw [hO]; exact HM.out
            obtain ⟨O, hO⟩ : ∃ O, O = xorL 92 F ++ S := ⟨_, rfl⟩
            have HF := Lib.hid (HM'.out O hO)
            rw [← hO] at S8 O96
            rw [← hO]
            clear hO HM HM'
            go_wp2_with fail
            refine (refSum_made A8 O c8 _ S8.out O96.out).mono ?_
            rintro e w9 ⟨A9, c9, rfl, hm9⟩
            have M9 := Lib.hid (hm9.since B8.out)
            clear hm9
            go_wp2_with fail
            go_ret
            exact ⟨A9, c9, rfl, by rw [HF.out]; exact M9.out⟩
  · have e1 : k1 = key := by rw [hk1]; unfold keyL; rw [if_neg hlong]
    have NL : Hid (k1.length = key.length) := by show _ = _; rw [e1]
    have HE := Lib.hid e1
    clear e1 hk1
    go_enter Tryd.func9, Tryd.ntmps9
    have HO := Made.nil 5 w
    go_wp2_with (at_builtin; refine wpList_append_bytes _ rfl _ _ 22 rfl 5 i0 (.int .u8 0) Tryd.underlying22 hi hz0 hz1 hz2 rfl w _ [] A key c rfl rfl HO ?a1 ?a2 ?_)
    case a1 => exact HS.out
    case a2 => simp; omega
    intro v1 w2 HM1 _
    obtain ⟨A2, c2, rfl, _⟩ := HM1.form
    have M2 : Hid (Made 5 w k1 (.slice A2 k1.length c2) w2) := by
      show Made _ _ _ _ _
      rw [HE.out]; exact HM1
    clear HM1 HO HE HS
    go_wp2_with fail
    go_loopw [5] (fun s wr => MR1 w k1 s wr) (fun s _ => 64 - lenOf s)
    case atStart => exact ⟨0, A2, c2, h64, by rw [NL.out, Nat.add_zero], by simpa using M2.out⟩
    case round =>
      clear M2 NL
      obtain ⟨j, A3, c3, hj, rfl, hm⟩ := hrel
      have M3 := Lib.hid hm
      clear hm
      by_cases hlt : k1.length + j < 64
      · go_wp2_with (refine wpList_append_one wr rfl (.tmp 19) (.tmp 20) 22 rfl 5 i0 (.int .u8 0) Tryd.underlying22 hi hz0 hz1 hz2 rfl w A3 (k1.length + j) c3 _ 0 0 rfl rfl M3.out (by simp) rfl (by omega) ?_; intro A4 c4 w4 HM4)
        have M4 : Hid (Made 5 w (k1 ++ List.replicate (j + 1) 0) (.slice A4 (k1.length + (j + 1)) c4) w4) := by
          show Made _ _ _ _ _
          rw [List.replicate_succ', ← List.append_assoc]; exact HM4
        clear HM4
        go_wp2_with fail
        go_roundw
        case rel => exact ⟨j + 1, A4, c4, by omega, rfl, M4.out⟩
        case measure => show 64 - (k1.length + j + 1) < 64 - (k1.length + j); omega
      · have ej : k1.length + j = 64 := by omega
        have hf : k1 ++ List.replicate j 0 = fillL k1 := by unfold fillL; congr 2; omega
        rw [ej, hf] at M3
        have F64 : Hid ((fillL k1).length = 64) := length_fillL h64
        rw [ej]
        clear hf ej hlt hj h64
        obtain ⟨F, hF⟩ : ∃ F, F = fillL k1 := ⟨_, rfl⟩
        rw [← hF] at M3 F64 HM
        clear hF
        have SF := Lib.hid M3.out.at_len.2
        have B3 := Lib.hid M3.out.2
        clear M3
        obtain ⟨w3, hw3⟩ : ∃ w3 : World, w3 = wr := ⟨_, rfl⟩
        rw [← hw3] at SF B3 ⊢
        clear hw3
        go_wp2_with fail
        go_loopw [6, 7, 8] (fun si so i wr => MR2 w3 F si so i wr) (fun _ _ i _ => 64 - (intOf i).toNat)
        case atStart => exact ⟨0, by omega, rfl, Rows2.nil _ _⟩
        case round =>
          obtain ⟨k, hk, rfl, hr2⟩ := hrel
          have R := Lib.hid hr2
          clear hr2
          by_cases hlt : k < 64
          · have hkF : k < F.length := by rw [F64.out]; exact hlt
            obtain ⟨g, off, hA, c0⟩ := (SF.out.below R.out.2.2.2).byte k hkF
            have CK : Hid (∀ w', Below w3.heap.size w3 w' → w'.cell? ⟨g, off + k, none⟩ = some (.int .u8 (F[k].toNat : Int))) := by
              intro w' hb
              obtain ⟨g', off', hA', c'⟩ := (SF.out.below hb).byte k hkF
              rw [hA] at hA'
              injection hA' with hA'
              injection hA' with h1 h2 _
              rw [h1, h2]; exact c'
            have N54 := Lib.hid (xorL_next 54 F k hkF)
            have N92 := Lib.hid (xorL_next 92 F k hkF)
            have L54 : Hid ((xorL 54 (F.take k)).length = k) := by show _ = _; rw [length_xorL, List.length_take]; omega
            have L92 : Hid ((xorL 92 (F.take k)).length = k) := by show _ = _; rw [length_xorL, List.length_take]; omega
            obtain ⟨x, hx⟩ : ∃ x, F[k] = x := ⟨_, rfl⟩
            rw [hx] at c0 N54 N92 CK
            clear hx
            subst hA
            have hx8 := x.toNat_lt
            have l1 : (k : Int) < 64 := by omega
            go_wp2_with (first
              | (at_builtin; refine wpList_append_row1 _ rfl (.tmp 26) (.tmp 32) 22 rfl 5 i0 (.int .u8 0) Tryd.underlying22 hi hz0 hz1 hz2 rfl w3 _ _ _ _ _ (x ^^^ 54) rfl rfl R.out (bits_xor8 x 54) (by rw [L54.out]; omega) ?_; intro v4 w4 R4; have c4 := CK.out _ R4.2.2.2; clear c0)
              | (at_builtin; refine wpList_append_row1 _ rfl (.tmp 34) (.tmp 40) 22 rfl 5 i0 (.int .u8 0) Tryd.underlying22 hi hz0 hz1 hz2 rfl w3 _ _ _ _ _ (x ^^^ 92) rfl rfl R4.symm (bits_xor8 x 92) (by rw [L92.out]; omega) ?_; intro v5 w5 R5))
            clear c4 R4
            have R6 := Lib.hid R5.symm
            clear R5
            go_wp2_with fail
            go_roundw
            case rel => exact ⟨k + 1, by omega, by go_num, by rw [← N54.out, ← N92.out]; exact R6.out⟩
            case measure => simp [intOf]; omega
          · obtain rfl : k = 64 := by omega
            rw [List.take_of_length_le (Nat.le_of_eq F64.out)] at R
            have L54 : Hid ((xorL 54 F).length = 64) := by show _ = _; rw [length_xorL]; exact F64.out
            have L92 : Hid ((xorL 92 F).length = 64) := by show _ = _; rw [length_xorL]; exact F64.out
            clear SF F64 hlt hk
            go_wp2_with (at_builtin; refine wpList_append_rowN _ rfl (.tmp 42) (.tmp 43) 22 rfl 5 i0 (.int .u8 0) Tryd.underlying22 hi hz0 hz1 hz2 rfl w3 _ _ _ _ B b d rfl rfl R.out (HS'.out.below (hop B3.out R.out.2.2.2)) (by rw [L54.out]; omega) ?_; intro v6 w6 R6 _)
            obtain ⟨A6, c6, rfl, hs6⟩ := R6.made.form
            have S6 := Lib.hid hs6
            have M6 := Lib.hid R6.symm.made
            have I64 : Hid ((xorL 54 F ++ b).length ≤ 70368744177664) := by show _ ≤ _; rw [List.length_append, L54.out]; omega
            clear hs6 R6 R L54
            obtain ⟨I, hI⟩ : ∃ I, I = xorL 54 F ++ b := ⟨_, rfl⟩
            rw [← hI] at S6 HM I64
            rw [← hI]
            clear hI
            go_wp2_with fail
            refine (refSum_made A6 I c6 _ S6.out I64.out).mono ?_
            rintro e w7 ⟨A7, c7, rfl, hm7⟩
            have S32 : Hid ((shaL I).length = 32) := length_shaL I
            have S7 := Lib.hid hm7.at_len.2
            have M7 := Lib.hid (M6.out.below hm7.2)
            clear hm7 S6 M6
            obtain ⟨S, hS⟩ : ∃ S, S = shaL I := ⟨_, rfl⟩
            rw [← hS] at S32 S7 HM
            clear hS
            go_wp2_with (at_builtin; refine wpList_append_bytes _ rfl (.tmp 45) (.tmp 47) 22 rfl 5 i0 (.int .u8 0) Tryd.underlying22 hi hz0 hz1 hz2 rfl w3 _ _ A7 S c7 rfl (by show Value.slice A7 32 c7 = .slice A7 S.length c7; rw [S32.out]) M7.out S7.out (by rw [L92.out, S32.out]; omega) ?_; intro v8 w8 M8 _)
            obtain ⟨A8, c8, rfl, hs8⟩ := M8.form
            have S8 := Lib.hid hs8
            have B8 := Lib.hid (hop B3.out M8.2)
            have O96 : Hid ((xorL 92 F ++ S).length ≤ 70368744177664) := by show _ ≤ _; rw [List.length_append, L92.out, S32.out]; omega
            clear M8 hs8 S7 M7 L92 S32
            have HM' : Hid (∀ O, O = xorL 92 F ++ S → macL key b = shaL O) := by intro O hO; rw [hO]; exact HM.out
            obtain ⟨O, hO⟩ : ∃ O, O = xorL 92 F ++ S := ⟨_, rfl⟩
            have HF := Lib.hid (HM'.out O hO)
            rw [← hO] at S8 O96
            rw [← hO]
            clear hO HM HM'
            go_wp2_with fail
            refine (refSum_made A8 O c8 _ S8.out O96.out).mono ?_
            rintro e w9 ⟨A9, c9, rfl, hm9⟩
            have M9 := Lib.hid (hm9.since B8.out)
            clear hm9
            go_wp2_with fail
            go_ret
            exact ⟨A9, c9, rfl, by rw [HF.out]; exact M9.out⟩
end Go.Proofs.YtmmfnfndepijlaaDoor
