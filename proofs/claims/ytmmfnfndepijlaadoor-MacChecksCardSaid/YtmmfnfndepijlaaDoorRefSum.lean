/-
  What the document's Sum comes to: the same Lean function as the program's. Condition: the bytes are at most 2^46.
-/
import Derived.Test.YtmmfnfndepijlaaDoorRefBlock
import Derived.Test.YtmmfnfndepijlaaDoorFilled
import Derived.Test.YtmmfnfndepijlaaDoorSumState
namespace Go.Proofs.YtmmfnfndepijlaaDoor
open Go.RowKit

theorem seen_chunk {w : World} {A : Option Addr} {l : List UInt8} (h : Seen w A l) (k : Nat) (hk : 64 * k + 64 ≤ l.length) : Seen w (A.map (·.add (64 * k))) (chunk l k) := by
  rcases h with rfl | ⟨b, off, rfl, hb, hcell⟩
  · simp at hk
  · refine .inr ⟨b, off + 64 * k, ?_, hb, fun j hj => ?_⟩
    · show some (Addr.add _ _) = _; rw [add_plain]
    · have hj' : j < 64 := by unfold chunk at hj; simp at hj; omega
      rw [Nat.add_assoc, hcell (64 * k + j) (by omega)]
      simp [chunk]
theorem length_chunk (l : List UInt8) (k : Nat) (hk : 64 * k + 64 ≤ l.length) : (chunk l k).length = 64 := by unfold chunk; simp; omega

theorem own_cap {wr : World} {base : Nat} {e : TypeId} {A : Option Addr} {n c m : Nat} {xs : List Value} (h : wr.ownsRow base e 1 (.slice A n c) m xs) : n ≤ c := by
  rcases h.2 with ⟨hv, h0⟩ | ⟨g, cap, cur, hv, _, _, hnc, _⟩
  · injection hv with _ h1 h2; omega
  · injection hv with _ h1 h2; omega
theorem ofNat_div24 (x : Nat) (hx : x < 4294967296) : ((UInt8.ofNat (x / 16777216)).toNat : Int) = (x : Int) / 16777216 := by rw [UInt8.toNat_ofNat']; omega
theorem ofNat_div (x d : Nat) : ((UInt8.ofNat (x / d)).toNat : Int) = (x : Int) / (d : Int) % 256 := by rw [UInt8.toNat_ofNat']; simp
theorem ofNat_mod (x : Nat) : ((UInt8.ofNat x).toNat : Int) = (x : Int) % 256 := by rw [UInt8.toNat_ofNat']; omega
def SR1 (w : World) (F : List UInt8) (AF : Option Addr) (s i : Value) (wr : World) : Prop :=
  ∃ (k g c : Nat) (rest : List Value), 64 * k ≤ F.length ∧ i = .int .i64 (64 * k : Nat) ∧ s = .slice (some ⟨g, 0, none⟩) 8 c ∧ Blk wr g ((hashed F k).map wv ++ rest) 43 ∧ Seen wr AF F ∧ Below w.heap.size w wr
def SR2 (W0 : World) (ws : List Nat) (s i : Value) (wr : World) : Prop :=
  ∃ (k : Nat) (A : Option Addr) (c : Nat), k ≤ 8 ∧ i = .int .i64 k ∧ s = .slice A (4 * k) c ∧ Made 5 W0 (outL (ws.take k)) (.slice A (4 * k) c) wr

/-- what was made behind a later world was made behind an earlier one -/
theorem Made.since {e : TypeId} {w0 w w' : World} {l : List UInt8} {v : Value} (h : Made e w l v w') (hb : Below w0.heap.size w0 w) : Made e w0 l v w' := by
  refine ⟨⟨h.1.1, ?_⟩, hop hb h.2⟩
  rcases h.1.2 with hn | ⟨g, cap, cur, hv, hg, rest⟩
  · exact .inl hn
  · exact .inr ⟨g, cap, cur, hv, Nat.le_trans hb.size hg, rest⟩
set_option maxRecDepth 100000 in
set_option maxHeartbeats 1000000 in
theorem refSum_made (A : Option Addr) (l : List UInt8) (c : Nat) (w : World) (hs : Seen w A l) (hn : l.length ≤ 70368744177664) :
    Calls Tryd.prog 17 #[.slice A l.length c] w fun e w' => ∃ A' c', e = .returned (.slice A' 32 c') ∧ Made 5 w (shaL l) (.slice A' 32 c') w' := by
  obtain ⟨i0, hi, hz0, hz1, hz2⟩ := info_parts info5
  have HS := Lib.hid hs
  have hz : zerosN l.length < 64 := by unfold zerosN; omega
  clear hs
  go_enter Tryd.func17, Tryd.ntmps17
  go_wp2_with fail
  refine (refStart_any _).mono ?_
  rintro e w1 ⟨rfl, hw1⟩
  have G1 : Hid (Blk w1 w.heap.size (H0.map wv ++ []) 43) := by rw [hw1, List.append_nil]; exact Blk.new w _ _
  have B1 : Hid (Below w.heap.size w w1) := by rw [hw1]; exact (Below.refl _ _).alloc (Nat.le_refl _) _
  clear hw1
  go_wp2_with fail
  refine (filled_any A l c _ (HS.out.below B1.out) hn).mono ?_
  rintro e w2 ⟨AF, cF, rfl, hm2⟩
  obtain ⟨F, hF⟩ : ∃ F, F = l ++ padL l.length := ⟨_, rfl⟩
  rw [← hF] at hm2
  have hFl : F.length = l.length + (zerosN l.length + 9) := by rw [hF, List.length_append, length_padL]
  rw [← hFl] at hm2 ⊢
  have HW : Hid (F.length % 64 = 0 ∧ 64 ≤ F.length) := by rw [hF]; exact padded_whole l
  have HSH : Hid (shaL l = outL (hashed F (F.length / 64))) := by rw [hF]; rfl
  have hFb : F.length ≤ 70368744177800 := by omega
  have SF := Lib.hid (Seen.of_own hm2.1).1
  have B2 := Lib.hid (hop B1.out hm2.2)
  have G2 := Lib.hid (G1.out.below hm2.2 G1.out.lt)
  have hcF : F.length ≤ cF := (own_cap hm2.1)
  clear hm2 hF hFl B1 G1 w1
  go_wp2_with fail
  go_loopw [3, 5] (fun s i wr => SR1 w F AF s i wr) (fun _ i _ => F.length - (intOf i).toNat)
  case atStart => exact ⟨0, w.heap.size, 8, [], by omega, rfl, rfl, G2.out, SF.out, B2.out⟩
  case round =>
    clear G2 SF B2 w2
    obtain ⟨k, g, cg, rest, hk, rfl, rfl, hbk, hsf, hbl⟩ := hrel
    have GK := Lib.hid hbk
    have SF := Lib.hid hsf
    have BL := Lib.hid hbl
    clear hbk hsf hbl
    by_cases hlt : 64 * k < F.length
    · have hk64 : 64 * k + 64 ≤ F.length := by have := HW.out.1; omega
      have SC := Lib.hid (seen_chunk SF.out k hk64)
      have t1 : decide (64 * (k : Int) < (F.length : Int)) = true := by simp; omega
      go_wp2_with fail
      refine (refBlock_any g (hashed F k) rest cg _ (chunk F k) _ _ (hashed_ok _ _).1 (hashed_ok _ _).2 GK.out (length_chunk F k hk64) SC.out).mono ?_
      rintro e w3 ⟨g3, c3, r3, rfl, hb3, hbl3⟩
      have G3 : Hid (Blk w3 g3 ((hashed F (k + 1)).map wv ++ r3) 43) := hb3
      have S3 := Lib.hid (SF.out.below hbl3)
      have B3 := Lib.hid (hop BL.out hbl3)
      clear hb3 hbl3 GK SF BL SC
      go_wp2_with fail
      go_roundw
      case rel => exact ⟨k + 1, g3, c3, r3, by omega, by go_num, rfl, G3.out, S3.out, B3.out⟩
      case measure => simp [intOf]; omega
    · have ek : F.length / 64 = k := by have := HW.out.1; omega
      rw [ek] at HSH
      have t1 : decide (64 * (k : Int) < (F.length : Int)) = false := by simp; omega
      clear ek
      have hws := hashed_ok F k
      generalize hashed F k = ws at *
      have HW8 := Lib.hid hws.1
      have HWL := Lib.hid hws.2
      clear hws
      go_wp2_with fail
      clear t1
      obtain ⟨wo, hwo⟩ : ∃ wo : World, wo = wr := ⟨_, rfl⟩
      rw [← hwo] at GK BL SF ⊢
      clear hwo wr
      have CELL : Hid (∀ (j : Nat) (X : List UInt8) (v : Value) (w' : World), j < 8 → Made 5 wo X v w' → w'.cell? ⟨g, j, none⟩ = some (.int .u32 (ws.getD j 0 : Nat))) := by
        intro j X v w' hj hm
        exact (GK.out.below hm.2 GK.out.lt).word8 (by rw [HW8.out]; exact hj)
      generalize ((64 * k : Nat) : Int) = ii
      go_loopw [6, 7] (fun s i wr => SR2 wo ws s i wr) (fun _ i _ => 8 - (intOf i).toNat)
      case atStart => exact ⟨0, none, 0, by omega, rfl, rfl, Made.nil _ _⟩
      case round =>
        clear GK
        obtain ⟨j, A1, c1, hj, rfl, rfl, HM⟩ := hrel
        by_cases h8 : j < 8
        · have d0 := CELL.out j _ _ _ h8 HM
          have hx := getD_lt HWL.out j
          have HN := Lib.hid (outL_next ws HW8.out j h8)
          have hl0 : (outL (ws.take j)).length = 4 * j := by rw [length_outL, List.length_take, HW8.out]; omega
          have HM0 := Lib.hid HM
          have HL0 := Lib.hid hl0
          clear HM hl0
          have CJ : Hid (∀ (X : List UInt8) (v : Value) (w' : World), Made 5 wo X v w' → w'.cell? ⟨g, j, none⟩ = some (.int .u32 (ws.getD j 0 : Nat))) := fun X v w' hm => CELL.out j X v w' h8 hm
          generalize ws.getD j 0 = x at *
          obtain ⟨D, hD⟩ : ∃ D, D = outL (ws.take j) := ⟨_, rfl⟩
          rw [← hD] at HM0 HL0 HN
          clear hD
          go_wp2_with (first
            | (at_builtin; refine wpList_append_one wr rfl (.tmp 28) (.tmp 35) 22 rfl 5 i0 (.int .u8 0) Tryd.underlying22 hi hz0 hz1 hz2 rfl wo A1 (4 * j) c1 D ((x : Int) / 16777216) (UInt8.ofNat (x / 16777216)) rfl rfl HM0.out HL0.out (ofNat_div24 x hx) (by omega) ?_; intro A2 c2 w2 HM2; have d2 := CJ.out _ _ _ HM2)
            | (at_builtin; refine wpList_append_one w2 rfl (.tmp 37) (.tmp 44) 22 rfl 5 i0 (.int .u8 0) Tryd.underlying22 hi hz0 hz1 hz2 rfl wo A2 (4 * j + 1) c2 (D ++ [UInt8.ofNat (x / 16777216)]) ((x : Int) / 65536 % 256) (UInt8.ofNat (x / 65536)) rfl rfl HM2 (by rw [List.length_append, HL0.out]; rfl) (ofNat_div x 65536) (by omega) ?_; intro A3 c3 w3 HM3; have d3 := CJ.out _ _ _ HM3)
            | (at_builtin; refine wpList_append_one w3 rfl (.tmp 46) (.tmp 53) 22 rfl 5 i0 (.int .u8 0) Tryd.underlying22 hi hz0 hz1 hz2 rfl wo A3 (4 * j + 1 + 1) c3 (D ++ [UInt8.ofNat (x / 16777216)] ++ [UInt8.ofNat (x / 65536)]) ((x : Int) / 256 % 256) (UInt8.ofNat (x / 256)) rfl rfl HM3 (by rw [List.length_append, List.length_append, HL0.out]; rfl) (ofNat_div x 256) (by omega) ?_; intro A4 c4 w4 HM4; have d4 := CJ.out _ _ _ HM4)
            | (at_builtin; refine wpList_append_one w4 rfl (.tmp 55) (.tmp 61) 22 rfl 5 i0 (.int .u8 0) Tryd.underlying22 hi hz0 hz1 hz2 rfl wo A4 (4 * j + 1 + 1 + 1) c4 (D ++ [UInt8.ofNat (x / 16777216)] ++ [UInt8.ofNat (x / 65536)] ++ [UInt8.ofNat (x / 256)]) ((x : Int) % 256) (UInt8.ofNat x) rfl rfl HM4 (by rw [List.length_append, List.length_append, List.length_append, HL0.out]; rfl) (ofNat_mod x) (by omega) ?_; intro A5 c5 w5 HM5))
          have H5 : Hid (Made 5 wo (outL (ws.take (j + 1))) (.slice A5 (4 * (j + 1)) c5) w5) := by
            show Made _ _ _ _ _
            rw [HN.out]
            simpa [be4, Nat.mul_add] using HM5
          clear HM2 HM3 HM4 HM5
          go_wp2_with fail
          go_roundw
          case rel => exact ⟨j + 1, A5, c5, by omega, by go_num, by rw [Nat.mul_add], H5.out⟩
          case measure => simp [intOf]; omega
        · obtain rfl : j = 8 := by omega
          rw [List.take_of_length_le (Nat.le_of_eq HW8.out), ← HSH.out] at HM
          have H9 := Lib.hid HM
          clear HM
          go_wp2_with fail
          go_ret
          exact ⟨A1, c1, rfl, H9.out.since BL.out⟩
theorem refSum_any (A : Option Addr) (l : List UInt8) (c : Nat) (w : World) (hs : Seen w A l) (hn : l.length ≤ 70368744177664) :
    Calls Tryd.prog 17 #[.slice A l.length c] w fun e w' => ∃ A' c', e = .returned (.slice A' 32 c') ∧ Seen w' A' (shaL l) ∧ Below w.heap.size w w' := by
  refine (refSum_made A l c w hs hn).mono ?_
  rintro e w' ⟨A', c', rfl, hm⟩
  have h9 := hm.1
  rw [length_shaL] at h9
  exact ⟨A', c', rfl, (Seen.of_own h9).1, hm.2⟩
end Go.Proofs.YtmmfnfndepijlaaDoor
