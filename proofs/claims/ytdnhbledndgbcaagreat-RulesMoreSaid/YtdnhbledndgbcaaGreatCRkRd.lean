/-
  The document's faults and levels, walked (conciergeref12's Check and Levels). Conditions: the schema is there; no relation leans on too many.
  The law's helpers: the schema of a text (read); are two lists of lists of numbers the same (levels)? Conditions: a text of at most 5000 bytes; the lists are there.
-/
import Derived.Test.YtdnhbledndgbcaaGreatCRuQ
import Derived.Test.YtdnhbledndgbcaaGreatCRuP
import Derived.Test.YtdnhbledndgbcaaGreatCLpPb
import Derived.Deep.QuietTactic
import Derived.BigQuiet
namespace Go.Proofs.YtdnhbledndgbcaaGreat
open Go.RowKit
theorem IlAt.row {w : World} {F : Nat → Prop} {A : Option Addr} {ls : List (List Nat)} (h : IlAt w F A ls) {i : Nat} (hi : i < ls.length) :
    ∃ b off A1 c1, A = some ⟨b, off, none⟩ ∧ w.cell? ⟨b, off + i, none⟩ = some (.slice A1 ls[i].length c1) ∧ ∀ j (hj : j < ls[i].length), ∃ b1 off1, A1 = some ⟨b1, off1, none⟩ ∧ w.cell? ⟨b1, off1 + j, none⟩ = some (nv ls[i][j]) := by
  rcases h with h | ⟨b, off, hA, hlt, hF, hk⟩
  · subst h; cases hi
  · obtain ⟨cs, ⟨A1, c1, rfl, hr⟩, h4⟩ := hk i hi
    have h5 := h4 0 (by decide)
    rw [Nat.mul_one, Nat.add_zero] at h5
    refine ⟨b, off, A1, c1, hA, h5, fun j hj => ?_⟩
    rcases hr with hr | ⟨b1, off1, hA1, hlt1, hF1, hk1⟩
    · rw [hr] at hj; cases hj
    · obtain ⟨cs, rfl, h6⟩ := hk1 j hj
      have h7 := h6 0 (by decide)
      rw [Nat.mul_one, Nat.add_zero] at h7
      exact ⟨b1, off1, hA1, h7⟩
def FewLn (s : Sc) : Prop := ∀ i (hi : i < s.length) k (hk : k < s[i].rels.length), (allN s i s[i].rels[k]).length ≤ 1000000
theorem RwOk.of_plain {s : Sc} (h : (plainN s).2.2 = 0) (hf : FewLn s) : RwOk s := by
  rw [plain_is] at h
  by_cases h1 : (sizesN s).2.2 = 0
  · rw [if_neg (fun h => h h1)] at h
    have h2 := sizes_ok h1
    exact ⟨h2.2.2.1, h2.2.2.2, ok_of h1 h, hf⟩
  · rw [if_pos h1] at h
    exact absurd h h1
theorem frR_drop {s : Sc} {j k : Nat} (hj : j < s.length) (hk : k < s[j].rels.length) : orF (frRow (cycF s j) j (s[j].rels.drop k) k) (frN (cycF s) (s.drop (j + 1)) (j + 1)) = if manyN s < lvG (levS s) (j, k) then ((j : Int), (k : Int), 11) else orF (frRow (cycF s j) j (s[j].rels.drop (k + 1)) (k + 1)) (frN (cycF s) (s.drop (j + 1)) (j + 1)) := by
  rw [frRow_drop hk]
  have hc : cycF s j k = if manyN s < lvG (levS s) (j, k) then 11 else 0 := rfl
  rw [hc]
  by_cases h : manyN s < lvG (levS s) (j, k)
  · simp only [if_pos h]; rfl
  · simp only [if_neg h]; rfl
set_option maxRecDepth 100000 in
set_option maxHeartbeats 4000000 in
theorem rcheck_any (s : Sc) (A : Option Addr) (c : Nat) (hl : s.length ≤ 9223372036854775807) (hf : FewLn s) (F : Nat → Prop) (W : World) (hs : ScAt W F A s) :
    Calls Tryz.prog 11 #[.agg #[.slice A s.length c]] W fun r w' => r = .returned (faV (docC s)) ∧ Below W.heap.size W w' := by
  obtain ⟨V, hV⟩ : ∃ V, V = docC s := ⟨_, rfl⟩
  rw [← hV]
  unfold docC at hV
  obtain ⟨W1, hW⟩ : ∃ W1, W1 = (W.alloc (.cells #[.slice A s.length c] 24)).alloc (.cells #[.int .i64 0, .int .i64 0, .int .i64 0] 33) := ⟨_, rfl⟩
  have HKA : Hid (Blk W1 W.heap.size [.slice A s.length c] 24) := by rw [hW]; exact Lib.hid ((Blk.new W _ _).alloc _)
  have HKE : Hid (Blk W1 (W.heap.size + 1) [.int .i64 0, .int .i64 0, .int .i64 0] 33) := by
    rw [hW]
    have := Blk.new (W.alloc (.cells #[.slice A s.length c] 24)) [.int .i64 0, .int .i64 0, .int .i64 0] 33
    rw [World.size_alloc] at this
    exact Lib.hid this
  have HB0 : Hid (Below W.heap.size W W1) := by rw [hW]; exact Lib.hid (((Below.refl _ _).alloc (Nat.le_refl _) _).alloc (by simp) _)
  have HW := Lib.hid hW
  have HX : Hid (∀ w, Below W1.heap.size W1 w → w.cell? ⟨W.heap.size, 0, none⟩ = some (.slice A s.length c) ∧ w.cell? ⟨W.heap.size + 1, 0, none⟩ = some (.int .i64 0) ∧ w.cell? ⟨W.heap.size + 1, 1, none⟩ = some (.int .i64 0) ∧ w.cell? ⟨W.heap.size + 1, 2, none⟩ = some (.int .i64 0) ∧ w.frozen? ⟨W.heap.size + 1, 0, none⟩ = false ∧ w.frozen? ⟨W.heap.size + 1, 1, none⟩ = false ∧ w.frozen? ⟨W.heap.size + 1, 2, none⟩ = false) := Lib.hid (fun w hw => by
    have h1 := HKA.out.below hw HKA.out.lt
    have h2 := HKE.out.below hw HKE.out.lt
    exact ⟨h1.cell (i := 0) (by simp), h2.cell (i := 0) (by simp), h2.cell (i := 1) (by simp), h2.cell (i := 2) (by simp), h2.free 0, h2.free 1, h2.free 2⟩)
  have HF : Hid (∀ w, Below W1.heap.size W1 w → Below W.heap.size W w) := Lib.hid (fun w hw => HB0.out.trans (hw.mono HB0.out.size))
  have HS : Hid (∀ w, Below W1.heap.size W1 w → ScAt w F A s) := Lib.hid (fun w hw => hs.below (HF.out w hw))
  have HP := Lib.hid (rplain_any s A c hl F W1 (HS.out W1 (Below.refl _ _)))
  have HZ1 : Hid (W.heap.size + 2 ≤ W1.heap.size) := by rw [hW]; exact Lib.hid (by simp)
  have HRO : Hid ((plainN s).2.2 = 0 → RwOk s) := Lib.hid (fun h => RwOk.of_plain h hf)
  have HV : Hid (V = if (plainN s).2.2 ≠ 0 then plainN s else frN (cycF s) s 0) := Lib.hid hV
  clear hV hW hs hf
  generalize plainN s = pl at *
  obtain ⟨p1, p2, p3⟩ := pl
  have hx0 := (HX.out W1 (Below.refl _ _)).1
  rw [HW.out] at hx0
  by_cases hp : p3 = 0
  · subst hp
    have hro := HRO.out rfl
    have HV2 : Hid (V = frN (cycF s) (s.drop 0) 0) := Lib.hid (by rw [HV.out, if_neg (fun h => h rfl)]; rfl)
    have HK := Lib.hid hro
    have HLL : Hid ((levS s).length = s.length ∧ ∀ i (hi : i < s.length) (hi2 : i < (levS s).length), (levS s)[i].length = s[i].rels.length) := Lib.hid (by
      have h1 := levS_len s
      have h2 := congrArg List.length h1
      simp only [List.length_map] at h2
      refine ⟨h2, fun i hi hi2 => ?_⟩
      have h3 : ((levS s).map List.length)[i]'(by simpa using hi2) = (s.map (fun t => t.rels.length))[i]'(by simpa using hi) := by
        congr 1
      simpa using h3)
    have hs16 := hro.len
    have hm16 : manyN s ≤ 256 := by have := manyN_le s hro.rels; omega
    clear HRO HV hro
    go_enter Tryz.func11, Tryz.ntmps11
    go_wp2_with (first
      | (go_at_call 17; rw [← HW.out]; (refine HP.out.mono ?_); rintro r w2 ⟨rfl, hb2⟩; clear hx0; have HB3 := Lib.hid (hb2.alloc hb2.size (.cells #[.int .i64 p1, .int .i64 p2, .int .i64 0] 33)); have y2 := (Blk.new w2 [.int .i64 p1, .int .i64 p2, .int .i64 0] 33).cell (i := 2) (by simp); obtain ⟨x0, v0, v1, v2, f0, f1, f2⟩ := HX.out _ HB3.out; have HLV := Lib.hid (rlevels_any s A c HK.out F _ (HS.out _ HB3.out)); clear hb2)
      | (go_at_call 16; (with_reducible refine HLV.out.mono ?_); rintro r w4 ⟨A4, c4, rfl, hil, hb4⟩; have HB4 := Lib.hid (HB3.out.trans (hb4.mono HB3.out.size)); clear x0 v0 v1 v2 f0 f1 f2; obtain ⟨x0, v0, v1, v2, f0, f1, f2⟩ := HX.out w4 HB4.out; have HIL := Lib.hid hil; have HMY := Lib.hid (rmany_any s w4 F A c (HS.out w4 HB4.out) (by omega) (by omega)); clear hil hb4)
      | (go_at_call 18; (with_reducible refine HMY.out.mono ?_); rintro r w5 ⟨rfl, hb5⟩; have HB5 := Lib.hid (hop HB4.out hb5); clear x0 v0 v1 v2 f0 f1 f2; have HX5 := Lib.hid (HX.out w5 HB5.out); have HI5 : Hid (IlAt w5 (fun _ => False) A4 (levS s)) := Lib.hid (HIL.out.moved (G := fun _ => False) (Spared.of_below hb5 _) (fun _ h => h.elim) (fun _ _ _ h => keeps_ir _ _ _ _ (Spared.of_below hb5 _) (fun _ h => h.elim) _ _ h)); clear hb5))
    have HDR := Lib.hid (fun j k (hj : j < s.length) (hk : k < s[j].rels.length) => frR_drop hj hk)
    have HDT := Lib.hid (fun j (hj : j < s.length) => frN_drop (f := cycF s) hj)
    have HRL := Lib.hid (fun i (hi : i < s.length) => HK.out.rels _ (List.getElem_mem hi))
    generalize manyN s = top at *
    generalize hls : levS s = ls at *
    generalize cycF s = cf at *
    go_loopw [6] (fun i wr => ∃ j : Nat, j ≤ s.length ∧ i = .int .i64 j ∧ wr = w5 ∧ Hid (V = frN cf (s.drop j) j)) (fun i _ => s.length - (intOf i).toNat)
    case atStart => exact ⟨0, by omega, rfl, rfl, HV2⟩
    case round =>
      obtain ⟨j, hj, rfl, rfl, H⟩ := hrel
      obtain ⟨x0, v0, v1, v2, f0, f1, f2⟩ := HX5.out
      by_cases hjl : j < s.length
      · have hjl2 : ((j : Int) < (s.length : Int)) := by omega
        have hll : j < ls.length := by rw [HLL.out.1]; exact hjl
        have hle := HLL.out.2 j hjl hll
        obtain ⟨b, off, A1, c1, rfl, hz, hrow⟩ := HI5.out.row hll
        rw [hle] at hz
        have HZ := Lib.hid hz
        have HN : Hid (V = orF (frRow (cf j) j (s[j].rels.drop 0) 0) (frN cf (s.drop (j + 1)) (j + 1))) := Lib.hid (by rw [H.out, HDT.out j hjl, List.drop_zero])
        have HDJ := Lib.hid (fun k (hk : k < s[j].rels.length) => HDR.out j k hjl hk)
        have hr16 := HRL.out j hjl
        have HROW := Lib.hid (fun k (hk : k < s[j].rels.length) => by
          have hk2 : k < ls[j].length := by rw [hle]; exact hk
          obtain ⟨b1, off1, hA, hc⟩ := hrow k hk2
          have hg : lvG ls (j, k) = ls[j][k] := (lvG_at (l := ls) (x := (j, k)) ⟨hll, by rw [List.getD_eq_getElem?_getD, List.getElem?_eq_getElem hll]; exact hk2⟩).2.2
          rw [← hg] at hc
          exact (⟨b1, off1, hA, hc⟩ : ∃ b1 off1, A1 = some ⟨b1, off1, none⟩ ∧ wr.cell? ⟨b1, off1 + k, none⟩ = some (nv (lvG ls (j, k)))))
        clear hrow hle H
        generalize s[j].rels = rx at *
        go_wp2_with fail
        clear hz x0 v0 v1 v2 f0 f1 f2
        go_loopw [7] (fun i w6 => ∃ k : Nat, k ≤ rx.length ∧ i = .int .i64 k ∧ w6 = wr ∧ Hid (V = orF (frRow (cf j) j (rx.drop k) k) (frN cf (s.drop (j + 1)) (j + 1)))) (fun i _ => rx.length - (intOf i).toNat)
        case atStart => exact ⟨0, by omega, rfl, rfl, HN⟩
        case round =>
          clear HN
          obtain ⟨k, hk, rfl, rfl, H⟩ := hrel
          obtain ⟨x0, v0, v1, v2, f0, f1, f2⟩ := HX5.out
          have hz := HZ.out
          by_cases hkl : k < rx.length
          · have hkl2 : ((k : Int) < (rx.length : Int)) := by omega
            obtain ⟨b1, off1, rfl, hcell⟩ := HROW.out k hkl
            have hD := HDJ.out k hkl
            generalize lvG ls (j, k) = val at *
            by_cases hv : top < val
            · have HE : Hid (V = ((j : Int), (k : Int), 11)) := Lib.hid (by rw [H.out, hD, if_pos hv])
              have hv1 : (top : Int) < (val : Int) := by omega
              clear hD
              go_wp2_with fail
              refine bodyPost_ret (v := .agg #[.int .i64 (j), .int .i64 (k), .int .i64 (11)]) (by simp [results, Tryz.results11, go_sem, v0, v1, v2]) rfl ?_
              exact ⟨by rw [HE.out] <;> rfl, (((HF.out _ HB5.out).setCell (p := ⟨W.heap.size + 1, 0, none⟩) (Nat.le_succ _) _).setCell (p := ⟨W.heap.size + 1, 1, none⟩) (Nat.le_succ _) _).setCell (p := ⟨W.heap.size + 1, 2, none⟩) (Nat.le_succ _) _⟩
            · have HE : Hid (V = orF (frRow (cf j) j (rx.drop (k + 1)) (k + 1)) (frN cf (s.drop (j + 1)) (j + 1))) := Lib.hid (by rw [H.out, hD, if_neg hv])
              have hv1 : (val : Int) ≤ (top : Int) := by omega
              clear hD
              go_wp2_with fail
              go_roundw
              case rel => exact ⟨k + 1, by omega, by go_num, (by first | rfl | trivial), HE⟩
              case measure => simp [intOf]; omega
          · have hkl2 : ¬ ((k : Int) < (rx.length : Int)) := by omega
            have HE : Hid (V = frN cf (s.drop (j + 1)) (j + 1)) := Lib.hid (by rw [H.out, List.drop_of_length_le (l := rx) (i := k) (by omega)]; rfl)
            go_wp2_with fail
            go_roundw
            case rel => exact ⟨j + 1, by omega, by go_num, (by first | rfl | trivial), HE⟩
            case measure => simp [intOf]; omega
      · have HE : Hid (V = (0, 0, 0)) := Lib.hid (by rw [H.out, List.drop_of_length_le (by omega)]; rfl)
        have hjl2 : ¬ ((j : Int) < (s.length : Int)) := by omega
        go_wp2_with fail
        refine bodyPost_ret (v := .agg #[.int .i64 (0), .int .i64 (0), .int .i64 (0)]) (by simp [results, Tryz.results11, go_sem, v0, v1, v2]) rfl ?_
        exact ⟨by rw [HE.out] <;> rfl, (((HF.out _ HB5.out).setCell (p := ⟨W.heap.size + 1, 0, none⟩) (Nat.le_succ _) _).setCell (p := ⟨W.heap.size + 1, 1, none⟩) (Nat.le_succ _) _).setCell (p := ⟨W.heap.size + 1, 2, none⟩) (Nat.le_succ _) _⟩
  · have HE : Hid (V = (p1, p2, p3)) := Lib.hid (by rw [HV.out, if_pos hp])
    have q1 : ¬ (p3 : Int) = 0 := by omega
    have q2 : ((p3 : Int) != 0) = true := bne_iff_ne.2 q1
    clear hp HRO HV
    go_enter Tryz.func11, Tryz.ntmps11
    go_wp2_with (go_at_call 17; rw [← HW.out]; (refine HP.out.mono ?_); rintro r w2 ⟨rfl, hb2⟩; clear hx0; have HB3 := Lib.hid (hb2.alloc hb2.size (.cells #[.int .i64 p1, .int .i64 p2, .int .i64 (p3 : Int)] 33)); have hk3 := Blk.new w2 [.int .i64 p1, .int .i64 p2, .int .i64 (p3 : Int)] 33; have y0 := hk3.cell (i := 0) (by simp); have y1 := hk3.cell (i := 1) (by simp); have y2 := hk3.cell (i := 2) (by simp); simp only [List.getElem_cons_zero, List.getElem_cons_succ] at y0 y1 y2; obtain ⟨x0, v0, v1, v2, f0, f1, f2⟩ := HX.out _ HB3.out; clear hb2 hk3)
    refine bodyPost_ret (v := .agg #[.int .i64 (p1), .int .i64 (p2), .int .i64 (p3)]) (by simp [results, Tryz.results11, go_sem, v0, v1, v2]) rfl ?_
    exact ⟨by rw [HE.out] <;> rfl, (((HF.out _ HB3.out).setCell (p := ⟨W.heap.size + 1, 0, none⟩) (Nat.le_succ _) _).setCell (p := ⟨W.heap.size + 1, 1, none⟩) (Nat.le_succ _) _).setCell (p := ⟨W.heap.size + 1, 2, none⟩) (Nat.le_succ _) _⟩
end Go.Proofs.YtdnhbledndgbcaaGreat
namespace Go.Proofs.YtdnhbledndgbcaaGreat
open Go.RowKit
def ReadAs (W : World) (sc : Sc) (e : Ending) (w' : World) : Prop := ∃ A c, e = .returned (.agg #[.slice A sc.length c]) ∧ ScAt w' (fun b => b < W.heap.size) A sc ∧ (sc.length ≤ 5000 ∧ sc.length ≤ c) ∧ Below W.heap.size W w'
set_option maxRecDepth 100000 in
set_option maxHeartbeats 2000000 in
theorem read_any (s : ByteArray) (W : World) (hm : s.size ≤ 5000) :
    Calls Tryz.prog 12 #[.string s] W (ReadAs W (parseT s.data.toList).1) := by
  obtain ⟨R, hR⟩ : ∃ R, R = parseT s.data.toList := ⟨_, rfl⟩
  rw [← hR]
  obtain ⟨W1, hW⟩ : ∃ W1, W1 = W.alloc (.cells #[.slice none 0 0] 24) := ⟨_, rfl⟩
  have HKA : Hid (Blk W1 W.heap.size [.slice none 0 0] 24) := by rw [hW]; exact Lib.hid (Blk.new W _ _)
  have HB0 : Hid (Below W.heap.size W W1) := by rw [hW]; exact Lib.hid ((Below.refl _ _).alloc (Nat.le_refl _) _)
  have HP := Lib.hid (dparse_any s W1 hm)
  rw [← hR] at HP
  obtain ⟨sc, d1, d2, d3⟩ := R
  have HW := Lib.hid hW
  clear hW hR
  go_enter Tryz.func12, Tryz.ntmps12
  go_wp2_with (go_at_call 19; rw [← HW.out]; (refine HP.out.mono ?_); rintro r w2 ⟨A2, c2, rfl, hs2, hl2, hb2⟩; have HS2 := Lib.hid hs2; have HL2 := Lib.hid hl2; have HB2 := Lib.hid hb2; clear hs2 hl2 hb2; dsimp only; obtain ⟨w4, hw4⟩ : ∃ w4, w4 = (w2.alloc (.cells #[.slice A2 sc.length c2] 24)).alloc (.cells #[.int .i64 (d1 : Int), .int .i64 (d2 : Int), .int .i64 (d3 : Int)] 57) := ⟨_, rfl⟩; have HW4 := Lib.hid hw4; have HB4 : Hid (Below w2.heap.size w2 w4) := (by rw [hw4]; exact Lib.hid (((Below.refl _ _).alloc (Nat.le_refl _) _).alloc (by simp) _)); have hk4 : Blk w4 w2.heap.size [.slice A2 sc.length c2] 24 := (by rw [hw4]; exact (Blk.new _ _ _).alloc _); have hka := (HKA.out.below HB2.out HKA.out.lt).below HB4.out (HKA.out.below HB2.out HKA.out.lt).lt; have v0 := hk4.cell (i := 0) (by simp); have v1 := hka.cell (i := 0) (by simp); have f1 := hka.free 0; simp only [List.getElem_cons_zero] at v0 v1; rw [hw4] at v0 v1 f1; clear hw4 hk4 hka)
  rw [← HW4.out]
  rw [← HW4.out] at v1
  refine bodyPost_ret (v := .agg #[.slice A2 sc.length c2]) (by simp [results, Tryz.results12, go_sem, v1]) rfl ?_
  have hb := (HB0.out.trans (HB2.out.mono HB0.out.size)).trans (HB4.out.mono (by have := HB0.out.size; have := HB2.out.size; omega))
  have hsp : Spared w2 (w4.setCell ⟨W.heap.size, 0, none⟩ (.slice A2 sc.length c2)) (fun b => b < W1.heap.size) := by
    have hF : (fun b => b < W1.heap.size) W.heap.size := HKA.out.lt
    exact Spared.setCell (F := fun b => b < W1.heap.size) (g := W.heap.size) (Spared.of_below HB4.out _) hF _ _
  exact ⟨A2, c2, rfl, ScAt.moved hsp (fun i hi => .inl (by have := HB0.out.size; have hi : i < W.heap.size := hi; show i < W1.heap.size; omega)) HS2.out, HL2.out, hb.setCell (p := ⟨W.heap.size, 0, none⟩) (Nat.le_refl _) _⟩
theorem IlAt.below {W W' : World} {F : Nat → Prop} {A : Option Addr} {l : List (List Nat)} (h : IlAt W F A l) (hb : Below W.heap.size W W') : IlAt W' F A l :=
  h.moved (Spared.of_below hb F) (fun _ h => .inl h) (fun _ _ _ h => keeps_ir _ _ _ _ (Spared.of_below hb F) (fun _ h => .inl h) _ _ h)
theorem cons_dec {α : Type} [DecidableEq α] (x y : α) (r s : List α) : decide (x :: r = y :: s) = (decide (x = y) && decide (r = s)) := by
  by_cases h1 : x = y <;> by_cases h2 : r = s <;> simp [h1, h2]
theorem rows_drop {a b : List (List Nat)} {i : Nat} (ha : i < a.length) (hb : i < b.length) : decide (a.drop i = b.drop i) = (decide (a[i] = b[i]) && decide (a.drop (i + 1) = b.drop (i + 1))) := by
  rw [List.drop_eq_getElem_cons ha, List.drop_eq_getElem_cons hb, ← cons_dec]
theorem row_drop {a b : List Nat} {i : Nat} (ha : i < a.length) (hb : i < b.length) (q : Bool) : (decide (a.drop i = b.drop i) && q) = (decide (a[i] = b[i]) && (decide (a.drop (i + 1) = b.drop (i + 1)) && q)) := by
  rw [List.drop_eq_getElem_cons ha, List.drop_eq_getElem_cons hb, ← Bool.and_assoc, ← cons_dec]
theorem IlAt.rowB {w : World} {F : Nat → Prop} {A : Option Addr} {ls : List (List Nat)} (h : IlAt w F A ls) {i : Nat} (hi : i < ls.length) :
    ∃ b off A1 c1, A = some ⟨b, off, none⟩ ∧ (∀ w', Below w.heap.size w w' → w'.cell? ⟨b, off + i, none⟩ = some (.slice A1 ls[i].length c1)) ∧ ∀ j (hj : j < ls[i].length), ∃ b1 off1, A1 = some ⟨b1, off1, none⟩ ∧ ∀ w', Below w.heap.size w w' → w'.cell? ⟨b1, off1 + j, none⟩ = some (nv ls[i][j]) := by
  obtain ⟨b, off, A1, c1, hA, hz, hrow⟩ := h.row hi
  refine ⟨b, off, A1, c1, hA, fun w' hw => (hw.cell (World.block_lt_of_cell? w _ hz)).trans hz, fun j hj => ?_⟩
  obtain ⟨b1, off1, hA1, hc⟩ := hrow j hj
  exact ⟨b1, off1, hA1, fun w' hw => (hw.cell (World.block_lt_of_cell? w _ hc)).trans hc⟩
set_option maxRecDepth 100000 in
set_option maxHeartbeats 4000000 in
theorem levelsEq_any (a b : List (List Nat)) (F G : Nat → Prop) (A B : Option Addr) (c d : Nat) (W : World) (ha : IlAt W F A a) (hb : IlAt W G B b) (hal : a.length ≤ 1000000) (har : ∀ x ∈ a, x.length ≤ 1000000) (hbr : ∀ x ∈ b, x.length ≤ 1000000) :
    Calls Tryz.prog 9 #[.slice A a.length c, .slice B b.length d] W fun r w' => r = .returned (.bool (decide (a = b))) ∧ Below W.heap.size W w' := by
  obtain ⟨v, hv⟩ : ∃ v, v = decide (a = b) := ⟨_, rfl⟩
  rw [← hv]
  by_cases hlen : a.length = b.length
  · have HV : Hid (v = decide (a.drop 0 = b.drop 0)) := Lib.hid (by rw [hv, List.drop_zero, List.drop_zero])
    have HA := Lib.hid ha
    have HB := Lib.hid hb
    have HLN := Lib.hid hlen
    have HAR := Lib.hid har
    have HBR := Lib.hid hbr
    have hd : ((a.length : Int) != (b.length : Int)) = false := by rw [hlen]; simp
    clear hv ha hb har hbr
    obtain ⟨n, hn⟩ : ∃ n, n = a.length := ⟨_, rfl⟩
    have hnb : n = b.length := by omega
    have HNA := Lib.hid hn
    have HNB := Lib.hid hnb
    rw [← hn] at hal ⊢
    rw [← hnb]
    clear hn hnb hlen hd
    go_enter Tryz.func9, Tryz.ntmps9
    go_wp2_with fail
    go_loopw [5] (fun i wr => ∃ j : Nat, j ≤ n ∧ i = .int .i64 j ∧ Hid (v = decide (a.drop j = b.drop j)) ∧ Hid (Below W.heap.size W wr)) (fun i _ => n - (intOf i).toNat)
    case atStart => exact ⟨0, by omega, rfl, HV, Lib.hid (Below.refl _ _)⟩
    case round =>
      obtain ⟨j, hj, rfl, H, BW⟩ := hrel
      by_cases hjl : j < n
      · have hja : j < a.length := by rw [← HNA.out]; exact hjl
        have hjb : j < b.length := by rw [← HNB.out]; exact hjl
        have HD := Lib.hid (rows_drop hja hjb)
        obtain ⟨g, og, A1, c1, rfl, hz, hrow⟩ := HA.out.rowB hja
        obtain ⟨g2, og2, B1, d1, rfl, hz2, hrow2⟩ := HB.out.rowB hjb
        have hla := HAR.out _ (List.getElem_mem hja)
        have hlb := HBR.out _ (List.getElem_mem hjb)
        have HZA := Lib.hid hz
        have HZB := Lib.hid hz2
        have HRA := Lib.hid hrow
        have HRB := Lib.hid hrow2
        have H2 : Hid (v = (decide (a[j] = b[j]) && decide (a.drop (j + 1) = b.drop (j + 1)))) := Lib.hid (by rw [H.out, HD.out])
        clear hrow hrow2 hz hz2 HD H
        generalize a[j] = x at *
        generalize b[j] = y at *
        have y0 := HZA.out wr BW.out
        have y1 := HZB.out wr BW.out
        by_cases hxy : x.length = y.length
        · have H3 : Hid (v = (decide (x.drop 0 = y.drop 0) && decide (a.drop (j + 1) = b.drop (j + 1)))) := Lib.hid (by rw [H2.out, List.drop_zero, List.drop_zero])
          obtain ⟨m, hm⟩ : ∃ m, m = x.length := ⟨_, rfl⟩
          have hmy : m = y.length := by omega
          have HMX := Lib.hid hm
          have HMY := Lib.hid hmy
          rw [← hm] at hla y0
          rw [← hmy] at y1
          have HZA : Hid (∀ w', Below W.heap.size W w' → w'.cell? ⟨g, og + j, none⟩ = some (.slice A1 m c1)) := by rw [hm]; exact HZA
          have HZB : Hid (∀ w', Below W.heap.size W w' → w'.cell? ⟨g2, og2 + j, none⟩ = some (.slice B1 m d1)) := by rw [hmy]; exact HZB
          clear hm hmy hxy H2 hlb
          go_wp2_with fail
          go_quiet (fail)
          go_wp2_with fail
          clear y0 y1
          generalize hwq : wr.drewN _ = wq
          have BQ : Hid (Below W.heap.size W wq) := by rw [← hwq]; exact Lib.hid (below_drewN BW.out _)
          clear hwq
          go_loopw [6] (fun i w4 => ∃ k : Nat, k ≤ m ∧ i = .int .i64 k ∧ Hid (v = (decide (x.drop k = y.drop k) && decide (a.drop (j + 1) = b.drop (j + 1)))) ∧ Hid (Below W.heap.size W w4)) (fun i _ => m - (intOf i).toNat)
          case atStart => exact ⟨0, by omega, rfl, H3, BQ⟩
          case round =>
            rename World => w4
            clear H3 BQ
            obtain ⟨k, hk, rfl, H4, B4⟩ := hrel
            have y0 := HZA.out w4 B4.out
            have y1 := HZB.out w4 B4.out
            by_cases hkl : k < m
            · have hkx : k < x.length := by rw [← HMX.out]; exact hkl
              have hky : k < y.length := by rw [← HMY.out]; exact hkl
              have HR := Lib.hid (row_drop hkx hky (decide (a.drop (j + 1) = b.drop (j + 1))))
              obtain ⟨g3, og3, rfl, hc3⟩ := HRA.out k hkx
              obtain ⟨g4, og4, rfl, hc4⟩ := HRB.out k hky
              have y2 := hc3 w4 B4.out
              have y3 := hc4 w4 B4.out
              have H5 : Hid (v = (decide (x[k] = y[k]) && (decide (x.drop (k + 1) = y.drop (k + 1)) && decide (a.drop (j + 1) = b.drop (j + 1))))) := Lib.hid (by rw [H4.out, HR.out])
              clear hc3 hc4 HR H4
              generalize x[k] = p at *
              generalize y[k] = q at *
              by_cases hpq : p = q
              · have H6 : Hid (v = (decide (x.drop (k + 1) = y.drop (k + 1)) && decide (a.drop (j + 1) = b.drop (j + 1)))) := Lib.hid (by rw [H5.out, decide_eq_true hpq, Bool.true_and])
                subst hpq
                clear H5
                go_wp2_with fail
                go_quiet (fail)
                go_wp2_with fail
                go_roundw
                case rel => exact ⟨k + 1, by omega, by go_num, H6, Lib.hid (below_drewN B4.out _)⟩
                case measure => simp [intOf]; omega
              · have H6 : Hid (v = false) := Lib.hid (by rw [H5.out, decide_eq_false hpq, Bool.false_and])
                have hq1 : ((p : Int) != (q : Int)) = true := bne_iff_ne.2 (by omega)
                have hq2 : ¬ ((p : Int) = (q : Int)) := by omega
                clear H5 hpq
                go_wp2_with fail
                go_quiet (fail)
                go_wp2_with fail
                go_ret
                exact ⟨by rw [H6.out]; rfl, below_drewN B4.out _⟩
            · have H6 : Hid (v = decide (a.drop (j + 1) = b.drop (j + 1))) := Lib.hid (by rw [H4.out, List.drop_of_length_le (l := x) (i := k) (by have := HMX.out; omega), List.drop_of_length_le (l := y) (i := k) (by have := HMY.out; omega)]; simp)
              go_wp2_with fail
              go_roundw
              case rel => exact ⟨j + 1, by omega, by go_num, H6, B4⟩
              case measure => simp [intOf]; omega
        · have H3 : Hid (v = false) := Lib.hid (by rw [H2.out, decide_eq_false (fun h => hxy (by rw [h])), Bool.false_and])
          have hq1 : ((x.length : Int) != (y.length : Int)) = true := bne_iff_ne.2 (by omega)
          have hq2 : ¬ ((x.length : Int) = (y.length : Int)) := by omega
          clear H2 hxy
          go_wp2_with fail
          go_quiet (fail)
          go_wp2_with fail
          go_ret
          exact ⟨by rw [H3.out]; rfl, below_drewN BW.out _⟩
      · have H3 : Hid (v = true) := Lib.hid (by rw [H.out, List.drop_of_length_le (l := a) (i := j) (by have := HNA.out; omega), List.drop_of_length_le (l := b) (i := j) (by have := HNB.out; omega)]; simp)
        go_wp2_with fail
        go_ret
        exact ⟨by rw [H3.out]; rfl, BW.out⟩
  · have H3 : Hid (v = false) := Lib.hid (by rw [hv, decide_eq_false (fun h => hlen (by rw [h]))])
    have hq1 : ((a.length : Int) != (b.length : Int)) = true := bne_iff_ne.2 (by omega)
    have hq2 : ¬ ((a.length : Int) = (b.length : Int)) := by omega
    clear hv hlen ha hb har hbr
    go_enter Tryz.func9, Tryz.ntmps9
    go_wp2_with fail
    go_ret
    exact ⟨by rw [H3.out]; rfl, Below.refl _ _⟩
end Go.Proofs.YtdnhbledndgbcaaGreat
