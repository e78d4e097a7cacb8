/-
  All that is wrong with a schema but a cycle (conciergeref12's plain). Condition: the schema is there.
-/
import Derived.Test.YtdnhbledndgbcaaGreatCRuN
namespace Go.Proofs.YtdnhbledndgbcaaGreat
open Go.RowKit
theorem firstN_drop {α : Type} {p : Nat → α → Bool} {l : List α} {j : Nat} (h : j < l.length) : firstN p (l.drop j) j = if p j l[j] then some j else firstN p (l.drop (j + 1)) (j + 1) := by
  rw [List.drop_eq_getElem_cons h, firstN]
theorem twiceTs_drop {l : Sc} {j : Nat} (h : j < l.length) : twiceTs j (l.drop j) = match twiceR l[j].rels with | some k => some ((j : Int), (k : Int), 7) | none => twiceTs (j + 1) (l.drop (j + 1)) := by
  rw [List.drop_eq_getElem_cons h, twiceTs]
  cases twiceR l[j].rels <;> rfl
theorem badR_drop {s : Sc} {t : Nat} {l : List Rl} {j : Nat} (h : j < l.length) : badR s t (l.drop j) j = if namesN s t l[j] ≠ 0 then some ((t : Int), (j : Int), namesN s t l[j]) else badR s t (l.drop (j + 1)) (j + 1) := by
  rw [List.drop_eq_getElem_cons h, badR]
theorem badT_drop {s l : Sc} {j : Nat} (h : j < l.length) : badT s (l.drop j) j = match badR s j l[j].rels 0 with | some f => some f | none => badT s (l.drop (j + 1)) (j + 1) := by
  rw [List.drop_eq_getElem_cons h, badT]
  cases badR s j l[j].rels 0 <;> rfl
abbrev faV (f : Fa) : Value := .agg #[.int .i64 f.1, .int .i64 f.2.1, .int .i64 (f.2.2 : Int)]
def orF (f : Option Fa) (d : Fa) : Fa := match f with | some f => f | none => d
def numF (e : Nat) (t : Option Nat) : Option Fa := t.map fun t => ((t : Int), -1, e)
def plain4 (s : Sc) : Fa := orF (badT s s 0) (0, 0, 0)
def plain3 (s : Sc) : Fa := orF (twiceTs 0 s) (plain4 s)
def plain2 (s : Sc) : Fa := orF (numF 7 (firstN (fun i (x : Ty) => decide (typN s x.name < i)) s 0)) (plain3 s)
def plain1 (s : Sc) : Fa := orF (numF 2 (firstN (fun _ (x : Ty) => decide (16 < x.rels.length)) s 0)) (plain2 s)
theorem plain_eq (s : Sc) : plainN s = if mayS s = false ∨ s.length = 0 then (0, -1, 1) else if 16 < s.length then (0, -1, 2) else plain1 s := by
  unfold plainN plain1 plain2 plain3 plain4
  split
  · rfl
  · split
    · rfl
    · cases firstN (fun _ (x : Ty) => decide (16 < x.rels.length)) s 0 with
      | some t => rfl
      | none => cases firstN (fun i (x : Ty) => decide (typN s x.name < i)) s 0 with
        | some t => rfl
        | none => cases twiceTs 0 s with
          | some f => rfl
          | none => cases badT s s 0 <;> rfl
set_option maxRecDepth 100000 in
set_option maxHeartbeats 4000000 in
theorem rplain_any (s : Sc) (A : Option Addr) (c : Nat) (hl : s.length ≤ 9223372036854775807) (F : Nat → Prop) (W : World) (hs : ScAt W F A s) :
    Calls Tryz.prog 17 #[.agg #[.slice A s.length c]] W fun r w' => r = .returned (faV (plainN s)) ∧ Below W.heap.size W w' := by
  obtain ⟨v, hv⟩ : ∃ v, v = plainN s := ⟨_, rfl⟩
  rw [← hv]
  rw [plain_eq] at hv
  obtain ⟨W1, hW⟩ : ∃ W1, W1 = (W.alloc (.cells #[.slice A s.length c] 24)).alloc (.cells #[.int .i64 0, .int .i64 0, .int .i64 0] 33) := ⟨_, rfl⟩
  have HKA : Hid (Blk W1 W.heap.size [.slice A s.length c] 24) := by rw [hW]; exact Lib.hid ((Blk.new W _ _).alloc _)
  have HKE : Hid (Blk W1 (W.heap.size + 1) [.int .i64 0, .int .i64 0, .int .i64 0] 33) := by
    rw [hW]
    have := Blk.new (W.alloc (.cells #[.slice A s.length c] 24)) [.int .i64 0, .int .i64 0, .int .i64 0] 33
    rw [World.size_alloc] at this
    exact Lib.hid this
  have HB0 : Hid (Below W.heap.size W W1) := by rw [hW]; exact Lib.hid (((Below.refl _ _).alloc (Nat.le_refl _) _).alloc (by simp) _)
  have HW := Lib.hid hW
  have HV := Lib.hid hv
  have HX : Hid (∀ w, Below W1.heap.size W1 w → w.cell? ⟨W.heap.size, 0, none⟩ = some (.slice A s.length c) ∧ w.cell? ⟨W.heap.size + 1, 0, none⟩ = some (.int .i64 0) ∧ w.cell? ⟨W.heap.size + 1, 1, none⟩ = some (.int .i64 0) ∧ w.cell? ⟨W.heap.size + 1, 2, none⟩ = some (.int .i64 0) ∧ w.frozen? ⟨W.heap.size + 1, 0, none⟩ = false ∧ w.frozen? ⟨W.heap.size + 1, 1, none⟩ = false ∧ w.frozen? ⟨W.heap.size + 1, 2, none⟩ = false) := Lib.hid (fun w hw => by
    have h1 := HKA.out.below hw HKA.out.lt
    have h2 := HKE.out.below hw HKE.out.lt
    exact ⟨h1.cell (i := 0) (by simp), h2.cell (i := 0) (by simp), h2.cell (i := 1) (by simp), h2.cell (i := 2) (by simp), h2.free 0, h2.free 1, h2.free 2⟩)
  have HF : Hid (∀ w, Below W1.heap.size W1 w → Below W.heap.size W w) := Lib.hid (fun w hw => HB0.out.trans (hw.mono HB0.out.size))
  have HS : Hid (∀ w, Below W1.heap.size W1 w → ScAt w F A s) := Lib.hid (fun w hw => hs.below (HF.out w hw))
  have HR : Hid (RowAt 2 TyAt W F A s) := Lib.hid hs
  have HM := Lib.hid (may_any s W1 F A c (HS.out W1 (Below.refl _ _)) hl)
  clear hW hs hv
  obtain ⟨q, hq⟩ : ∃ q, mayS s = q := ⟨_, rfl⟩
  rw [hq] at HM HV
  clear hq
  cases q
  · have HV2 : Hid (v = (0, -1, 1)) := Lib.hid (by rw [HV.out, if_pos (.inl rfl)])
    go_enter Tryz.func17, Tryz.ntmps17
    go_wp2_with (go_at_call 36; rw [← HW.out]; refine HM.out.mono ?_; rintro r w5 ⟨rfl, hb5⟩; have HB5 := Lib.hid hb5; obtain ⟨x0, v0, v1, v2, f0, f1, f2⟩ := HX.out w5 hb5; clear hb5)
    refine bodyPost_ret (v := .agg #[.int .i64 (0), .int .i64 (-1), .int .i64 (1)]) (by simp [results, Tryz.results17, go_sem, v0, v1, v2]) rfl ?_
    exact ⟨by rw [HV2.out] <;> rfl, (((HF.out w5 HB5.out).setCell (p := ⟨W.heap.size + 1, 0, none⟩) (Nat.le_succ _) _).setCell (p := ⟨W.heap.size + 1, 1, none⟩) (Nat.le_succ _) _).setCell (p := ⟨W.heap.size + 1, 2, none⟩) (Nat.le_succ _) _⟩
  have HV : Hid (v = if s.length = 0 then (0, -1, 1) else if 16 < s.length then (0, -1, 2) else plain1 s) := Lib.hid (by
    rw [HV.out]
    by_cases h0 : s.length = 0
    · rw [if_pos (.inr h0), if_pos h0]
    · rw [if_neg (fun h => h.elim (fun h => nomatch h) h0), if_neg h0])
  by_cases h0 : s.length = 0
  · have HV2 : Hid (v = (0, -1, 1)) := Lib.hid (by rw [HV.out, if_pos h0])
    have hd : ((s.length : Int) == 0) = true := beq_iff_eq.2 (by omega)
    clear h0
    go_enter Tryz.func17, Tryz.ntmps17
    go_wp2_with (go_at_call 36; rw [← HW.out]; refine HM.out.mono ?_; rintro r w5 ⟨rfl, hb5⟩; have HB5 := Lib.hid hb5; obtain ⟨x0, v0, v1, v2, f0, f1, f2⟩ := HX.out w5 hb5; clear hb5)
    refine bodyPost_ret (v := .agg #[.int .i64 (0), .int .i64 (-1), .int .i64 (1)]) (by simp [results, Tryz.results17, go_sem, v0, v1, v2]) rfl ?_
    exact ⟨by rw [HV2.out] <;> rfl, (((HF.out w5 HB5.out).setCell (p := ⟨W.heap.size + 1, 0, none⟩) (Nat.le_succ _) _).setCell (p := ⟨W.heap.size + 1, 1, none⟩) (Nat.le_succ _) _).setCell (p := ⟨W.heap.size + 1, 2, none⟩) (Nat.le_succ _) _⟩
  have hd0 : ((s.length : Int) == 0) = false := beq_eq_false_iff_ne.2 (by omega)
  by_cases h16 : 16 < s.length
  · have HV2 : Hid (v = (0, -1, 2)) := Lib.hid (by rw [HV.out, if_neg h0, if_pos h16])
    have hd : decide (16 < s.length) = true := decide_eq_true h16
    have hd1 : (16 : Int) < (s.length : Int) := by omega
    clear h0 h16
    go_enter Tryz.func17, Tryz.ntmps17
    go_wp2_with (go_at_call 36; rw [← HW.out]; refine HM.out.mono ?_; rintro r w5 ⟨rfl, hb5⟩; have HB5 := Lib.hid hb5; obtain ⟨x0, v0, v1, v2, f0, f1, f2⟩ := HX.out w5 hb5; clear hb5)
    refine bodyPost_ret (v := .agg #[.int .i64 (0), .int .i64 (-1), .int .i64 (2)]) (by simp [results, Tryz.results17, go_sem, v0, v1, v2]) rfl ?_
    exact ⟨by rw [HV2.out] <;> rfl, (((HF.out w5 HB5.out).setCell (p := ⟨W.heap.size + 1, 0, none⟩) (Nat.le_succ _) _).setCell (p := ⟨W.heap.size + 1, 1, none⟩) (Nat.le_succ _) _).setCell (p := ⟨W.heap.size + 1, 2, none⟩) (Nat.le_succ _) _⟩
  have hd : decide (16 < s.length) = false := decide_eq_false h16
  have hd1 : (s.length : Int) ≤ 16 := by omega
  have HV2 : Hid (v = orF (numF 2 (firstN (fun _ (x : Ty) => decide (16 < x.rels.length)) (s.drop 0) 0)) (plain2 s)) := Lib.hid (by rw [HV.out, if_neg h0, if_neg h16]; rfl)
  clear h0 HV
  go_enter Tryz.func17, Tryz.ntmps17
  go_wp2_with (go_at_call 36; rw [← HW.out]; refine HM.out.mono ?_; rintro r w5 ⟨rfl, hb5⟩; have HB5 := Lib.hid hb5; obtain ⟨x0, v0, v1, v2, f0, f1, f2⟩ := HX.out w5 hb5; clear hb5)
  clear x0 v0 v1 v2 f0 f1 f2 HM
  go_loopw [4] (fun i wr => ∃ j : Nat, j ≤ s.length ∧ i = .int .i64 j ∧ Hid (v = orF (numF 2 (firstN (fun _ (x : Ty) => decide (16 < x.rels.length)) (s.drop j) j)) (plain2 s)) ∧ Hid (Below W1.heap.size W1 wr)) (fun i _ => s.length - (intOf i).toNat)
  case atStart => exact ⟨0, by omega, rfl, HV2, HB5⟩
  case round =>
    obtain ⟨j, hj, rfl, HA, BW⟩ := hrel
    obtain ⟨x0, v0, v1, v2, f0, f1, f2⟩ := HX.out wr BW.out
    by_cases hlt : j < s.length
    · obtain ⟨b, off, B, d, rfl, ⟨_, hrl⟩, _, hc⟩ := HR.out.ty hlt
      obtain ⟨z0, z1⟩ := hc wr (HF.out wr BW.out)
      have HD := Lib.hid (firstN_drop (p := fun _ (x : Ty) => decide (16 < x.rels.length)) hlt)
      clear hc
      generalize s[j].rels = rx at *
      by_cases hrx : 16 < rx.length
      · have HN : Hid (v = ((j : Int), -1, 2)) := Lib.hid (by rw [HA.out, HD.out, if_pos (decide_eq_true hrx)]; rfl)
        have hq : decide (16 < rx.length) = true := decide_eq_true hrx
        have hq1 : (16 : Int) < (rx.length : Int) := by omega
        clear hrx
        go_wp2_with fail
        refine bodyPost_ret (v := .agg #[.int .i64 (j), .int .i64 (-1), .int .i64 (2)]) (by simp [results, Tryz.results17, go_sem, v0, v1, v2]) rfl ?_
        exact ⟨by rw [HN.out] <;> rfl, (((HF.out wr BW.out).setCell (p := ⟨W.heap.size + 1, 0, none⟩) (Nat.le_succ _) _).setCell (p := ⟨W.heap.size + 1, 1, none⟩) (Nat.le_succ _) _).setCell (p := ⟨W.heap.size + 1, 2, none⟩) (Nat.le_succ _) _⟩
      · have HN : Hid (v = orF (numF 2 (firstN (fun _ (x : Ty) => decide (16 < x.rels.length)) (s.drop (j + 1)) (j + 1))) (plain2 s)) := Lib.hid (by rw [HA.out, HD.out, if_neg (by rw [decide_eq_false hrx]; decide)])
        have hq : decide (16 < rx.length) = false := decide_eq_false hrx
        have hq1 : (rx.length : Int) ≤ 16 := by omega
        clear hrx
        go_wp2_with fail
        go_roundw
        case rel => exact ⟨j + 1, by omega, by go_num, HN, BW⟩
        case measure => simp [intOf]; omega
    · have HN : Hid (v = orF (numF 7 (firstN (fun i (x : Ty) => decide (typN s x.name < i)) (s.drop 0) 0)) (plain3 s)) := Lib.hid (by rw [HA.out, List.drop_of_length_le (by omega)]; rfl)
      go_wp2_with fail
      clear hlt HV2 HA x0 v0 v1 v2 f0 f1 f2
      go_loopw [5] (fun i w2 => ∃ j : Nat, j ≤ s.length ∧ i = .int .i64 j ∧ Hid (v = orF (numF 7 (firstN (fun i (x : Ty) => decide (typN s x.name < i)) (s.drop j) j)) (plain3 s)) ∧ Hid (Below W1.heap.size W1 w2)) (fun i _ => s.length - (intOf i).toNat)
      case atStart => exact ⟨0, by omega, rfl, HN, BW⟩
      case round =>
        rename World => w2
        clear HN BW
        obtain ⟨j, hj, rfl, HA, BW⟩ := hrel
        obtain ⟨x0, v0, v1, v2, f0, f1, f2⟩ := HX.out w2 BW.out
        by_cases hlt : j < s.length
        · obtain ⟨b, off, B, d, rfl, ⟨_, hrl⟩, _, hc⟩ := HR.out.ty hlt
          have HD := Lib.hid (firstN_drop (p := (fun i (x : Ty) => decide (typN s x.name < i))) hlt)
          generalize s[j].name = nx at *
          have hN : ∀ w, Below W1.heap.size W1 w → (Below W1.heap.size W1 w ∧ w.cell? ⟨W.heap.size, 0, none⟩ = some (.slice (some ⟨b, off, none⟩) s.length c) ∧ w.cell? ⟨b, off + j * 2, none⟩ = some (strV nx)) := fun w hw => ⟨hw, (HX.out w hw).1, (hc w (HF.out w hw)).1⟩
          have HTC : Hid (∀ w, (Below W1.heap.size W1 w ∧ w.cell? ⟨W.heap.size, 0, none⟩ = some (.slice (some ⟨b, off, none⟩) s.length c) ∧ w.cell? ⟨b, off + j * 2, none⟩ = some (strV nx)) → Calls Tryz.prog 37 #[.agg #[.slice (some ⟨b, off, none⟩) s.length c], strV nx] w fun r w' => r = .returned (.int .i64 (typN s nx)) ∧ (Below W1.heap.size W1 w' ∧ w'.cell? ⟨W.heap.size, 0, none⟩ = some (.slice (some ⟨b, off, none⟩) s.length c) ∧ w'.cell? ⟨b, off + j * 2, none⟩ = some (strV nx))) := Lib.hid (fun w hw => (rtyp_any s nx w F _ c (HS.out w hw.1) hl).mono (fun r w' h => ⟨h.1, hN w' (hop hw.1 h.2)⟩))
          have hS0 : (Below W1.heap.size W1 w2.drew ∧ w2.drew.cell? ⟨W.heap.size, 0, none⟩ = some (.slice (some ⟨b, off, none⟩) s.length c) ∧ w2.drew.cell? ⟨b, off + j * 2, none⟩ = some (strV nx)) := hN w2.drew BW.out.drew
          clear hc hN
          generalize typN s nx = ty at *
          go_wp2_with fail
          go_region_held_law (fun w => (Below W1.heap.size W1 w ∧ w.cell? ⟨W.heap.size, 0, none⟩ = some (.slice (some ⟨b, off, none⟩) s.length c) ∧ w.cell? ⟨b, off + j * 2, none⟩ = some (strV nx)))
            (assumption)
            (first
              | (go_at_call 37; with_reducible refine (HTC.out _ (by assumption)).mono ?_; rintro r w' ⟨rfl, hS'⟩))
          obtain ⟨x0, v0, v1, v2, f0, f1, f2⟩ := HX.out w' hS'.1
          have HB6 := Lib.hid hS'.1
          by_cases hty : ty < (j : Int)
          · have HN : Hid (v = ((j : Int), -1, 7)) := Lib.hid (by rw [HA.out, HD.out, if_pos (decide_eq_true hty)]; rfl)
            have hq : decide (ty < (j : Int)) = true := decide_eq_true hty
            go_wp2_with fail
            refine bodyPost_ret (v := .agg #[.int .i64 (j), .int .i64 (-1), .int .i64 (7)]) (by simp [results, Tryz.results17, go_sem, v0, v1, v2]) rfl ?_
            exact ⟨by rw [HN.out] <;> rfl, (((HF.out w' HB6.out).setCell (p := ⟨W.heap.size + 1, 0, none⟩) (Nat.le_succ _) _).setCell (p := ⟨W.heap.size + 1, 1, none⟩) (Nat.le_succ _) _).setCell (p := ⟨W.heap.size + 1, 2, none⟩) (Nat.le_succ _) _⟩
          · have HN : Hid (v = orF (numF 7 (firstN (fun i (x : Ty) => decide (typN s x.name < i)) (s.drop (j + 1)) (j + 1))) (plain3 s)) := Lib.hid (by rw [HA.out, HD.out, if_neg (by rw [decide_eq_false hty]; decide)])
            have hq : decide (ty < (j : Int)) = false := decide_eq_false hty
            have hq1 : (j : Int) ≤ ty := by omega
            go_wp2_with fail
            go_roundw
            case rel => exact ⟨j + 1, by omega, by go_num, HN, HB6⟩
            case measure => simp [intOf]; omega
        · have HN : Hid (v = orF (twiceTs 0 (s.drop 0)) (plain4 s)) := Lib.hid (by rw [HA.out, List.drop_of_length_le (by omega)]; rfl)
          go_wp2_with fail
          clear hlt HA x0 v0 v1 v2 f0 f1 f2
          go_loopw [6] (fun i w3 => ∃ j : Nat, j ≤ s.length ∧ i = .int .i64 j ∧ Hid (v = orF (twiceTs j (s.drop j)) (plain4 s)) ∧ Hid (Below W1.heap.size W1 w3)) (fun i _ => s.length - (intOf i).toNat)
          case atStart => exact ⟨0, by omega, rfl, HN, BW⟩
          case round =>
            rename World => w3
            clear HN BW
            obtain ⟨j, hj, rfl, HA, BW⟩ := hrel
            obtain ⟨x0, v0, v1, v2, f0, f1, f2⟩ := HX.out w3 BW.out
            by_cases hlt : j < s.length
            · have HD := Lib.hid (twiceTs_drop hlt)
              obtain ⟨b, off, B, d, rfl, ⟨_, hrl⟩, hr, hc⟩ := HR.out.ty hlt
              have HCT := Lib.hid (fun w hw => (hc w hw).2)
              have hof : ofT s (j : Int) = s[j].rels := ofT_at hlt
              have HOF := Lib.hid hof
              have HRX := Lib.hid hr
              have z1 := HCT.out w3 (HF.out w3 BW.out)
              clear hc hr hof
              generalize s[j].rels = rx at *
              have HN : Hid (v = orF (match firstN (fun k (r : Rl) => decide (relsN rx r.name < k)) (rx.drop 0) 0 with | some k => some ((j : Int), (k : Int), 7) | none => twiceTs (j + 1) (s.drop (j + 1))) (plain4 s)) := Lib.hid (by rw [HA.out, HD.out]; rfl)
              go_wp2_with fail
              clear HA HD x0 v0 v1 v2 f0 f1 f2 z1
              go_loopw [7] (fun i w4 => ∃ k : Nat, k ≤ rx.length ∧ i = .int .i64 k ∧ Hid (v = orF (match firstN (fun k (r : Rl) => decide (relsN rx r.name < k)) (rx.drop k) k with | some k => some ((j : Int), (k : Int), 7) | none => twiceTs (j + 1) (s.drop (j + 1))) (plain4 s)) ∧ Hid (Below W1.heap.size W1 w4)) (fun i _ => rx.length - (intOf i).toNat)
              case atStart => exact ⟨0, by omega, rfl, HN, BW⟩
              case round =>
                rename World => w4
                clear HN BW
                obtain ⟨k, hk, rfl, HA, BW⟩ := hrel
                obtain ⟨x0, v0, v1, v2, f0, f1, f2⟩ := HX.out w4 BW.out
                have z1 := HCT.out w4 (HF.out w4 BW.out)
                by_cases hkl : k < rx.length
                · have HD := Lib.hid (firstN_drop (p := (fun k (r : Rl) => decide (relsN rx r.name < k))) hkl)
                  obtain ⟨g, og, B1, c1, k1, p1, p2, E1, m2, c2, rfl, _, _, _, hcells⟩ := HRX.out.rl hkl
                  generalize rx[k].name = nx at *
                  have hN : ∀ w, Below W1.heap.size W1 w → (Below W1.heap.size W1 w ∧ w.cell? ⟨W.heap.size, 0, none⟩ = some (.slice (some ⟨b, off, none⟩) s.length c) ∧ w.cell? ⟨b, off + j * 2 + 1, none⟩ = some (.slice (some ⟨g, og, none⟩) rx.length d) ∧ w.cell? ⟨g, og + k * 6, none⟩ = some (strV nx)) := fun w hw => ⟨hw, (HX.out w hw).1, HCT.out w (HF.out w hw), (hcells w (HF.out w hw)).1⟩
                  have HRC : Hid (∀ w, (Below W1.heap.size W1 w ∧ w.cell? ⟨W.heap.size, 0, none⟩ = some (.slice (some ⟨b, off, none⟩) s.length c) ∧ w.cell? ⟨b, off + j * 2 + 1, none⟩ = some (.slice (some ⟨g, og, none⟩) rx.length d) ∧ w.cell? ⟨g, og + k * 6, none⟩ = some (strV nx)) → Calls Tryz.prog 38 #[.agg #[.slice (some ⟨b, off, none⟩) s.length c], .int .i64 (j : Int), strV nx] w fun r w' => r = .returned (.int .i64 (relsN rx nx)) ∧ (Below W1.heap.size W1 w' ∧ w'.cell? ⟨W.heap.size, 0, none⟩ = some (.slice (some ⟨b, off, none⟩) s.length c) ∧ w'.cell? ⟨b, off + j * 2 + 1, none⟩ = some (.slice (some ⟨g, og, none⟩) rx.length d) ∧ w'.cell? ⟨g, og + k * 6, none⟩ = some (strV nx))) := Lib.hid (fun w hw => (rrel_any s (j : Int) nx w F _ c (HS.out w hw.1) hl (.inr ⟨j, hlt, rfl⟩)).mono (fun r w' h => ⟨by rw [h.1, relN, HOF.out], hN w' (hop hw.1 h.2)⟩))
                  have hS0 : (Below W1.heap.size W1 w4.drew ∧ w4.drew.cell? ⟨W.heap.size, 0, none⟩ = some (.slice (some ⟨b, off, none⟩) s.length c) ∧ w4.drew.cell? ⟨b, off + j * 2 + 1, none⟩ = some (.slice (some ⟨g, og, none⟩) rx.length d) ∧ w4.drew.cell? ⟨g, og + k * 6, none⟩ = some (strV nx)) := hN w4.drew BW.out.drew
                  clear hcells hN
                  generalize relsN rx nx = ty at *
                  go_wp2_with fail
                  go_region_held_law (fun w => (Below W1.heap.size W1 w ∧ w.cell? ⟨W.heap.size, 0, none⟩ = some (.slice (some ⟨b, off, none⟩) s.length c) ∧ w.cell? ⟨b, off + j * 2 + 1, none⟩ = some (.slice (some ⟨g, og, none⟩) rx.length d) ∧ w.cell? ⟨g, og + k * 6, none⟩ = some (strV nx)))
                    (assumption)
                    (first
                      | (go_at_call 38; with_reducible refine (HRC.out _ (by assumption)).mono ?_; rintro r w' ⟨rfl, hS'⟩))
                  obtain ⟨x0, v0, v1, v2, f0, f1, f2⟩ := HX.out w' hS'.1
                  have HB6 := Lib.hid hS'.1
                  by_cases hty : ty < (k : Int)
                  · have HN : Hid (v = ((j : Int), (k : Int), 7)) := Lib.hid (by rw [HA.out, HD.out, if_pos (decide_eq_true hty)]; rfl)
                    have hq : decide (ty < (k : Int)) = true := decide_eq_true hty
                    go_wp2_with fail
                    refine bodyPost_ret (v := .agg #[.int .i64 (j), .int .i64 (k), .int .i64 (7)]) (by simp [results, Tryz.results17, go_sem, v0, v1, v2]) rfl ?_
                    exact ⟨by rw [HN.out] <;> rfl, (((HF.out w' HB6.out).setCell (p := ⟨W.heap.size + 1, 0, none⟩) (Nat.le_succ _) _).setCell (p := ⟨W.heap.size + 1, 1, none⟩) (Nat.le_succ _) _).setCell (p := ⟨W.heap.size + 1, 2, none⟩) (Nat.le_succ _) _⟩
                  · have HN : Hid (v = orF (match firstN (fun k (r : Rl) => decide (relsN rx r.name < k)) (rx.drop (k + 1)) (k + 1) with | some k => some ((j : Int), (k : Int), 7) | none => twiceTs (j + 1) (s.drop (j + 1))) (plain4 s)) := Lib.hid (by rw [HA.out, HD.out, if_neg (by rw [decide_eq_false hty]; decide)])
                    have hq : decide (ty < (k : Int)) = false := decide_eq_false hty
                    have hq1 : (k : Int) ≤ ty := by omega
                    go_wp2_with fail
                    go_roundw
                    case rel => exact ⟨k + 1, by omega, by go_num, HN, HB6⟩
                    case measure => simp [intOf]; omega
                · have HN : Hid (v = orF (twiceTs (j + 1) (s.drop (j + 1))) (plain4 s)) := Lib.hid (by rw [HA.out, List.drop_of_length_le (by omega)]; rfl)
                  go_wp2_with fail
                  go_roundw
                  case rel => exact ⟨j + 1, by omega, by go_num, HN, BW⟩
                  case measure => simp [intOf]; omega
            · have HN : Hid (v = orF (badT s (s.drop 0) 0) (0, 0, 0)) := Lib.hid (by rw [HA.out, List.drop_of_length_le (by omega)]; rfl)
              go_wp2_with fail
              clear hlt HA x0 v0 v1 v2 f0 f1 f2
              go_loopw [8] (fun i w3 => ∃ j : Nat, j ≤ s.length ∧ i = .int .i64 j ∧ Hid (v = orF (badT s (s.drop j) j) (0, 0, 0)) ∧ Hid (Below W1.heap.size W1 w3)) (fun i _ => s.length - (intOf i).toNat)
              case atStart => exact ⟨0, by omega, rfl, HN, BW⟩
              case round =>
                rename World => w5
                clear HN BW
                obtain ⟨j, hj, rfl, HA, BW⟩ := hrel
                obtain ⟨x0, v0, v1, v2, f0, f1, f2⟩ := HX.out w5 BW.out
                by_cases hlt : j < s.length
                · have HD := Lib.hid (badT_drop (s := s) hlt)
                  obtain ⟨b, off, B, d, rfl, ⟨_, hrl⟩, hr, hc⟩ := HR.out.ty hlt
                  have HCT := Lib.hid (fun w hw => (hc w hw).2)
                  have HRX := Lib.hid hr
                  have z1 := HCT.out w5 (HF.out w5 BW.out)
                  clear hc hr
                  generalize s[j].rels = rx at *
                  have HN : Hid (v = orF (match badR s j (rx.drop 0) 0 with | some f => some f | none => badT s (s.drop (j + 1)) (j + 1)) (0, 0, 0)) := Lib.hid (by rw [HA.out, HD.out]; rfl)
                  go_wp2_with fail
                  clear HA HD x0 v0 v1 v2 f0 f1 f2 z1
                  go_loopw [9] (fun i w6 => ∃ k : Nat, k ≤ rx.length ∧ i = .int .i64 k ∧ Hid (v = orF (match badR s j (rx.drop k) k with | some f => some f | none => badT s (s.drop (j + 1)) (j + 1)) (0, 0, 0)) ∧ Hid (Below W1.heap.size W1 w6)) (fun i _ => rx.length - (intOf i).toNat)
                  case atStart => exact ⟨0, by omega, rfl, HN, BW⟩
                  case round =>
                    rename World => w6
                    clear HN BW
                    obtain ⟨k, hk, rfl, HA, BW⟩ := hrel
                    obtain ⟨x0, v0, v1, v2, f0, f1, f2⟩ := HX.out w6 BW.out
                    have z1 := HCT.out w6 (HF.out w6 BW.out)
                    by_cases hkl : k < rx.length
                    · have HD := Lib.hid (badR_drop (s := s) (t := j) hkl)
                      obtain ⟨g, og, n1, B1, m1, c1, k1, p1, q1, E1, m2, c2, rfl, hE, hcells⟩ := HRX.out.rel hkl
                      have hN : ∀ w, Below W1.heap.size W1 w → (Below W1.heap.size W1 w ∧ w.cell? ⟨W.heap.size, 0, none⟩ = some (.slice (some ⟨b, off, none⟩) s.length c) ∧ w.cell? ⟨b, off + j * 2 + 1, none⟩ = some (.slice (some ⟨g, og, none⟩) rx.length d) ∧ (w.cell? ⟨g, og + k * 6, none⟩ = some (strV n1) ∧ w.cell? ⟨g, og + k * 6 + 1, none⟩ = some (.slice B1 m1 c1) ∧ w.cell? ⟨g, og + k * 6 + 2, none⟩ = some (.int .i64 k1) ∧ w.cell? ⟨g, og + k * 6 + 3, none⟩ = some (strV p1) ∧ w.cell? ⟨g, og + k * 6 + 4, none⟩ = some (strV q1) ∧ w.cell? ⟨g, og + k * 6 + 5, none⟩ = some (.slice E1 m2 c2))) := fun w hw => ⟨hw, (HX.out w hw).1, HCT.out w (HF.out w hw), hcells w (HF.out w hw)⟩
                      have HRC : Hid (∀ w, (Below W1.heap.size W1 w ∧ w.cell? ⟨W.heap.size, 0, none⟩ = some (.slice (some ⟨b, off, none⟩) s.length c) ∧ w.cell? ⟨b, off + j * 2 + 1, none⟩ = some (.slice (some ⟨g, og, none⟩) rx.length d) ∧ (w.cell? ⟨g, og + k * 6, none⟩ = some (strV n1) ∧ w.cell? ⟨g, og + k * 6 + 1, none⟩ = some (.slice B1 m1 c1) ∧ w.cell? ⟨g, og + k * 6 + 2, none⟩ = some (.int .i64 k1) ∧ w.cell? ⟨g, og + k * 6 + 3, none⟩ = some (strV p1) ∧ w.cell? ⟨g, og + k * 6 + 4, none⟩ = some (strV q1) ∧ w.cell? ⟨g, og + k * 6 + 5, none⟩ = some (.slice E1 m2 c2))) → Calls Tryz.prog 39 #[.agg #[.slice (some ⟨b, off, none⟩) s.length c], .int .i64 (j : Int), .agg #[strV n1, .slice B1 m1 c1, .int .i64 k1, strV p1, strV q1, .slice E1 m2 c2]] w fun r w' => r = .returned (.int .i64 (namesN s j rx[k] : Int)) ∧ (Below W1.heap.size W1 w' ∧ w'.cell? ⟨W.heap.size, 0, none⟩ = some (.slice (some ⟨b, off, none⟩) s.length c) ∧ w'.cell? ⟨b, off + j * 2 + 1, none⟩ = some (.slice (some ⟨g, og, none⟩) rx.length d) ∧ (w'.cell? ⟨g, og + k * 6, none⟩ = some (strV n1) ∧ w'.cell? ⟨g, og + k * 6 + 1, none⟩ = some (.slice B1 m1 c1) ∧ w'.cell? ⟨g, og + k * 6 + 2, none⟩ = some (.int .i64 k1) ∧ w'.cell? ⟨g, og + k * 6 + 3, none⟩ = some (strV p1) ∧ w'.cell? ⟨g, og + k * 6 + 4, none⟩ = some (strV q1) ∧ w'.cell? ⟨g, og + k * 6 + 5, none⟩ = some (.slice E1 m2 c2)))) := Lib.hid (fun w hw => (rnames_any s _ c hl F hlt rx[k] w F _ (HS.out w hw.1) (hE.below (HF.out w hw.1))).mono (fun r w' h => ⟨h.1, hN w' (hop hw.1 h.2)⟩))
                      have hS0 : (Below W1.heap.size W1 w6.drew ∧ w6.drew.cell? ⟨W.heap.size, 0, none⟩ = some (.slice (some ⟨b, off, none⟩) s.length c) ∧ w6.drew.cell? ⟨b, off + j * 2 + 1, none⟩ = some (.slice (some ⟨g, og, none⟩) rx.length d) ∧ (w6.drew.cell? ⟨g, og + k * 6, none⟩ = some (strV n1) ∧ w6.drew.cell? ⟨g, og + k * 6 + 1, none⟩ = some (.slice B1 m1 c1) ∧ w6.drew.cell? ⟨g, og + k * 6 + 2, none⟩ = some (.int .i64 k1) ∧ w6.drew.cell? ⟨g, og + k * 6 + 3, none⟩ = some (strV p1) ∧ w6.drew.cell? ⟨g, og + k * 6 + 4, none⟩ = some (strV q1) ∧ w6.drew.cell? ⟨g, og + k * 6 + 5, none⟩ = some (.slice E1 m2 c2))) := hN w6.drew BW.out.drew
                      clear hcells hN
                      generalize namesN s j rx[k] = ty at *
                      go_wp2_with fail
                      go_region_held_law (fun w => (Below W1.heap.size W1 w ∧ w.cell? ⟨W.heap.size, 0, none⟩ = some (.slice (some ⟨b, off, none⟩) s.length c) ∧ w.cell? ⟨b, off + j * 2 + 1, none⟩ = some (.slice (some ⟨g, og, none⟩) rx.length d) ∧ (w.cell? ⟨g, og + k * 6, none⟩ = some (strV n1) ∧ w.cell? ⟨g, og + k * 6 + 1, none⟩ = some (.slice B1 m1 c1) ∧ w.cell? ⟨g, og + k * 6 + 2, none⟩ = some (.int .i64 k1) ∧ w.cell? ⟨g, og + k * 6 + 3, none⟩ = some (strV p1) ∧ w.cell? ⟨g, og + k * 6 + 4, none⟩ = some (strV q1) ∧ w.cell? ⟨g, og + k * 6 + 5, none⟩ = some (.slice E1 m2 c2))))
                        (assumption)
                        (first
                          | (go_at_call 39; with_reducible refine (HRC.out _ (by assumption)).mono ?_; rintro r w' ⟨rfl, hS'⟩))
                      obtain ⟨x0, v0, v1, v2, f0, f1, f2⟩ := HX.out w' hS'.1
                      have HB6 := Lib.hid hS'.1
                      by_cases hty : ty = 0
                      · have HN : Hid (v = orF (match badR s j (rx.drop (k + 1)) (k + 1) with | some f => some f | none => badT s (s.drop (j + 1)) (j + 1)) (0, 0, 0)) := Lib.hid (by rw [HA.out, HD.out, if_neg (fun h => h hty)])
                        subst hty
                        go_wp2_with fail
                        go_roundw
                        case rel => exact ⟨k + 1, by omega, by go_num, HN, HB6⟩
                        case measure => simp [intOf]; omega
                      · have HN : Hid (v = ((j : Int), (k : Int), ty)) := Lib.hid (by rw [HA.out, HD.out, if_pos hty]; rfl)
                        have hq1 : ¬ (ty : Int) = 0 := by omega
                        have hq : ((ty : Int) != 0) = true := bne_iff_ne.2 hq1
                        clear hty
                        go_wp2_with fail
                        refine bodyPost_ret (v := .agg #[.int .i64 (j), .int .i64 (k), .int .i64 (ty)]) (by simp [results, Tryz.results17, go_sem, v0, v1, v2]) rfl ?_
                        exact ⟨by rw [HN.out] <;> rfl, (((HF.out w' HB6.out).setCell (p := ⟨W.heap.size + 1, 0, none⟩) (Nat.le_succ _) _).setCell (p := ⟨W.heap.size + 1, 1, none⟩) (Nat.le_succ _) _).setCell (p := ⟨W.heap.size + 1, 2, none⟩) (Nat.le_succ _) _⟩
                    · have HN : Hid (v = orF (badT s (s.drop (j + 1)) (j + 1)) (0, 0, 0)) := Lib.hid (by rw [HA.out, List.drop_of_length_le (by omega)]; rfl)
                      go_wp2_with fail
                      go_roundw
                      case rel => exact ⟨j + 1, by omega, by go_num, HN, BW⟩
                      case measure => simp [intOf]; omega
                · have HN : Hid (v = (0, 0, 0)) := Lib.hid (by rw [HA.out, List.drop_of_length_le (by omega)]; rfl)
                  go_wp2_with fail
                  refine bodyPost_ret (v := .agg #[.int .i64 (0), .int .i64 (0), .int .i64 (0)]) (by simp [results, Tryz.results17, go_sem, v0, v1, v2]) rfl ?_
                  exact ⟨by rw [HN.out] <;> rfl, (((HF.out w5 BW.out).setCell (p := ⟨W.heap.size + 1, 0, none⟩) (Nat.le_succ _) _).setCell (p := ⟨W.heap.size + 1, 1, none⟩) (Nat.le_succ _) _).setCell (p := ⟨W.heap.size + 1, 2, none⟩) (Nat.le_succ _) _⟩
end Go.Proofs.YtdnhbledndgbcaaGreat
