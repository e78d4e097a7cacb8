/-
  The first type, the first relation for which a closure answers an error; the first of two faults, of two errors. Conditions: the schema is there; the closure answers.
  cmp.Or of faults, of errors: the first that is not zero. Condition: the list is there.
  How many bytes of a word a text begins with, and a sign's text (conciergeref11's word, sign). Condition: a string's length fits an int.
  'append(l, x)' of a struct just laid, onto a row of the call's own. No program is named.
-/
import Derived.Test.YtdnhbledndgbcaaGreatCRuP
import Derived.Shelf.Abstract
import Derived.Test.YtdnhbledndgbcaaGreatCLaF
import Derived.Deep.QuietTactic
import Derived.BigQuiet
import Derived.Test.YtdnhbledndgbcaaGreatCNmRefN
import Derived.Maps.AppendAt
import Derived.OwnWalk
namespace Go.Proofs.YtdnhbledndgbcaaGreat
open Go.RowKit
theorem when_any (b : Bool) (e : Nat) (W : World) : Calls Tryz.prog 33 #[.bool b, .int .i64 (e : Int)] W fun r w' => r = .returned (.int .i64 ((if b then e else 0 : Nat) : Int)) ∧ Below W.heap.size W w' := by
  cases b
  · go_enter Tryz.func33, Tryz.ntmps33
    go_wp2_with fail
    go_ret
    exact ⟨rfl, Below.refl _ _⟩
  · go_enter Tryz.func33, Tryz.ntmps33
    go_wp2_with fail
    go_ret
    exact ⟨rfl, Below.refl _ _⟩
def ftN (f : Nat → Nat) : Sc → Nat → Fa
  | [], _ => (0, 0, 0)
  | _ :: r, i => if f i ≠ 0 then ((i : Int), -1, f i) else ftN f r (i + 1)
def frRow (f : Nat → Nat) (t : Nat) : List Rl → Nat → Option Fa
  | [], _ => none
  | _ :: r, k => if f k ≠ 0 then some ((t : Int), (k : Int), f k) else frRow f t r (k + 1)
def frN (f : Nat → Nat → Nat) : Sc → Nat → Fa
  | [], _ => (0, 0, 0)
  | x :: r, t => match frRow (f t) t x.rels 0 with | some q => q | none => frN f r (t + 1)
theorem ftN_drop {f : Nat → Nat} {l : Sc} {j : Nat} (h : j < l.length) : ftN f (l.drop j) j = if f j ≠ 0 then ((j : Int), -1, f j) else ftN f (l.drop (j + 1)) (j + 1) := by
  rw [List.drop_eq_getElem_cons h, ftN]
theorem frRow_drop {f : Nat → Nat} {t : Nat} {l : List Rl} {j : Nat} (h : j < l.length) : frRow f t (l.drop j) j = if f j ≠ 0 then some ((t : Int), (j : Int), f j) else frRow f t (l.drop (j + 1)) (j + 1) := by
  rw [List.drop_eq_getElem_cons h, frRow]
theorem frN_drop {f : Nat → Nat → Nat} {l : Sc} {j : Nat} (h : j < l.length) : frN f (l.drop j) j = orF (frRow (f j) j l[j].rels 0) (frN f (l.drop (j + 1)) (j + 1)) := by
  rw [List.drop_eq_getElem_cons h, frN]
  cases frRow (f j) j l[j].rels 0 <;> rfl
set_option maxRecDepth 100000 in
set_option maxHeartbeats 2000000 in
theorem firstType1_any (s : Sc) (A : Option Addr) (c : Nat) (hl : s.length ≤ 9223372036854775807) (W : World) {g : Nat} (eg : ∀ args w, (callFunc g args).run Tryz.prog w = .ok (.enter g args) w) {p1 : Value} (f : Nat → Nat)
    (hg : ∀ w, Below W.heap.size W w → ∀ i, i < s.length → Calls Tryz.prog g #[.int .i64 (i : Int), p1] w fun r w' => r = .returned (.int .i64 (f i : Int)) ∧ Below w.heap.size w w') :
    Calls Tryz.prog 50 #[.agg #[.slice A s.length c], .func (.func g) #[] #[p1]] W fun r w' => r = .returned (faV (ftN f s 0)) ∧ Below W.heap.size W w' := by
  obtain ⟨v, hv⟩ : ∃ v, v = ftN f s 0 := ⟨_, rfl⟩
  rw [← hv]
  obtain ⟨W1, hW⟩ : ∃ W1, W1 = (W.alloc (.cells #[.slice A s.length c] 24)).alloc (.cells #[.int .i64 0, .int .i64 0, .int .i64 0] 33) := ⟨_, rfl⟩
  have HKA : Hid (Blk W1 W.heap.size [.slice A s.length c] 24) := by rw [hW]; exact Lib.hid ((Blk.new W _ _).alloc _)
  have HKE : Hid (Blk W1 (W.heap.size + 1) [.int .i64 0, .int .i64 0, .int .i64 0] 33) := by
    rw [hW]
    have := Blk.new (W.alloc (.cells #[.slice A s.length c] 24)) [.int .i64 0, .int .i64 0, .int .i64 0] 33
    rw [World.size_alloc] at this
    exact Lib.hid this
  have HB0 : Hid (Below W.heap.size W W1) := by rw [hW]; exact Lib.hid (((Below.refl _ _).alloc (Nat.le_refl _) _).alloc (by simp) _)
  have HW := Lib.hid hW
  have HX : Hid (∀ w, Below W1.heap.size W1 w → w.cell? ⟨W.heap.size, 0, none⟩ = some (.slice A s.length c) ∧ w.cell? ⟨W.heap.size + 1, 0, none⟩ = some (.int .i64 0) ∧ w.cell? ⟨W.heap.size + 1, 1, none⟩ = some (.int .i64 0) ∧ w.cell? ⟨W.heap.size + 1, 2, none⟩ = some (.int .i64 0) ∧ w.frozen? ⟨W.heap.size + 1, 0, none⟩ = false ∧ w.frozen? ⟨W.heap.size + 1, 1, none⟩ = false ∧ w.frozen? ⟨W.heap.size + 1, 2, none⟩ = false) := Lib.hid (fun w hw => by
    have h1 := HKA.out.below hw HKA.out.lt
    have h2 := HKE.out.below hw HKE.out.lt
    exact ⟨h1.cell (i := 0) (by simp), h2.cell (i := 0) (by simp), h2.cell (i := 1) (by simp), h2.cell (i := 2) (by simp), h2.free 0, h2.free 1, h2.free 2⟩)
  have HF : Hid (∀ w, Below W1.heap.size W1 w → Below W.heap.size W w) := Lib.hid (fun w hw => HB0.out.trans (hw.mono HB0.out.size))
  have HG := Lib.hid hg
  have HV : Hid (v = ftN f (s.drop 0) 0) := Lib.hid (by rw [hv, List.drop_zero])
  clear hW hg hv
  go_enter Tryz.func50, Tryz.ntmps50
  go_wp2_with fail
  rw [← HW.out]
  go_loopw [10] (fun i wr => ∃ j : Nat, j ≤ s.length ∧ i = .int .i64 j ∧ Hid (v = ftN f (s.drop j) j) ∧ Hid (Below W1.heap.size W1 wr)) (fun i _ => s.length - (intOf i).toNat)
  case atStart => exact ⟨0, by omega, rfl, HV, Lib.hid (Below.refl _ _)⟩
  case round =>
    obtain ⟨j, hj, rfl, H, BW⟩ := hrel
    obtain ⟨x0, _⟩ := HX.out wr BW.out
    by_cases hlt : j < s.length
    · have HD := Lib.hid (ftN_drop (f := f) hlt)
      have HC := Lib.hid (HG.out wr (HF.out wr BW.out) j hlt)
      obtain ⟨q, hq⟩ : ∃ q, f j = q := ⟨_, rfl⟩
      rw [hq] at HC HD
      clear hq
      by_cases hq0 : q = 0
      · subst hq0
        have HN : Hid (v = ftN f (s.drop (j + 1)) (j + 1)) := Lib.hid (by rw [H.out, HD.out, if_neg (fun h => h rfl)])
        go_wp2_with (go_at_fn g; refine HC.out.mono ?_; rintro r w2 ⟨rfl, hb2⟩; have HB2 := Lib.hid hb2; clear hb2)
        go_roundw
        case rel => exact ⟨j + 1, by omega, by go_num, HN, Lib.hid (hop BW.out HB2.out)⟩
        case measure => simp [intOf]; omega
      · have HN : Hid (v = ((j : Int), -1, q)) := Lib.hid (by rw [H.out, HD.out, if_pos hq0])
        have q1 : ¬ (q : Int) = 0 := by omega
        have q2 : ((q : Int) != 0) = true := bne_iff_ne.2 q1
        clear hq0
        go_wp2_with (go_at_fn g; refine HC.out.mono ?_; rintro r w2 ⟨rfl, hb2⟩; have HB2 := Lib.hid (hop BW.out hb2); obtain ⟨y0, v0, v1, v2, f0, f1, f2⟩ := HX.out w2 HB2.out; clear hb2)
        refine bodyPost_ret (v := .agg #[.int .i64 (j), .int .i64 (-1), .int .i64 (q)]) (by simp [results, Tryz.results50, go_sem, v0, v1, v2]) rfl ?_
        exact ⟨by rw [HN.out] <;> rfl, (((HF.out w2 HB2.out).setCell (p := ⟨W.heap.size + 1, 0, none⟩) (Nat.le_succ _) _).setCell (p := ⟨W.heap.size + 1, 1, none⟩) (Nat.le_succ _) _).setCell (p := ⟨W.heap.size + 1, 2, none⟩) (Nat.le_succ _) _⟩
    · have HN : Hid (v = (0, 0, 0)) := Lib.hid (by rw [H.out, List.drop_of_length_le (by omega)]; rfl)
      obtain ⟨_, v0, v1, v2, f0, f1, f2⟩ := HX.out wr BW.out
      go_wp2_with fail
      refine bodyPost_ret (v := .agg #[.int .i64 (0), .int .i64 (0), .int .i64 (0)]) (by simp [results, Tryz.results50, go_sem, v0, v1, v2]) rfl ?_
      exact ⟨by rw [HN.out] <;> rfl, (((HF.out wr BW.out).setCell (p := ⟨W.heap.size + 1, 0, none⟩) (Nat.le_succ _) _).setCell (p := ⟨W.heap.size + 1, 1, none⟩) (Nat.le_succ _) _).setCell (p := ⟨W.heap.size + 1, 2, none⟩) (Nat.le_succ _) _⟩
set_option maxRecDepth 100000 in
set_option maxHeartbeats 2000000 in
theorem firstRel1_any (s : Sc) (F : Nat → Prop) (A : Option Addr) (c : Nat) (hl : s.length ≤ 9223372036854775807) (W : World) (hs : ScAt W F A s) {g : Nat} (eg : ∀ args w, (callFunc g args).run Tryz.prog w = .ok (.enter g args) w) {p1 : Value} (f : Nat → Nat → Nat)
    (hg : ∀ w, Below W.heap.size W w → ∀ i (hi : i < s.length) k, k < s[i].rels.length → Calls Tryz.prog g #[.int .i64 (i : Int), .int .i64 (k : Int), p1] w fun r w' => r = .returned (.int .i64 (f i k : Int)) ∧ Below w.heap.size w w') :
    Calls Tryz.prog 31 #[.agg #[.slice A s.length c], .func (.func g) #[] #[p1]] W fun r w' => r = .returned (faV (frN f s 0)) ∧ Below W.heap.size W w' := by
  obtain ⟨v, hv⟩ : ∃ v, v = frN f s 0 := ⟨_, rfl⟩
  rw [← hv]
  obtain ⟨W1, hW⟩ : ∃ W1, W1 = (W.alloc (.cells #[.slice A s.length c] 24)).alloc (.cells #[.int .i64 0, .int .i64 0, .int .i64 0] 33) := ⟨_, rfl⟩
  have HKA : Hid (Blk W1 W.heap.size [.slice A s.length c] 24) := by rw [hW]; exact Lib.hid ((Blk.new W _ _).alloc _)
  have HKE : Hid (Blk W1 (W.heap.size + 1) [.int .i64 0, .int .i64 0, .int .i64 0] 33) := by
    rw [hW]
    have := Blk.new (W.alloc (.cells #[.slice A s.length c] 24)) [.int .i64 0, .int .i64 0, .int .i64 0] 33
    rw [World.size_alloc] at this
    exact Lib.hid this
  have HB0 : Hid (Below W.heap.size W W1) := by rw [hW]; exact Lib.hid (((Below.refl _ _).alloc (Nat.le_refl _) _).alloc (by simp) _)
  have HW := Lib.hid hW
  have HX : Hid (∀ w, Below W1.heap.size W1 w → w.cell? ⟨W.heap.size, 0, none⟩ = some (.slice A s.length c) ∧ w.cell? ⟨W.heap.size + 1, 0, none⟩ = some (.int .i64 0) ∧ w.cell? ⟨W.heap.size + 1, 1, none⟩ = some (.int .i64 0) ∧ w.cell? ⟨W.heap.size + 1, 2, none⟩ = some (.int .i64 0) ∧ w.frozen? ⟨W.heap.size + 1, 0, none⟩ = false ∧ w.frozen? ⟨W.heap.size + 1, 1, none⟩ = false ∧ w.frozen? ⟨W.heap.size + 1, 2, none⟩ = false) := Lib.hid (fun w hw => by
    have h1 := HKA.out.below hw HKA.out.lt
    have h2 := HKE.out.below hw HKE.out.lt
    exact ⟨h1.cell (i := 0) (by simp), h2.cell (i := 0) (by simp), h2.cell (i := 1) (by simp), h2.cell (i := 2) (by simp), h2.free 0, h2.free 1, h2.free 2⟩)
  have HF : Hid (∀ w, Below W1.heap.size W1 w → Below W.heap.size W w) := Lib.hid (fun w hw => HB0.out.trans (hw.mono HB0.out.size))
  have HG := Lib.hid hg
  have HV : Hid (v = frN f (s.drop 0) 0) := Lib.hid (by rw [hv, List.drop_zero])
  have HR : Hid (RowAt 2 TyAt W F A s) := Lib.hid hs
  clear hW hg hv hs
  go_enter Tryz.func31, Tryz.ntmps31
  go_wp2_with fail
  rw [← HW.out]
  go_loopw [12] (fun i wr => ∃ j : Nat, j ≤ s.length ∧ i = .int .i64 j ∧ Hid (v = frN f (s.drop j) j) ∧ Hid (Below W1.heap.size W1 wr)) (fun i _ => s.length - (intOf i).toNat)
  case atStart => exact ⟨0, by omega, rfl, HV, Lib.hid (Below.refl _ _)⟩
  case round =>
    obtain ⟨j, hj, rfl, H, BW⟩ := hrel
    obtain ⟨x0, v0, v1, v2, f0, f1, f2⟩ := HX.out wr BW.out
    by_cases hlt : j < s.length
    · obtain ⟨b, off, B, d, rfl, ⟨hn1, hrl⟩, _, hc⟩ := HR.out.ty hlt
      obtain ⟨z0, z1⟩ := hc wr (HF.out wr BW.out)
      have HL : Hid (v = orF (frRow (f j) j (s[j].rels.drop 0) 0) (frN f (s.drop (j + 1)) (j + 1))) := Lib.hid (by rw [H.out, frN_drop hlt, List.drop_zero])
      have HGJ := Lib.hid (fun w hw k hk => HG.out w hw j hlt k hk)
      clear hc v0 v1 v2 f0 f1 f2
      generalize s[j].rels = rs at *
      generalize s[j].name = nm at *
      have HB9 := Lib.hid ((BW.out).alloc BW.out.size (.cells #[strV nm, .slice B rs.length d] 38))
      go_wp2_with fail
      go_loopw [20] (fun i w6 => ∃ k : Nat, k ≤ rs.length ∧ i = .int .i64 k ∧ Hid (v = orF (frRow (f j) j (rs.drop k) k) (frN f (s.drop (j + 1)) (j + 1))) ∧ Hid (Below W1.heap.size W1 w6)) (fun i _ => rs.length - (intOf i).toNat)
      case atStart => exact ⟨0, by omega, rfl, HL, HB9⟩
      case round =>
        rename World => w6
        obtain ⟨k, hk, rfl, H6, B6⟩ := hrel
        by_cases hkl : k < rs.length
        · have HD := Lib.hid (frRow_drop (f := f j) (t := j) hkl)
          have HC := Lib.hid (HGJ.out w6 (HF.out w6 B6.out) k hkl)
          obtain ⟨q, hq⟩ : ∃ q, f j k = q := ⟨_, rfl⟩
          rw [hq] at HC HD
          clear hq
          by_cases hq0 : q = 0
          · subst hq0
            have HN : Hid (v = orF (frRow (f j) j (rs.drop (k + 1)) (k + 1)) (frN f (s.drop (j + 1)) (j + 1))) := Lib.hid (by rw [H6.out, HD.out, if_neg (fun h => h rfl)])
            go_wp2_with (go_at_fn g; refine HC.out.mono ?_; rintro r w2 ⟨rfl, hb2⟩; have HB2 := Lib.hid hb2; clear hb2)
            go_roundw
            case rel => exact ⟨k + 1, by omega, by go_num, HN, Lib.hid (hop B6.out HB2.out)⟩
            case measure => simp [intOf]; omega
          · have HN : Hid (v = ((j : Int), (k : Int), q)) := Lib.hid (by rw [H6.out, HD.out, if_pos hq0]; rfl)
            have q1 : ¬ (q : Int) = 0 := by omega
            have q2 : ((q : Int) != 0) = true := bne_iff_ne.2 q1
            clear hq0
            go_wp2_with (go_at_fn g; refine HC.out.mono ?_; rintro r w2 ⟨rfl, hb2⟩; have HB2 := Lib.hid (hop B6.out hb2); obtain ⟨y0, v0, v1, v2, f0, f1, f2⟩ := HX.out w2 HB2.out; clear hb2)
            refine bodyPost_ret (v := .agg #[.int .i64 (j), .int .i64 (k), .int .i64 (q)]) (by simp [results, Tryz.results31, go_sem, v0, v1, v2]) rfl ?_
            exact ⟨by rw [HN.out] <;> rfl, (((HF.out w2 HB2.out).setCell (p := ⟨W.heap.size + 1, 0, none⟩) (Nat.le_succ _) _).setCell (p := ⟨W.heap.size + 1, 1, none⟩) (Nat.le_succ _) _).setCell (p := ⟨W.heap.size + 1, 2, none⟩) (Nat.le_succ _) _⟩
        · have HN : Hid (v = frN f (s.drop (j + 1)) (j + 1)) := Lib.hid (by rw [H6.out, List.drop_of_length_le (l := rs) (i := k) (by omega)]; rfl)
          go_wp2_with fail
          go_roundw
          case rel => exact ⟨j + 1, by omega, by go_num, HN, B6⟩
          case measure => simp [intOf]; omega
    · have HN : Hid (v = (0, 0, 0)) := Lib.hid (by rw [H.out, List.drop_of_length_le (by omega)]; rfl)
      go_wp2_with fail
      refine bodyPost_ret (v := .agg #[.int .i64 (0), .int .i64 (0), .int .i64 (0)]) (by simp [results, Tryz.results31, go_sem, v0, v1, v2]) rfl ?_
      exact ⟨by rw [HN.out] <;> rfl, (((HF.out wr BW.out).setCell (p := ⟨W.heap.size + 1, 0, none⟩) (Nat.le_succ _) _).setCell (p := ⟨W.heap.size + 1, 1, none⟩) (Nat.le_succ _) _).setCell (p := ⟨W.heap.size + 1, 2, none⟩) (Nat.le_succ _) _⟩
set_option maxRecDepth 100000 in
set_option maxHeartbeats 2000000 in
theorem firstRel2_any (s : Sc) (F : Nat → Prop) (A : Option Addr) (c : Nat) (hl : s.length ≤ 9223372036854775807) (W : World) (hs : ScAt W F A s) {g : Nat} (eg : ∀ args w, (callFunc g args).run Tryz.prog w = .ok (.enter g args) w) {p1 p2 : Value} (f : Nat → Nat → Nat)
    (hg : ∀ w, Below W.heap.size W w → ∀ i (hi : i < s.length) k, k < s[i].rels.length → Calls Tryz.prog g #[.int .i64 (i : Int), .int .i64 (k : Int), p1, p2] w fun r w' => r = .returned (.int .i64 (f i k : Int)) ∧ Below w.heap.size w w') :
    Calls Tryz.prog 31 #[.agg #[.slice A s.length c], .func (.func g) #[] #[p1, p2]] W fun r w' => r = .returned (faV (frN f s 0)) ∧ Below W.heap.size W w' := by
  obtain ⟨v, hv⟩ : ∃ v, v = frN f s 0 := ⟨_, rfl⟩
  rw [← hv]
  obtain ⟨W1, hW⟩ : ∃ W1, W1 = (W.alloc (.cells #[.slice A s.length c] 24)).alloc (.cells #[.int .i64 0, .int .i64 0, .int .i64 0] 33) := ⟨_, rfl⟩
  have HKA : Hid (Blk W1 W.heap.size [.slice A s.length c] 24) := by rw [hW]; exact Lib.hid ((Blk.new W _ _).alloc _)
  have HKE : Hid (Blk W1 (W.heap.size + 1) [.int .i64 0, .int .i64 0, .int .i64 0] 33) := by
    rw [hW]
    have := Blk.new (W.alloc (.cells #[.slice A s.length c] 24)) [.int .i64 0, .int .i64 0, .int .i64 0] 33
    rw [World.size_alloc] at this
    exact Lib.hid this
  have HB0 : Hid (Below W.heap.size W W1) := by rw [hW]; exact Lib.hid (((Below.refl _ _).alloc (Nat.le_refl _) _).alloc (by simp) _)
  have HW := Lib.hid hW
  have HX : Hid (∀ w, Below W1.heap.size W1 w → w.cell? ⟨W.heap.size, 0, none⟩ = some (.slice A s.length c) ∧ w.cell? ⟨W.heap.size + 1, 0, none⟩ = some (.int .i64 0) ∧ w.cell? ⟨W.heap.size + 1, 1, none⟩ = some (.int .i64 0) ∧ w.cell? ⟨W.heap.size + 1, 2, none⟩ = some (.int .i64 0) ∧ w.frozen? ⟨W.heap.size + 1, 0, none⟩ = false ∧ w.frozen? ⟨W.heap.size + 1, 1, none⟩ = false ∧ w.frozen? ⟨W.heap.size + 1, 2, none⟩ = false) := Lib.hid (fun w hw => by
    have h1 := HKA.out.below hw HKA.out.lt
    have h2 := HKE.out.below hw HKE.out.lt
    exact ⟨h1.cell (i := 0) (by simp), h2.cell (i := 0) (by simp), h2.cell (i := 1) (by simp), h2.cell (i := 2) (by simp), h2.free 0, h2.free 1, h2.free 2⟩)
  have HF : Hid (∀ w, Below W1.heap.size W1 w → Below W.heap.size W w) := Lib.hid (fun w hw => HB0.out.trans (hw.mono HB0.out.size))
  have HG := Lib.hid hg
  have HV : Hid (v = frN f (s.drop 0) 0) := Lib.hid (by rw [hv, List.drop_zero])
  have HR : Hid (RowAt 2 TyAt W F A s) := Lib.hid hs
  clear hW hg hv hs
  go_enter Tryz.func31, Tryz.ntmps31
  go_wp2_with fail
  rw [← HW.out]
  go_loopw [12] (fun i wr => ∃ j : Nat, j ≤ s.length ∧ i = .int .i64 j ∧ Hid (v = frN f (s.drop j) j) ∧ Hid (Below W1.heap.size W1 wr)) (fun i _ => s.length - (intOf i).toNat)
  case atStart => exact ⟨0, by omega, rfl, HV, Lib.hid (Below.refl _ _)⟩
  case round =>
    obtain ⟨j, hj, rfl, H, BW⟩ := hrel
    obtain ⟨x0, v0, v1, v2, f0, f1, f2⟩ := HX.out wr BW.out
    by_cases hlt : j < s.length
    · obtain ⟨b, off, B, d, rfl, ⟨hn1, hrl⟩, _, hc⟩ := HR.out.ty hlt
      obtain ⟨z0, z1⟩ := hc wr (HF.out wr BW.out)
      have HL : Hid (v = orF (frRow (f j) j (s[j].rels.drop 0) 0) (frN f (s.drop (j + 1)) (j + 1))) := Lib.hid (by rw [H.out, frN_drop hlt, List.drop_zero])
      have HGJ := Lib.hid (fun w hw k hk => HG.out w hw j hlt k hk)
      clear hc v0 v1 v2 f0 f1 f2
      generalize s[j].rels = rs at *
      generalize s[j].name = nm at *
      have HB9 := Lib.hid ((BW.out).alloc BW.out.size (.cells #[strV nm, .slice B rs.length d] 38))
      go_wp2_with fail
      go_loopw [20] (fun i w6 => ∃ k : Nat, k ≤ rs.length ∧ i = .int .i64 k ∧ Hid (v = orF (frRow (f j) j (rs.drop k) k) (frN f (s.drop (j + 1)) (j + 1))) ∧ Hid (Below W1.heap.size W1 w6)) (fun i _ => rs.length - (intOf i).toNat)
      case atStart => exact ⟨0, by omega, rfl, HL, HB9⟩
      case round =>
        rename World => w6
        obtain ⟨k, hk, rfl, H6, B6⟩ := hrel
        by_cases hkl : k < rs.length
        · have HD := Lib.hid (frRow_drop (f := f j) (t := j) hkl)
          have HC := Lib.hid (HGJ.out w6 (HF.out w6 B6.out) k hkl)
          obtain ⟨q, hq⟩ : ∃ q, f j k = q := ⟨_, rfl⟩
          rw [hq] at HC HD
          clear hq
          by_cases hq0 : q = 0
          · subst hq0
            have HN : Hid (v = orF (frRow (f j) j (rs.drop (k + 1)) (k + 1)) (frN f (s.drop (j + 1)) (j + 1))) := Lib.hid (by rw [H6.out, HD.out, if_neg (fun h => h rfl)])
            go_wp2_with (go_at_fn g; refine HC.out.mono ?_; rintro r w2 ⟨rfl, hb2⟩; have HB2 := Lib.hid hb2; clear hb2)
            go_roundw
            case rel => exact ⟨k + 1, by omega, by go_num, HN, Lib.hid (hop B6.out HB2.out)⟩
            case measure => simp [intOf]; omega
          · have HN : Hid (v = ((j : Int), (k : Int), q)) := Lib.hid (by rw [H6.out, HD.out, if_pos hq0]; rfl)
            have q1 : ¬ (q : Int) = 0 := by omega
            have q2 : ((q : Int) != 0) = true := bne_iff_ne.2 q1
            clear hq0
            go_wp2_with (go_at_fn g; refine HC.out.mono ?_; rintro r w2 ⟨rfl, hb2⟩; have HB2 := Lib.hid (hop B6.out hb2); obtain ⟨y0, v0, v1, v2, f0, f1, f2⟩ := HX.out w2 HB2.out; clear hb2)
            refine bodyPost_ret (v := .agg #[.int .i64 (j), .int .i64 (k), .int .i64 (q)]) (by simp [results, Tryz.results31, go_sem, v0, v1, v2]) rfl ?_
            exact ⟨by rw [HN.out] <;> rfl, (((HF.out w2 HB2.out).setCell (p := ⟨W.heap.size + 1, 0, none⟩) (Nat.le_succ _) _).setCell (p := ⟨W.heap.size + 1, 1, none⟩) (Nat.le_succ _) _).setCell (p := ⟨W.heap.size + 1, 2, none⟩) (Nat.le_succ _) _⟩
        · have HN : Hid (v = frN f (s.drop (j + 1)) (j + 1)) := Lib.hid (by rw [H6.out, List.drop_of_length_le (l := rs) (i := k) (by omega)]; rfl)
          go_wp2_with fail
          go_roundw
          case rel => exact ⟨j + 1, by omega, by go_num, HN, B6⟩
          case measure => simp [intOf]; omega
    · have HN : Hid (v = (0, 0, 0)) := Lib.hid (by rw [H.out, List.drop_of_length_le (by omega)]; rfl)
      go_wp2_with fail
      refine bodyPost_ret (v := .agg #[.int .i64 (0), .int .i64 (0), .int .i64 (0)]) (by simp [results, Tryz.results31, go_sem, v0, v1, v2]) rfl ?_
      exact ⟨by rw [HN.out] <;> rfl, (((HF.out wr BW.out).setCell (p := ⟨W.heap.size + 1, 0, none⟩) (Nat.le_succ _) _).setCell (p := ⟨W.heap.size + 1, 1, none⟩) (Nat.le_succ _) _).setCell (p := ⟨W.heap.size + 1, 2, none⟩) (Nat.le_succ _) _⟩
end Go.Proofs.YtdnhbledndgbcaaGreat
namespace Go.Proofs.YtdnhbledndgbcaaGreat
open Go.RowKit
def orFs : List Fa → Fa
  | [] => (0, 0, 0)
  | a :: r => if a = (0, 0, 0) then orFs r else a
theorem orFs_drop {l : List Fa} {j : Nat} (h : j < l.length) : orFs (l.drop j) = if l[j] = (0, 0, 0) then orFs (l.drop (j + 1)) else l[j] := by
  rw [List.drop_eq_getElem_cons h, orFs]
def orEs : List Nat → Nat
  | [] => 0
  | a :: r => if a = 0 then orEs r else a
theorem orEs_drop {l : List Nat} {j : Nat} (h : j < l.length) : orEs (l.drop j) = if l[j] = 0 then orEs (l.drop (j + 1)) else l[j] := by
  rw [List.drop_eq_getElem_cons h, orEs]
theorem fault_neq (a : Fa) (w : World) : (binOp .neq 33 (.agg #[.int .i64 a.1, .int .i64 a.2.1, .int .i64 (a.2.2 : Int)]) (.agg #[.int .i64 0, .int .i64 0, .int .i64 0])).run Tryz.prog w = .ok (.bool (!decide (a = (0, 0, 0)))) w := by
  obtain ⟨x, y, z⟩ := a
  simp [go_sem]
  by_cases h1 : x = 0
  · by_cases h2 : y = 0
    · by_cases h3 : z = 0 <;> simp [h1, h2, h3]
    · simp [h1, h2]
  · simp [h1]
def FasAt (W : World) (g : Nat) (l : List Fa) : Prop := g < W.heap.size ∧ ∀ j (h : j < l.length), W.cell? ⟨g, j * 3, none⟩ = some (.int .i64 l[j].1) ∧ W.cell? ⟨g, j * 3 + 1, none⟩ = some (.int .i64 l[j].2.1) ∧ W.cell? ⟨g, j * 3 + 2, none⟩ = some (.int .i64 (l[j].2.2 : Int))
set_option maxRecDepth 100000 in
set_option maxHeartbeats 2000000 in
theorem orFs_any (W : World) (g c : Nat) (l : List Fa) (h : FasAt W g l) (hl : l.length ≤ 1000000) :
    Calls Tryz.prog 27 #[.slice (some ⟨g, 0, none⟩) l.length c] W fun r w' => r = .returned (faV (orFs l)) ∧ Below W.heap.size W w' := by
  obtain ⟨v, hv⟩ : ∃ v, v = orFs l := ⟨_, rfl⟩
  rw [← hv]
  obtain ⟨W1, hW⟩ : ∃ W1, W1 = (W.alloc (.cells #[.int .i64 0, .int .i64 0, .int .i64 0] 33)).alloc (.cells #[.int .i64 0, .int .i64 0, .int .i64 0] 33) := ⟨_, rfl⟩
  have HKA : Hid (Blk W1 W.heap.size [.int .i64 0, .int .i64 0, .int .i64 0] 33) := by rw [hW]; exact Lib.hid ((Blk.new W _ _).alloc _)
  have HKE : Hid (Blk W1 (W.heap.size + 1) [.int .i64 0, .int .i64 0, .int .i64 0] 33) := by
    rw [hW]
    have := Blk.new (W.alloc (.cells #[.int .i64 0, .int .i64 0, .int .i64 0] 33)) [.int .i64 0, .int .i64 0, .int .i64 0] 33
    rw [World.size_alloc] at this
    exact Lib.hid this
  have HB0 : Hid (Below W.heap.size W W1) := by rw [hW]; exact Lib.hid (((Below.refl _ _).alloc (Nat.le_refl _) _).alloc (by simp) _)
  have HW := Lib.hid hW
  have HX : Hid (∀ w, Below W1.heap.size W1 w → w.cell? ⟨W.heap.size, 0, none⟩ = some (.int .i64 0) ∧ w.cell? ⟨W.heap.size, 1, none⟩ = some (.int .i64 0) ∧ w.cell? ⟨W.heap.size, 2, none⟩ = some (.int .i64 0) ∧ w.cell? ⟨W.heap.size + 1, 0, none⟩ = some (.int .i64 0) ∧ w.cell? ⟨W.heap.size + 1, 1, none⟩ = some (.int .i64 0) ∧ w.cell? ⟨W.heap.size + 1, 2, none⟩ = some (.int .i64 0) ∧ w.frozen? ⟨W.heap.size, 0, none⟩ = false ∧ w.frozen? ⟨W.heap.size, 1, none⟩ = false ∧ w.frozen? ⟨W.heap.size, 2, none⟩ = false) := Lib.hid (fun w hw => by
    have h1 := HKA.out.below hw HKA.out.lt
    have h2 := HKE.out.below hw HKE.out.lt
    exact ⟨h1.cell (i := 0) (by simp), h1.cell (i := 1) (by simp), h1.cell (i := 2) (by simp), h2.cell (i := 0) (by simp), h2.cell (i := 1) (by simp), h2.cell (i := 2) (by simp), h1.free 0, h1.free 1, h1.free 2⟩)
  have HF : Hid (∀ w, Below W1.heap.size W1 w → Below W.heap.size W w) := Lib.hid (fun w hw => HB0.out.trans (hw.mono HB0.out.size))
  have HC : Hid (∀ w, Below W1.heap.size W1 w → ∀ j (h : j < l.length), w.cell? ⟨g, j * 3, none⟩ = some (.int .i64 l[j].1) ∧ w.cell? ⟨g, j * 3 + 1, none⟩ = some (.int .i64 l[j].2.1) ∧ w.cell? ⟨g, j * 3 + 2, none⟩ = some (.int .i64 (l[j].2.2 : Int))) := Lib.hid (fun w hw j hj => by
    have hb := HF.out w hw
    obtain ⟨h1, h2, h3⟩ := h.2 j hj
    exact ⟨(hb.cell (p := ⟨g, _, none⟩) h.1).trans h1, (hb.cell (p := ⟨g, _, none⟩) h.1).trans h2, (hb.cell (p := ⟨g, _, none⟩) h.1).trans h3⟩)
  have HV : Hid (v = orFs (l.drop 0)) := Lib.hid (by rw [hv, List.drop_zero])
  clear hW hv h
  go_enter Tryz.func27, Tryz.ntmps27
  go_wp2_with fail
  rw [← HW.out]
  go_loopw [8] (fun i wr => ∃ j : Nat, j ≤ l.length ∧ i = .int .i64 j ∧ Hid (v = orFs (l.drop j)) ∧ Hid (Below W1.heap.size W1 wr)) (fun i _ => l.length - (intOf i).toNat)
  case atStart => exact ⟨0, by omega, rfl, HV, Lib.hid (Below.refl _ _)⟩
  case round =>
    obtain ⟨j, hj, rfl, H, BW⟩ := hrel
    obtain ⟨v0, v1, v2, u0, u1, u2, f0, f1, f2⟩ := HX.out wr BW.out
    by_cases hlt : j < l.length
    · have HD := Lib.hid (orFs_drop hlt)
      obtain ⟨z0, z1, z2⟩ := HC.out wr BW.out j hlt
      have hne := fault_neq l[j]
      obtain ⟨a, ha⟩ : ∃ a, l[j] = a := ⟨_, rfl⟩
      rw [ha] at HD z0 z1 z2 hne
      clear ha
      obtain ⟨x, y, z⟩ := a
      dsimp only at z0 z1 z2 hne
      have HB9 := Lib.hid ((BW.out).alloc BW.out.size (.cells #[.int .i64 x, .int .i64 y, .int .i64 (z : Int)] 33))
      obtain ⟨v0', v1', v2', u0', u1', u2', f0', f1', f2'⟩ := HX.out _ HB9.out
      by_cases hz : (x, y, z) = ((0, 0, 0) : Fa)
      · have HN : Hid (v = orFs (l.drop (j + 1))) := Lib.hid (by rw [H.out, HD.out, if_pos hz])
        rw [decide_eq_true hz] at hne
        clear hz
        go_wp2_with fail
        go_roundw
        case rel => exact ⟨j + 1, by omega, by go_num, HN, HB9⟩
        case measure => simp [intOf]; omega
      · have HN : Hid (v = (x, y, z)) := Lib.hid (by rw [H.out, HD.out, if_neg hz])
        rw [decide_eq_false hz] at hne
        clear hz
        go_wp2_with fail
        refine bodyPost_ret (v := .agg #[.int .i64 x, .int .i64 y, .int .i64 (z : Int)]) (by simp [results, Tryz.results27, go_sem, v0', v1', v2']) rfl ?_
        exact ⟨by rw [HN.out] <;> rfl, (((HF.out _ HB9.out).setCell (p := ⟨W.heap.size, 0, none⟩) (Nat.le_refl _) _).setCell (p := ⟨W.heap.size, 1, none⟩) (Nat.le_refl _) _).setCell (p := ⟨W.heap.size, 2, none⟩) (Nat.le_refl _) _⟩
    · have HN : Hid (v = (0, 0, 0)) := Lib.hid (by rw [H.out, List.drop_of_length_le (by omega)]; rfl)
      go_wp2_with fail
      refine bodyPost_ret (v := .agg #[.int .i64 0, .int .i64 0, .int .i64 0]) (by simp [results, Tryz.results27, go_sem, v0, v1, v2]) rfl ?_
      exact ⟨by rw [HN.out] <;> rfl, (((HF.out _ BW.out).setCell (p := ⟨W.heap.size, 0, none⟩) (Nat.le_refl _) _).setCell (p := ⟨W.heap.size, 1, none⟩) (Nat.le_refl _) _).setCell (p := ⟨W.heap.size, 2, none⟩) (Nat.le_refl _) _⟩
def EsAt (W : World) (g : Nat) (l : List Nat) : Prop := g < W.heap.size ∧ ∀ j (h : j < l.length), W.cell? ⟨g, j, none⟩ = some (.int .i64 (l[j] : Int))
set_option maxRecDepth 100000 in
set_option maxHeartbeats 2000000 in
theorem orEs_any (W : World) (g c : Nat) (l : List Nat) (h : EsAt W g l) (hl : l.length ≤ 1000000) :
    Calls Tryz.prog 79 #[.slice (some ⟨g, 0, none⟩) l.length c] W fun r w' => r = .returned (.int .i64 (orEs l : Int)) ∧ Below W.heap.size W w' := by
  obtain ⟨v, hv⟩ : ∃ v, v = orEs l := ⟨_, rfl⟩
  rw [← hv]
  have HC : Hid (∀ w, Below W.heap.size W w → ∀ j (h : j < l.length), w.cell? ⟨g, j, none⟩ = some (.int .i64 (l[j] : Int))) := Lib.hid (fun w hw j hj => (hw.cell (p := ⟨g, _, none⟩) h.1).trans (h.2 j hj))
  have HV : Hid (v = orEs (l.drop 0)) := Lib.hid (by rw [hv, List.drop_zero])
  clear hv h
  go_enter Tryz.func79, Tryz.ntmps79
  go_wp2_with fail
  go_loopw [8] (fun i wr => ∃ j : Nat, j ≤ l.length ∧ i = .int .i64 j ∧ Hid (v = orEs (l.drop j)) ∧ Hid (Below W.heap.size W wr)) (fun i _ => l.length - (intOf i).toNat)
  case atStart => exact ⟨0, by omega, rfl, HV, Lib.hid (Below.refl _ _)⟩
  case round =>
    obtain ⟨j, hj, rfl, H, BW⟩ := hrel
    by_cases hlt : j < l.length
    · have HD := Lib.hid (orEs_drop hlt)
      have z0 := HC.out wr BW.out j hlt
      obtain ⟨q, ha⟩ : ∃ q, l[j] = q := ⟨_, rfl⟩
      rw [ha] at HD z0
      clear ha
      by_cases hq0 : q = 0
      · subst hq0
        have HN : Hid (v = orEs (l.drop (j + 1))) := Lib.hid (by rw [H.out, HD.out, if_pos rfl])
        go_wp2_with fail
        go_roundw
        case rel => exact ⟨j + 1, by omega, by go_num, HN, BW⟩
        case measure => simp [intOf]; omega
      · have HN : Hid (v = q) := Lib.hid (by rw [H.out, HD.out, if_neg hq0])
        have q1 : ¬ (q : Int) = 0 := by omega
        have q2 : ((q : Int) != 0) = true := bne_iff_ne.2 q1
        clear hq0
        go_wp2_with fail
        go_ret
        exact ⟨by rw [HN.out] <;> rfl, BW.out⟩
    · have HN : Hid (v = 0) := Lib.hid (by rw [H.out, List.drop_of_length_le (by omega)]; rfl)
      go_wp2_with fail
      go_ret
      exact ⟨by rw [HN.out] <;> rfl, BW.out⟩
end Go.Proofs.YtdnhbledndgbcaaGreat
namespace Go.Proofs.YtdnhbledndgbcaaGreat
open Go.RowKit
def WdTo (s : ByteArray) (k : Nat) : Prop := ∀ j (_ : j < k) (h : j < s.size), (j = 0 → lowB s[j] = true) ∧ nmB s[j] = true
theorem low_nm {c : UInt8} (h : lowB c = true) : nmB c = true := by unfold nmB; rw [h]; rfl
theorem WdTo.next {s : ByteArray} {k : Nat} (H : WdTo s k) (h : k < s.size) (h0 : k = 0 → lowB s[k] = true) (h1 : nmB s[k] = true) : WdTo s (k + 1) := by
  intro j hj h2
  by_cases hjk : j < k
  · exact H j hjk h2
  · obtain rfl : j = k := by omega
    exact ⟨h0, h1⟩
theorem WdTo.end_ {s : ByteArray} {k : Nat} (H : WdTo s k) (hk : k ≤ s.size) (hend : ∀ h : k < s.size, if k = 0 then lowB s[k] = false else nmB s[k] = false) : wordL s.data.toList = k := by
  have hl : s.data.toList.length = s.size := size_list s
  have hget : ∀ j (h : j < s.size), s.data.toList[j]'(by rw [hl]; exact h) = s[j] := fun j h => rfl
  cases hd : s.data.toList with
  | nil =>
    rw [hd] at hl
    simp at hl
    rw [wordL]; omega
  | cons c r =>
    have h0 : 0 < s.size := by rw [← hl, hd]; simp
    have hc : s[0] = c := by
      have := hget 0 h0
      rw [← this]
      simp only [hd, List.getElem_cons_zero]
    have hr : ∀ j (h : j + 1 < s.size), r[j]'(by have := hl; rw [hd] at this; simp at this; omega) = s[j + 1] := fun j h => by
      have := hget (j + 1) h
      rw [← this]
      simp only [hd, List.getElem_cons_succ]
    have hrl : r.length + 1 = s.size := by rw [← hl, hd]; simp
    rw [wordL]
    by_cases hk0 : k = 0
    · subst hk0
      have := hend h0
      rw [if_pos rfl, hc] at this
      rw [this]; rfl
    · have h1 := (H 0 (by omega) h0).1 rfl
      rw [hc] at h1
      rw [if_pos h1]
      have e : r.takeWhile nmB = r.take (k - 1) := by
        have hp : ∀ a ∈ r.take (k - 1), nmB a = true := by
          intro a ha
          obtain ⟨j, hj, rfl⟩ := List.getElem_of_mem ha
          rw [List.length_take] at hj
          rw [List.getElem_take, hr j (by omega)]
          exact (H (j + 1) (by omega) (by omega)).2
        have hq : (r.drop (k - 1)).takeWhile nmB = [] := by
          by_cases hlt : k < s.size
          · have h2 := hend hlt
            rw [if_neg hk0] at h2
            rw [List.drop_eq_getElem_cons (by omega), List.takeWhile_cons, hr (k - 1) (by omega)]
            have e2 : s[k - 1 + 1]'(by omega) = s[k] := by congr 1; omega
            rw [e2, h2]; rfl
          · rw [List.drop_of_length_le (by omega)]; rfl
        have h3 := List.takeWhile_append_of_pos (l₂ := r.drop (k - 1)) hp
        rw [List.take_append_drop, hq, List.append_nil] at h3
        exact h3
      rw [e, List.length_take]; omega
set_option maxHeartbeats 1000000 in
theorem word_of_any (s : ByteArray) (w : World) (hm : s.size ≤ 9223372036854775807) :
    Calls Tryz.prog 65 #[.string s] w fun e w' => e = .returned (.int .i64 (wordL s.data.toList)) ∧ w' = w := by
  go_enter Tryz.func65, Tryz.ntmps65
  go_wp2_with fail
  go_loop [3] (fun i => ∃ k : Nat, k ≤ s.size ∧ i = .int .i64 k ∧ Hid (WdTo s k)) (fun i => s.size - (intOf i).toNat)
  case atStart => exact ⟨0, by omega, rfl, Lib.hid (fun j hj => absurd hj (by omega))⟩
  case round =>
    obtain ⟨k, hk, rfl, H⟩ := hrel
    by_cases hlt : k < s.size
    · have hx := s[k].toNat_lt
      by_cases hlow : 97 ≤ s[k].toNat ∧ s[k].toNat ≤ 122
      · obtain ⟨d1, d2⟩ := hlow
        have hl : lowB s[k] = true := by simp [lowB, d1, d2]
        have HG := Lib.hid (H.out.next hlt (fun _ => hl) (low_nm hl))
        clear hl
        go_wp2_with fail
        go_round
        case rel => exact ⟨k + 1, by omega, by go_num, HG⟩
        case measure => simp [intOf]; omega
      · have hnl : lowB s[k] = false := by simp [lowB]; omega
        have hlc : s[k].toNat < 97 ∨ (97 ≤ s[k].toNat ∧ 122 < s[k].toNat ∧ decide ((s[k].toNat : Int) ≤ 122) = false) := by simp only [decide_eq_false_iff_not]; omega
        by_cases h0 : 0 < k
        · by_cases hmore : s[k].toNat = 95 ∨ (48 ≤ s[k].toNat ∧ s[k].toNat ≤ 57)
          · have hnm : nmB s[k] = true := by
              rcases hmore with h | ⟨h1, h2⟩
              · simp [nmB, h]
              · simp [nmB, numB, h1, h2]
            have HG := Lib.hid (H.out.next hlt (fun h => absurd h (by omega)) hnm)
            have hm2 : (s[k].toNat : Int) = 95 ∨ (¬ (s[k].toNat : Int) = 95 ∧ 48 ≤ s[k].toNat ∧ s[k].toNat ≤ 57 ∧ s[k].toNat < 97) := by omega
            clear hlow hmore hnm hnl
            rcases hm2 with e95 | ⟨e95, b1, b2, b3⟩
            · have b3 : s[k].toNat < 97 := by omega
              clear hlc
              go_wp2_with fail
              go_round
              case rel => exact ⟨k + 1, by omega, by go_num, HG⟩
              case measure => simp [intOf]; omega
            · clear hlc
              go_wp2_with fail
              go_round
              case rel => exact ⟨k + 1, by omega, by go_num, HG⟩
              case measure => simp [intOf]; omega
          · have hnm : nmB s[k] = false := by simp [nmB, lowB, numB]; omega
            have HG : Hid (wordL s.data.toList = k) := Lib.hid (H.out.end_ hk (fun _ => by rw [if_neg (by omega)]; exact hnm))
            have e95 : ¬ (s[k].toNat : Int) = 95 := by omega
            have hc : s[k].toNat < 48 ∨ (48 ≤ s[k].toNat ∧ 57 < s[k].toNat ∧ s[k].toNat < 97 ∧ decide ((s[k].toNat : Int) ≤ 57) = false) ∨ (48 ≤ s[k].toNat ∧ 57 < s[k].toNat ∧ 97 ≤ s[k].toNat ∧ 122 < s[k].toNat ∧ decide ((s[k].toNat : Int) ≤ 122) = false ∧ decide ((s[k].toNat : Int) ≤ 57) = false) := by simp only [decide_eq_false_iff_not]; omega
            clear hlow hmore hnm hnl hlc
            rcases hc with c1 | ⟨c1, c2, c3, c4⟩ | ⟨c1, c2, c3, c4, c5, c6⟩
            all_goals go_wp2_with fail
            all_goals go_ret
            all_goals exact ⟨by rw [HG.out]; rfl, rfl⟩
        · have HG : Hid (wordL s.data.toList = k) := Lib.hid (H.out.end_ hk (fun _ => by rw [if_pos (by omega)]; exact hnl))
          have hd : decide (0 < k) = false := decide_eq_false h0
          clear hlow hnl
          rcases hlc with c1 | ⟨c1, c2, c3⟩
          all_goals go_wp2_with fail
          all_goals go_ret
          all_goals exact ⟨by rw [HG.out]; rfl, rfl⟩
    · have HG : Hid (wordL s.data.toList = k) := Lib.hid (H.out.end_ hk (fun h => absurd h hlt))
      go_wp2_with fail
      go_ret
      exact ⟨by rw [HG.out]; rfl, rfl⟩
theorem extract_one (s : ByteArray) (k : Nat) (h : k < s.size) : s.extract k (k + 1) = ⟨#[s[k]]⟩ := by
  rw [extract_list, take_list s k h, List.drop_append_of_le_length (by rw [List.length_take, size_list]; omega)]
  congr 1
  rw [List.drop_of_length_le (by rw [List.length_take]; omega)]; rfl
set_option maxHeartbeats 1000000 in
theorem sign_any (c : UInt8) (w : World) :
    Calls Tryz.prog 66 #[.int .u8 (c.toNat : Int)] w fun e w' => e = .returned (strV (signT c)) ∧ w' = w := by
  obtain ⟨S, hS⟩ : ∃ S : ByteArray, S = ⟨#[58, 124, 35, 43, 45, 38, 46, 40, 41]⟩ := ⟨_, rfl⟩
  have hsz : S.size ≤ 1000 := by rw [hS]; decide
  have hls : S.data.toList = signs := by rw [hS]; rfl
  have hmem : ∀ k (h : k < S.size), S[k] ∈ signs := by
    intro k h
    rw [← hls]
    exact List.getElem_mem (l := S.data.toList) (n := k) (by rw [size_list]; exact h)
  have hall : (∀ k (h : k < S.size), S[k] ≠ c) → c ∉ signs := by
    intro h hc
    rw [← hls] at hc
    obtain ⟨k, hk, hkc⟩ := List.getElem_of_mem hc
    exact h k (by rw [size_list] at hk; exact hk) hkc
  have HS := Lib.hid hS
  have HM := Lib.hid hmem
  have HA := Lib.hid hall
  clear hS hmem hall hls
  go_enter Tryz.func66, Tryz.ntmps66
  go_wp2_with fail
  rw [← HS.out]
  go_loop [4] (fun i => ∃ k : Nat, k ≤ S.size ∧ i = .int .i64 k ∧ Hid (∀ j (_ : j < k) (h : j < S.size), S[j] ≠ c)) (fun i => S.size - (intOf i).toNat)
  case atStart => exact ⟨0, by omega, rfl, Lib.hid (fun j hj => absurd hj (by omega))⟩
  case round =>
    obtain ⟨k, hk, rfl, H⟩ := hrel
    by_cases hlt : k < S.size
    · have hks : k < S.size := hlt
      have hx := S[k].toNat_lt
      by_cases hc : S[k] = c
      · have hsg : signT c = [c] := by unfold signT; rw [if_pos (by rw [← hc]; exact HM.out k hks)]
        have HE : Hid (S.extract k (k + 1) = ⟨(signT c).toArray⟩) := Lib.hid (by rw [extract_one S k hks, hc, hsg])
        have e1 : (S[k].toNat : Int) = (c.toNat : Int) := by rw [hc]
        clear hc hsg
        have c1 : (0 : Int) ≤ (k : Int) := by omega
        have c2 : (k : Int) ≤ (k : Int) + 1 := by omega
        have c3 : (k : Int) + 1 ≤ (S.size : Int) := by omega
        go_wp2_with fail
        go_ret
        exact ⟨by show Ending.returned (.string (S.extract k (k + 1))) = _; rw [HE.out], rfl⟩
      · have HG : Hid (∀ j (_ : j < k + 1) (h : j < S.size), S[j] ≠ c) := Lib.hid (fun j hj h => by
          by_cases hjk : j < k
          · exact H.out j hjk h
          · obtain rfl : j = k := by omega
            exact hc)
        have e1 : ¬ (S[k].toNat : Int) = (c.toNat : Int) := fun h => hc (UInt8.toNat_inj.1 (by omega))
        clear hc
        go_wp2_with fail
        go_round
        case rel => exact ⟨k + 1, by omega, by go_num, HG⟩
        case measure => simp [intOf]; omega
    · have HG : Hid (signT c = [63]) := Lib.hid (by
        unfold signT
        rw [if_neg (HA.out (fun k' h => H.out k' (by omega) h))])
      go_wp2_with fail
      go_ret
      exact ⟨by rw [HG.out]; rfl, rfl⟩
end Go.Proofs.YtdnhbledndgbcaaGreat
namespace Go.Proofs.YtdnhbledndgbcaaGreat
open Go.RowKit
structure RowT (P : Program) (t e : TypeId) (s b : Nat) (i : TypeInfo) (z : Value) : Prop where
  ht : P.underlying t = some (.slice e)
  hi : P.info? e = some i
  hz : i.zero = some z
  hs : i.size = s
  hb : i.bytes = b
  zs : z.cells.size = s
theorem ownrow_shape {e : TypeId} {s : Nat} {w : World} {base n : Nat} {v : Value} {xs : List Value} (h : w.ownsRow base e s v n xs) : ∃ A c, v = .slice A n c := by
  rcases h.2 with ⟨rfl, h0⟩ | ⟨g, cap, cur, rfl, _⟩
  · exact ⟨none, 0, by rw [h0]⟩
  · exact ⟨_, _, rfl⟩
theorem cells_new (w : World) (L : List Value) (t : TypeId) : ∀ j u, L[j]? = some u → (w.alloc (.cells L.toArray t)).cell? ((⟨w.heap.size, 0, none⟩ : Addr).add j) = some u := by
  intro j u hj
  rw [add_plain, World.cell?_alloc_at _ _ _ _ rfl]
  simpa using hj
theorem wpList_append_struct {P : Program} (w : World) {ops : Array Oper} {rest : List Oper} {o : Oper} {ac : Act} {Q : Exit → Act → World → Prop} (hgd : o.guard = none) (s x : Operand) (t : TypeId)
    (ho : o.op = .call { callee := .builtin .append, args := #[s, x], argTypes := #[t, t] })
    {e : TypeId} {k b : Nat} {i : TypeInfo} {z : Value} (R : RowT P t e k b i z) (hk : 0 < k) (hb64 : b ≤ 128)
    (w0 : World) (A : Option Addr) (n c : Nat) (xs : List Value) (L : List Value) (hL : L.length = k) (hs : ac.eval s = .slice A n c) (hx : ac.eval x = .slice (some ⟨w.heap.size, 0, none⟩) 1 1)
    (hb : Below w0.heap.size w0 w) (h : w.ownsRow w0.heap.size e k (.slice A n c) n xs) (hone : ∀ u ∈ L, u.oneCell' = true) (hn : n ≤ 1000000)
    (K : ∀ A' c' w', w'.ownsRow w0.heap.size e k (.slice A' (n + 1) c') (n + 1) (xs ++ L) → Below w0.heap.size w0 w' → (w.alloc (.cells L.toArray e)).grownBy w' (Value.slice A n c).ownBlock →
      ((Value.slice A' (n + 1) c').ownBlock = (Value.slice A n c).ownBlock ∨ (Value.slice A' (n + 1) c').ownBlock = some (w.heap.size + 1)) → wpList P ops Q rest (ac.put o.dst (.slice A' (n + 1) c')) w') :
    wpList P ops Q (o :: rest) ac (w.alloc (.cells L.toArray e)) := by
  have hB : w0.heap.size ≤ (w.alloc (.cells L.toArray e)).heap.size := by have := hb.size; simp; omega
  have hlist : (w.alloc (.cells L.toArray e)).ownsRow w0.heap.size e k (.slice A n c) n xs := h.alloc _
  refine wpList_append_own_at (w.alloc (.cells L.toArray e)) hgd s x t ho w0.heap.size e i z k b R.ht R.hi R.hz R.hs R.hb R.zs hk _ n _ hs hlist ⟨w.heap.size, 0, none⟩ 1 1 L hx (by rw [hL, Nat.one_mul]) (cells_new _ _ _) hone (by unfold maxLen; omega) (Nat.le_trans (Nat.mul_le_mul_left _ hb64) (by omega)) hB ?_
  intro v' w' hown hg _ hat
  obtain ⟨A', c', rfl⟩ := ownrow_shape hown
  exact K A' c' w' hown (below_grown (hb.alloc hb.size _) hB hlist hg) hg (by simpa using hat)
end Go.Proofs.YtdnhbledndgbcaaGreat
