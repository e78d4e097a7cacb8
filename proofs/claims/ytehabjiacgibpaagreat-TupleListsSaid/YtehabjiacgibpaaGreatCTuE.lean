/-
  What the document's Tuple comes to. Condition: a string's length fits an int.
  What the document's Less comes to. Condition: none.
  The order of keys, and lists of pairs that rise by it: putting, taking out, finding, scanning. No program is named here.
  The order of tuples is one: lists of six texts, by the first one in which they differ. No program is named.
  'append(l, x)' of a struct just laid, onto a row of the call's own. No program is named.
  A row of structs of the call's own: kept where other blocks turn; and as a row that lies outside some blocks. No program is named.
  A row of tuples, as it lies. No program is named.
-/
import Derived.Test.YtehabjiacgibpaaGreatCNmSub
import Derived.Test.YtehabjiacgibpaaGreatCFlat
import Derived.Lib.Bytealg
import Derived.Maps.AppendAt
import Derived.OwnWalk
namespace Go.Proofs.YtehabjiacgibpaaGreat
open Go.RowKit
abbrev Tup := Txt × Txt × Txt × Txt × Txt × Txt
def tupL (l : Txt) : Option Tup :=
  if (cutL l 64).2.2 && ((cutL (cutL l 64).1 35).2.2 && ((objL (cutL (cutL l 64).1 35).1).isSome && ((subL (cutL l 64).2.1).isSome && nameL (cutL (cutL l 64).1 35).2.1))) then
    some (((objL (cutL (cutL l 64).1 35).1).getD ([], [])).1, ((objL (cutL (cutL l 64).1 35).1).getD ([], [])).2, (cutL (cutL l 64).1 35).2.1, (subL (cutL l 64).2.1).getD ([], [], []))
  else none
def tupV : Option Tup → Value
  | none => .agg #[strV [], strV [], strV [], strV [], strV [], strV []]
  | some (a, b, c, d, e, f) => .agg #[strV a, strV b, strV c, strV d, strV e, strV f]
theorem objV_eq (o : Option (Txt × Txt)) : objV o = .agg #[strV (o.getD ([], [])).1, strV (o.getD ([], [])).2] := by cases o <;> rfl
theorem subV_eq (o : Option (Txt × Txt × Txt)) : subV o = .agg #[strV (o.getD ([], [], [])).1, strV (o.getD ([], [], [])).2.1, strV (o.getD ([], [], [])).2.2] := by cases o <;> rfl
theorem below_box6 {w w2 : World} (h : Below w.heap.size w w2) (lt : w.heap.size < w2.heap.size) (a b c d e f : Value) (o : Obj) :
    Below w.heap.size w (((((((w2.setCell ⟨w.heap.size, 0, none⟩ a).setCell ⟨w.heap.size, 1, none⟩ b).setCell ⟨w.heap.size, 2, none⟩ c).setCell ⟨w.heap.size, 3, none⟩ d).setCell ⟨w.heap.size, 4, none⟩ e).setCell ⟨w.heap.size, 5, none⟩ f).alloc o) :=
  ((((((h.setCell (Nat.le_refl _) _).setCell (Nat.le_refl _) _).setCell (Nat.le_refl _) _).setCell (Nat.le_refl _) _).setCell (Nat.le_refl _) _).setCell (Nat.le_refl _) _).alloc (by simp; omega) _
set_option maxHeartbeats 800000 in
theorem refTuple_any (l : Txt) (w : World) (hm : l.length ≤ 9223372036854775807) :
    Calls Tryz.prog 39 #[strV l] w fun e w' =>
      e = .returned (.tuple #[tupV (tupL l), .bool (tupL l).isSome]) ∧ Below w.heap.size w w' := by
  obtain ⟨p, hp⟩ : ∃ p, p = (cutL l 64).1 := ⟨_, rfl⟩
  obtain ⟨q, hq⟩ : ∃ q, q = (cutL l 64).2.1 := ⟨_, rfl⟩
  obtain ⟨b, hb⟩ : ∃ b, b = (cutL l 64).2.2 := ⟨_, rfl⟩
  obtain ⟨p2, hp2⟩ : ∃ p2, p2 = (cutL p 35).1 := ⟨_, rfl⟩
  obtain ⟨q2, hq2⟩ : ∃ q2, q2 = (cutL p 35).2.1 := ⟨_, rfl⟩
  obtain ⟨b2, hb2⟩ : ∃ b2, b2 = (cutL p 35).2.2 := ⟨_, rfl⟩
  have hL := cutL_len l 64
  have hL2 := cutL_len p 35
  rw [← hp, ← hq] at hL
  rw [← hp2, ← hq2] at hL2
  have hC1 := fun W => refCut_txt l 64 W hm
  have hC2 := fun W => refCut_txt p 35 W (by omega)
  simp only [show ((64 : UInt8).toNat : Int) = 64 from rfl, ← hp, ← hq, ← hb] at hC1
  simp only [show ((35 : UInt8).toNat : Int) = 35 from rfl, ← hp2, ← hq2, ← hb2] at hC2
  have HC1 := Lib.hid hC1
  have HC2 := Lib.hid hC2
  have hO := fun W => refObject_any p2 W (by omega)
  have hS := fun W => refSubject_any q W (by omega)
  have hN := fun W => refName_txt q2 W (by omega)
  have ht : tupL l = if b && (b2 && ((objL p2).isSome && ((subL q).isSome && nameL q2))) then
    some (((objL p2).getD ([], [])).1, ((objL p2).getD ([], [])).2, q2, (subL q).getD ([], [], [])) else none := by unfold tupL; rw [← hp, ← hq, ← hb, ← hp2, ← hq2, ← hb2]
  rw [ht]
  clear hp hq hb hp2 hq2 hb2 hL hL2 hC1 hC2 ht
  simp only [objV_eq] at hO
  simp only [subV_eq] at hS
  generalize (objL p2).isSome = a at *
  generalize (subL q).isSome = c at *
  generalize nameL q2 = y at *
  generalize (objL p2).getD ([], []) = o at *
  generalize (subL q).getD ([], [], []) = s at *
  obtain ⟨o1, o2⟩ := o
  obtain ⟨s1, s2, s3⟩ := s
  have HO := Lib.hid hO
  have HS := Lib.hid hS
  have HN := Lib.hid hN
  clear hO hS hN
  have hcase : (b = false ∨ (b = true ∧ b2 = false) ∨ (b = true ∧ b2 = true ∧ a = false) ∨ (b = true ∧ b2 = true ∧ a = true ∧ c = false) ∨ (b = true ∧ b2 = true ∧ a = true ∧ c = true ∧ y = false)) ∨ (b = true ∧ b2 = true ∧ a = true ∧ c = true ∧ y = true) := by
    cases b <;> cases b2 <;> cases a <;> cases c <;> cases y <;> decide
  rcases hcase with hbad | ⟨rfl, rfl, rfl, rfl, rfl⟩
  · rw [show (b && (b2 && (a && (c && y)))) = false by rcases hbad with rfl | ⟨rfl, rfl⟩ | ⟨rfl, rfl, rfl⟩ | ⟨rfl, rfl, rfl, rfl⟩ | ⟨rfl, rfl, rfl, rfl, rfl⟩ <;> simp, if_neg (by decide)]
    rcases hbad with rfl | ⟨rfl, rfl⟩ | ⟨rfl, rfl, rfl⟩ | ⟨rfl, rfl, rfl, rfl⟩ | ⟨rfl, rfl, rfl, rfl, rfl⟩
    all_goals go_enter Tryz.func39, Tryz.ntmps39
    all_goals go_wp2_with (first
      | (go_at_call 61; with_reducible refine (HC1.out _).mono ?_; rintro e w1 ⟨rfl, hb1⟩; have HK1 := Lib.hid ((Blk.new w [strV [], strV [], strV [], strV [], strV [], strV []] 34).below hb1 (by simp)); have HB1 := Lib.hid (((Below.refl w.heap.size w).alloc (Nat.le_refl _) _).trans (hb1.mono (by simp))); clear hb1)
      | (go_at_call 61; with_reducible refine (HC2.out _).mono ?_; rintro e w2 ⟨rfl, hb2⟩; have HK2 := Lib.hid (HK1.out.below hb2 HK1.out.lt); have HB2 := Lib.hid (HB1.out.trans (hb2.mono (Nat.le_of_lt HK1.out.lt))); clear hb2)
      | (go_at_call 62; refine (HO.out _).mono ?_; rintro e w3 ⟨rfl, hb3⟩; have HK3 := Lib.hid (HK2.out.below hb3 HK2.out.lt); have HB3 := Lib.hid (HB2.out.trans (hb3.mono (Nat.le_of_lt HK2.out.lt))); clear hb3)
      | (go_at_call 63; refine (HS.out _).mono ?_; rintro e w4 ⟨rfl, hb4⟩; have hko := (Blk.new w3 [strV o1, strV o2] 24).below hb4 (by simp); have lt3 := HK3.out.lt; have hkr := (HK3.out.alloc (.cells #[strV o1, strV o2] 24)).below hb4 (by simp; omega); have r0 := hko.cell (i := 0) (by simp); have r1 := hko.cell (i := 1) (by simp); have z0 := hkr.cell (i := 0) (by simp); have f0 := hkr.free 0; have z1 := hkr.cell (i := 1) (by simp); have f1 := hkr.free 1; have z2 := hkr.cell (i := 2) (by simp); have f2 := hkr.free 2; have z3 := hkr.cell (i := 3) (by simp); have f3 := hkr.free 3; have z4 := hkr.cell (i := 4) (by simp); have f4 := hkr.free 4; have z5 := hkr.cell (i := 5) (by simp); have f5 := hkr.free 5; have lto := hko.lt; have ltr := hkr.lt; have ne3 : w.heap.size ≠ w3.heap.size := Nat.ne_of_lt lt3; have HB4 := Lib.hid ((HB3.out.alloc (Nat.le_of_lt lt3) _).trans (hb4.mono (by simp; omega))); clear hb4 hko hkr HK3 HB3)
      | (go_at_call 52; refine (HN.out _).mono ?_; rintro e w5 ⟨rfl, rfl⟩))
    all_goals refine bodyPost_ret (v := .tuple #[.agg #[strV [], strV [], strV [], strV [], strV [], strV []], .bool false]) (by simp [results, Tryz.results39, go_sem, z0, z1, z2, z3, z4, z5, ltr]) rfl ?_
    all_goals exact ⟨rfl, below_box6 HB4.out ltr _ _ _ _ _ _ _⟩
  · rw [show (true && (true && (true && (true && true)))) = true from rfl, if_pos rfl]
    go_enter Tryz.func39, Tryz.ntmps39
    go_wp2_with (first
      | (go_at_call 61; with_reducible refine (HC1.out _).mono ?_; rintro e w1 ⟨rfl, hb1⟩; have HK1 := Lib.hid ((Blk.new w [strV [], strV [], strV [], strV [], strV [], strV []] 34).below hb1 (by simp)); have HB1 := Lib.hid (((Below.refl w.heap.size w).alloc (Nat.le_refl _) _).trans (hb1.mono (by simp))); clear hb1)
      | (go_at_call 61; with_reducible refine (HC2.out _).mono ?_; rintro e w2 ⟨rfl, hb2⟩; have HK2 := Lib.hid (HK1.out.below hb2 HK1.out.lt); have HB2 := Lib.hid (HB1.out.trans (hb2.mono (Nat.le_of_lt HK1.out.lt))); clear hb2)
      | (go_at_call 62; refine (HO.out _).mono ?_; rintro e w3 ⟨rfl, hb3⟩; have HK3 := Lib.hid (HK2.out.below hb3 HK2.out.lt); have HB3 := Lib.hid (HB2.out.trans (hb3.mono (Nat.le_of_lt HK2.out.lt))); clear hb3)
      | (go_at_call 63; refine (HS.out _).mono ?_; rintro e w4 ⟨rfl, hb4⟩; have hko := (Blk.new w3 [strV o1, strV o2] 24).below hb4 (by simp); have lt3 := HK3.out.lt; have hkr := (HK3.out.alloc (.cells #[strV o1, strV o2] 24)).below hb4 (by simp; omega); have r0 := hko.cell (i := 0) (by simp); have r1 := hko.cell (i := 1) (by simp); have z0 := hkr.cell (i := 0) (by simp); have f0 := hkr.free 0; have z1 := hkr.cell (i := 1) (by simp); have f1 := hkr.free 1; have z2 := hkr.cell (i := 2) (by simp); have f2 := hkr.free 2; have z3 := hkr.cell (i := 3) (by simp); have f3 := hkr.free 3; have z4 := hkr.cell (i := 4) (by simp); have f4 := hkr.free 4; have z5 := hkr.cell (i := 5) (by simp); have f5 := hkr.free 5; have lto := hko.lt; have ltr := hkr.lt; have ne3 : w.heap.size ≠ w3.heap.size := Nat.ne_of_lt lt3; have HB4 := Lib.hid ((HB3.out.alloc (Nat.le_of_lt lt3) _).trans (hb4.mono (by simp; omega))); clear hb4 hko hkr HK3 HB3)
      | (go_at_call 52; refine (HN.out _).mono ?_; rintro e w5 ⟨rfl, rfl⟩))
    refine bodyPost_ret (v := .tuple #[.agg #[strV o1, strV o2, strV q2, strV s1, strV s2, strV s3], .bool true]) (by simp [results, Tryz.results39, go_sem, z0, z1, z2, z3, z4, z5, ltr]) rfl ?_
    exact ⟨rfl, below_box6 HB4.out ltr _ _ _ _ _ _ _⟩
end Go.Proofs.YtehabjiacgibpaaGreat
namespace Go.Proofs.YtehabjiacgibpaaGreat
open Go.RowKit
def lessF : List Txt → List Txt → Bool
  | x :: xs, y :: ys => if x = y then lessF xs ys else Op.bytesLess x y
  | _, _ => false
theorem lessF_drop {X Y : List Txt} {k : Nat} (h1 : k < X.length) (h2 : k < Y.length) : lessF (X.drop k) (Y.drop k) = if X[k] = Y[k] then lessF (X.drop (k + 1)) (Y.drop (k + 1)) else Op.bytesLess X[k] Y[k] := by
  rw [List.drop_eq_getElem_cons h1, List.drop_eq_getElem_cons h2, lessF]
def six (t : Tup) : List Txt := [t.1, t.2.1, t.2.2.1, t.2.2.2.1, t.2.2.2.2.1, t.2.2.2.2.2]
set_option maxHeartbeats 800000 in
theorem refLess_any (a b c d f g a' b' c' d' f' g' : Txt) (w : World) :
    Calls Tryz.prog 20 #[.agg #[strV a, strV b, strV c, strV d, strV f, strV g], .agg #[strV a', strV b', strV c', strV d', strV f', strV g']] w fun e w' =>
      e = .returned (.bool (lessF [a, b, c, d, f, g] [a', b', c', d', f', g'])) ∧ Below w.heap.size w w' := by
  obtain ⟨X, hX⟩ : ∃ X : List Txt, X = [a, b, c, d, f, g] := ⟨_, rfl⟩
  obtain ⟨Y, hY⟩ : ∃ Y : List Txt, Y = [a', b', c', d', f', g'] := ⟨_, rfl⟩
  obtain ⟨v, hv⟩ : ∃ v, v = lessF X Y := ⟨_, rfl⟩
  rw [← hX, ← hY, ← hv]
  have HV := Lib.hid hv
  have hlX : X.length = 6 := by rw [hX]; rfl
  have hlY : Y.length = 6 := by rw [hY]; rfl
  obtain ⟨W0, hW⟩ : ∃ W0, W0 = (((w.alloc (.cells #[strV a, strV b, strV c, strV d, strV f, strV g] 34)).alloc (.cells #[strV a', strV b', strV c', strV d', strV f', strV g'] 34)).alloc
    (.cells #[strV a, strV b, strV c, strV d, strV f, strV g] 9)).alloc (.cells #[strV a', strV b', strV c', strV d', strV f', strV g'] 9) := ⟨_, rfl⟩
  have hbx : Blk W0 (w.heap.size + 1 + 1) (X.map strV) 9 := by
    have h := (Blk.new ((w.alloc (.cells #[strV a, strV b, strV c, strV d, strV f, strV g] 34)).alloc (.cells #[strV a', strV b', strV c', strV d', strV f', strV g'] 34)) (X.map strV) 9).alloc (.cells #[strV a', strV b', strV c', strV d', strV f', strV g'] 9)
    rw [hX] at h ⊢
    rw [hW]
    simpa using h
  have hby : Blk W0 (w.heap.size + 1 + 1 + 1) (Y.map strV) 9 := by
    have h := Blk.new (((w.alloc (.cells #[strV a, strV b, strV c, strV d, strV f, strV g] 34)).alloc (.cells #[strV a', strV b', strV c', strV d', strV f', strV g'] 34)).alloc
      (.cells #[strV a, strV b, strV c, strV d, strV f, strV g] 9)) (Y.map strV) 9
    rw [hY] at h ⊢
    rw [hW]
    simpa using h
  have hb0 : Below w.heap.size w W0 := by
    rw [hW]
    exact ((((Below.refl _ _).alloc (Nat.le_refl _) _).alloc (by simp) _).alloc (by simp; omega) _).alloc (by simp; omega) _
  have HBX := Lib.hid hbx
  have HBY := Lib.hid hby
  have HB0 := Lib.hid hb0
  have HLX := Lib.hid hlX
  have HLY := Lib.hid hlY
  have HW := Lib.hid hW
  clear hX hY hv hW hbx hby hb0 hlX hlY
  go_enter Tryz.func20, Tryz.ntmps20
  go_wp2_with fail
  rw [← HW.out]
  go_loopw [7] (fun i wr => ∃ k : Nat, k ≤ 6 ∧ i = .int .i64 k ∧ Hid (lessF (X.drop k) (Y.drop k) = v) ∧ Hid (Below W0.heap.size W0 wr)) (fun i _ => 6 - (intOf i).toNat)
  case atStart => exact ⟨0, by omega, rfl, Lib.hid HV.out.symm, Lib.hid (Below.refl _ _)⟩
  case round =>
    obtain ⟨k, hk, rfl, hall, BW⟩ := hrel
    by_cases hlt : k < 6
    · have hk1 : k < X.length := by rw [HLX.out]; exact hlt
      have hk2 : k < Y.length := by rw [HLY.out]; exact hlt
      have c1 := ((HBX.out.below BW.out HBX.out.lt).cell (i := k) (by simpa using hk1))
      have c2 := ((HBY.out.below BW.out HBY.out.lt).cell (i := k) (by simpa using hk2))
      rw [List.getElem_map] at c1 c2
      have ED := Lib.hid (lessF_drop hk1 hk2)
      obtain ⟨x, hx⟩ : ∃ x, x = X[k] := ⟨_, rfl⟩
      obtain ⟨y, hy⟩ : ∃ y, y = Y[k] := ⟨_, rfl⟩
      rw [← hx, ← hy] at ED
      rw [← hx] at c1
      rw [← hy] at c2
      clear hx hy
      by_cases hxy : x = y
      · have hq : (x == y) = true := beq_iff_eq.2 hxy
        have ET : Hid (lessF (X.drop (k + 1)) (Y.drop (k + 1)) = v) := by show _ = _; rw [← hall.out, ED.out, if_pos hxy]
        clear hxy ED
        go_wp2_with fail
        go_region
        go_wp2_with fail
        go_roundw
        case rel => exact ⟨k + 1, by omega, by go_num, ET, Lib.hid BW.out.drew⟩
        case measure => simp [intOf]; omega
      · have hq : (x == y) = false := beq_eq_false_iff_ne.2 hxy
        have hv : Op.bytesLess x y = v := by rw [← hall.out, ED.out, if_neg hxy]
        clear hxy ED
        have z1 : wr.drew.cell? ⟨w.heap.size + 1 + 1, k, none⟩ = some (strV x) := c1
        have z2 : wr.drew.cell? ⟨w.heap.size + 1 + 1 + 1, k, none⟩ = some (strV y) := c2
        go_wp2_with fail
        go_region
        go_wp2_with fail
        go_region
        go_wp2_with fail
        go_ret
        exact ⟨by first | rfl | rw [hv], HB0.out.trans (BW.out.drew.drew.mono HB0.out.size)⟩
    · obtain rfl : k = 6 := by omega
      have EF : Hid (v = false) := by show _ = _; rw [← hall.out, List.drop_of_length_le (by rw [HLX.out]; omega)]; rfl
      go_wp2_with fail
      go_ret
      exact ⟨by rw [EF.out]; rfl, HB0.out.trans (BW.out.mono HB0.out.size)⟩
end Go.Proofs.YtehabjiacgibpaaGreat
namespace Go.Proofs.YtehabjiacgibpaaGreat
open Go.RowKit
abbrev Key := List UInt8
abbrev Kv := List UInt8 × List UInt8
def ltK (a b : Key) : Bool := Op.bytesLess a b
theorem bytesLess_list : ∀ (x y : List UInt8), Op.bytesLess x y = decide (x < y)
  | [], [] => by simp [Op.bytesLess]
  | _ :: _, [] => by simp [Op.bytesLess]
  | [], _ :: _ => by simp [Op.bytesLess]
  | a :: x, b :: y => by
    rw [Op.bytesLess, bytesLess_list x y]
    simp only [List.cons_lt_cons_iff]
    by_cases h1 : a < b <;> by_cases h2 : a = b <;> by_cases h3 : x < y <;> simp [h1, h2, h3]
theorem ltK_iff (a b : Key) : ltK a b = true ↔ a < b := by unfold ltK; rw [bytesLess_list]; simp
theorem ltK_self (a : Key) : ltK a a = false := by
  rw [Bool.eq_false_iff]; intro h; rw [ltK_iff] at h; exact List.lt_irrefl a h
theorem ltK_trans {a b c : Key} (h1 : ltK a b = true) (h2 : ltK b c = true) : ltK a c = true := by
  rw [ltK_iff] at h1 h2 ⊢; exact List.lt_trans h1 h2
theorem ltK_asymm {a b : Key} (h : ltK a b = true) : ltK b a = false := by
  rw [Bool.eq_false_iff]; intro h2; have := ltK_trans h h2; rw [ltK_self] at this; cases this
theorem ltK_eq {a b : Key} (h1 : ltK a b = false) (h2 : ltK b a = false) : a = b := by
  have h1' : ¬ a < b := fun h => by rw [(ltK_iff a b).2 h] at h1; cases h1
  have h2' : ¬ b < a := fun h => by rw [(ltK_iff b a).2 h] at h2; cases h2
  exact List.le_antisymm (List.not_lt.1 h2') (List.not_lt.1 h1')
theorem ltK_ne {a b : Key} (h : ltK a b = true) : a ≠ b := fun e => by rw [e, ltK_self] at h; cases h
theorem ltK_of_ne {a b : Key} (h : a ≠ b) (h1 : ltK a b = false) : ltK b a = true := by
  cases h2 : ltK b a
  · exact absurd (ltK_eq h1 h2) h
  · rfl
theorem ltK_trans_le {a b c : Key} (h1 : ltK b a = false) (h2 : ltK b c = true) : ltK a c = true := by
  cases h : ltK a b
  · rw [ltK_eq h h1]; exact h2
  · exact ltK_trans h h2
def Srt (l : List Kv) : Prop := l.Pairwise fun a b => ltK a.1 b.1 = true
def low (k : Key) (l : List Kv) : List Kv := l.filter fun x => ltK x.1 k
def high (k : Key) (l : List Kv) : List Kv := l.filter fun x => ltK k x.1
def since (k : Key) (l : List Kv) : List Kv := l.filter fun x => !ltK x.1 k
def putT (k v : Key) (l : List Kv) : List Kv := low k l ++ (k, v) :: high k l
def hasL (k : Key) (l : List Kv) : Bool := l.any fun x => x.1 == k
def getT (k : Key) (l : List Kv) : List UInt8 := match l.find? fun x => x.1 == k with | some x => x.2 | none => []
theorem low_none {k : Key} {l : List Kv} (h : ∀ x ∈ l, ltK x.1 k = false) : low k l = [] := List.filter_eq_nil_iff.2 fun x hx => by rw [h x hx]; decide
theorem high_all {k : Key} {l : List Kv} (h : ∀ x ∈ l, ltK k x.1 = true) : high k l = l := List.filter_eq_self.2 h
theorem since_all {k : Key} {l : List Kv} (h : ∀ x ∈ l, ltK x.1 k = false) : since k l = l := List.filter_eq_self.2 fun x hx => by rw [h x hx]; rfl
theorem Srt.nil : Srt [] := List.Pairwise.nil
theorem Srt.append {a b : List Kv} : Srt (a ++ b) ↔ Srt a ∧ Srt b ∧ ∀ x ∈ a, ∀ y ∈ b, ltK x.1 y.1 = true := List.pairwise_append
theorem Srt.cons {x : Kv} {l : List Kv} : Srt (x :: l) ↔ (∀ y ∈ l, ltK x.1 y.1 = true) ∧ Srt l := List.pairwise_cons
theorem Srt.cut {l : List Kv} (h : Srt l) (k : Key) : (hasL k l = true ∧ l = low k l ++ (k, getT k l) :: high k l ∧ since k l = (k, getT k l) :: high k l) ∨ (hasL k l = false ∧ l = low k l ++ high k l ∧ since k l = high k l) := by
  induction l with
  | nil => right; exact ⟨rfl, rfl, rfl⟩
  | cons x l ih =>
    rw [Srt.cons] at h
    have ih := ih h.2
    cases h1 : ltK x.1 k
    · -- not below: nothing is below
      have hl : ∀ y ∈ l, ltK k y.1 = true := fun y hy => ltK_trans_le h1 (h.1 y hy)
      have hl2 : ∀ y ∈ l, ltK y.1 k = false := fun y hy => ltK_asymm (hl y hy)
      have e1 : low k l = [] := low_none hl2
      have e2 : high k l = l := high_all hl
      have e3 : since k l = l := since_all hl2
      have e4 : hasL k l = false := by
        unfold hasL
        rw [List.any_eq_false]
        intro y hy
        have := ltK_ne (hl y hy)
        simp [Ne.symm this]
      by_cases hk : x.1 = k
      · left
        obtain ⟨a, b⟩ := x
        dsimp at hk h1
        subst hk
        refine ⟨by simp [hasL], ?_, ?_⟩
        · simp only [low, high, List.filter_cons, h1, Bool.false_eq_true, if_false]
          unfold low at e1; unfold high at e2
          rw [e1, e2]; simp [getT]
        · unfold since high; unfold since at e3; unfold high at e2
          simp only [List.filter_cons, h1, Bool.false_eq_true, if_false, Bool.not_false, if_true]
          rw [e3, e2]; simp [getT]
      · right
        have h2 : ltK k x.1 = true := ltK_of_ne hk h1
        refine ⟨?_, ?_, ?_⟩
        · unfold hasL at e4 ⊢
          rw [List.any_cons, e4]
          simp [hk]
        · simp only [low, high, List.filter_cons, h1, h2, Bool.false_eq_true, if_false, if_true]
          unfold low at e1; unfold high at e2
          rw [e1, e2]; rfl
        · simp only [since, high, List.filter_cons, h1, h2, if_true, Bool.not_false]
          unfold since at e3; unfold high at e2
          rw [e3, e2]
    · have h2 : ltK k x.1 = false := ltK_asymm h1
      have hne : x.1 ≠ k := ltK_ne h1
      have hb : (x.1 == k) = false := by simp [hne]
      have eg : getT k (x :: l) = getT k l := by unfold getT; rw [List.find?_cons, hb]
      have eh : hasL k (x :: l) = hasL k l := by unfold hasL; rw [List.any_cons]; simp [hne]
      have el : low k (x :: l) = x :: low k l := by simp [low, h1]
      have ei : high k (x :: l) = high k l := by simp [high, h2]
      have es : since k (x :: l) = since k l := by simp [since, h1]
      rw [eg, eh, el, ei, es]
      rcases ih with ⟨i1, i2, i3⟩ | ⟨i1, i2, i3⟩
      · exact .inl ⟨i1, by rw [List.cons_append, ← i2], i3⟩
      · exact .inr ⟨i1, by rw [List.cons_append, ← i2], i3⟩
theorem low_lt {k : Key} {l : List Kv} {x : Kv} (h : x ∈ low k l) : x ∈ l ∧ ltK x.1 k = true := by simpa [low, List.mem_filter] using h
theorem high_lt {k : Key} {l : List Kv} {x : Kv} (h : x ∈ high k l) : x ∈ l ∧ ltK k x.1 = true := by simpa [high, List.mem_filter] using h
theorem Srt.filter {l : List Kv} (h : Srt l) (p : Kv → Bool) : Srt (l.filter p) := List.Pairwise.filter p h
theorem Srt.low {l : List Kv} (h : Srt l) (k : Key) : Srt (low k l) := h.filter _
theorem Srt.high {l : List Kv} (h : Srt l) (k : Key) : Srt (high k l) := h.filter _
theorem Srt.put {l : List Kv} (h : Srt l) (k v : Key) : Srt (putT k v l) := by
  unfold putT
  rw [Srt.append, Srt.cons]
  refine ⟨h.low k, ⟨fun y hy => (high_lt hy).2, h.high k⟩, fun x hx y hy => ?_⟩
  rcases List.mem_cons.1 hy with rfl | hy
  · exact (low_lt hx).2
  · exact ltK_trans (low_lt hx).2 (high_lt hy).2
end Go.Proofs.YtehabjiacgibpaaGreat
namespace Go.Proofs.YtehabjiacgibpaaGreat
open Go.RowKit
theorem lessF_cons (x y : Txt) (xs ys : List Txt) : lessF (x :: xs) (y :: ys) = if x = y then lessF xs ys else ltK x y := rfl
theorem lessF_self : ∀ X : List Txt, lessF X X = false
  | [] => rfl
  | x :: xs => by rw [lessF_cons, if_pos rfl]; exact lessF_self xs
theorem lessF_asymm : ∀ {X Y : List Txt}, lessF X Y = true → lessF Y X = false
  | [], _, h => by simp [lessF] at h
  | _ :: _, [], h => by simp [lessF] at h
  | x :: xs, y :: ys, h => by
    rw [lessF_cons] at h ⊢
    by_cases e : x = y
    · rw [if_pos e] at h; rw [if_pos e.symm]; exact lessF_asymm h
    · rw [if_neg e] at h; rw [if_neg (fun k => e k.symm)]; exact ltK_asymm h
theorem lessF_eq : ∀ {X Y : List Txt}, X.length = Y.length → lessF X Y = false → lessF Y X = false → X = Y
  | [], [], _, _, _ => rfl
  | [], _ :: _, h, _, _ => by simp at h
  | _ :: _, [], h, _, _ => by simp at h
  | x :: xs, y :: ys, h, h1, h2 => by
    rw [lessF_cons] at h1 h2
    by_cases e : x = y
    · rw [if_pos e] at h1; rw [if_pos e.symm] at h2
      rw [e, lessF_eq (by simpa using h) h1 h2]
    · rw [if_neg e] at h1; rw [if_neg (fun k => e k.symm)] at h2
      exact absurd (ltK_eq h1 h2) e
theorem lessF_trans : ∀ {X Y Z : List Txt}, lessF X Y = true → lessF Y Z = true → lessF X Z = true
  | [], _, _, h, _ => by simp [lessF] at h
  | _ :: _, [], _, h, _ => by simp [lessF] at h
  | _ :: _, _ :: _, [], _, h => by simp [lessF] at h
  | x :: xs, y :: ys, z :: zs, h1, h2 => by
    rw [lessF_cons] at h1 h2 ⊢
    by_cases e : x = y
    · rw [if_pos e] at h1
      by_cases f : y = z
      · rw [if_pos f] at h2; rw [if_pos (e.trans f)]; exact lessF_trans h1 h2
      · rw [if_neg f] at h2; rw [if_neg (fun k => f (e ▸ k)), e]; exact h2
    · rw [if_neg e] at h1
      by_cases f : y = z
      · rw [if_pos f] at h2; rw [if_neg (fun k => e (k.trans f.symm)), ← f]; exact h1
      · rw [if_neg f] at h2
        have h3 := ltK_trans h1 h2
        rw [if_neg (fun k => by rw [k, ltK_self] at h3; cases h3)]; exact h3
theorem six_inj {t u : Tup} (h : six t = six u) : t = u := by
  obtain ⟨a, b, c, d, e, f⟩ := t
  obtain ⟨a', b', c', d', e', f'⟩ := u
  simp only [six, List.cons.injEq, and_true] at h
  obtain ⟨rfl, rfl, rfl, rfl, rfl, rfl⟩ := h
  rfl
def lessT (t u : Tup) : Bool := lessF (six t) (six u)
theorem lessT_self (t : Tup) : lessT t t = false := lessF_self _
theorem lessT_asymm {t u : Tup} (h : lessT t u = true) : lessT u t = false := lessF_asymm h
theorem lessT_eq {t u : Tup} (h1 : lessT t u = false) (h2 : lessT u t = false) : t = u := six_inj (lessF_eq rfl h1 h2)
theorem lessT_trans {t u v : Tup} (h1 : lessT t u = true) (h2 : lessT u v = true) : lessT t v = true := lessF_trans h1 h2
end Go.Proofs.YtehabjiacgibpaaGreat
namespace Go.Proofs.YtehabjiacgibpaaGreat
open Go.RowKit
structure RowT (P : Program) (t e : TypeId) (s b : Nat) (i : TypeInfo) (z : Value) : Prop where
  ht : P.underlying t = some (.slice e)
  hi : P.info? e = some i
  hz : i.zero = some z
  hs : i.size = s
  hb : i.bytes = b
  zs : z.cells.size = s
theorem ownrow_shape {e : TypeId} {s : Nat} {w : World} {base n : Nat} {v : Value} {xs : List Value} (h : w.ownsRow base e s v n xs) : ∃ A c, v = .slice A n c := by
  rcases h.2 with ⟨rfl, h0⟩ | ⟨g, cap, cur, rfl, _⟩
  · exact ⟨none, 0, by rw [h0]⟩
  · exact ⟨_, _, rfl⟩
theorem cells_new (w : World) (L : List Value) (t : TypeId) : ∀ j u, L[j]? = some u → (w.alloc (.cells L.toArray t)).cell? ((⟨w.heap.size, 0, none⟩ : Addr).add j) = some u := by
  intro j u hj
  rw [add_plain, World.cell?_alloc_at _ _ _ _ rfl]
  simpa using hj
theorem wpList_append_struct {P : Program} (w : World) {ops : Array Oper} {rest : List Oper} {o : Oper} {ac : Act} {Q : Exit → Act → World → Prop} (hgd : o.guard = none) (s x : Operand) (t : TypeId)
    (ho : o.op = .call { callee := .builtin .append, args := #[s, x], argTypes := #[t, t] })
    {e : TypeId} {k b : Nat} {i : TypeInfo} {z : Value} (R : RowT P t e k b i z) (hk : 0 < k) (hb64 : b ≤ 128)
    (w0 : World) (A : Option Addr) (n c : Nat) (xs : List Value) (L : List Value) (hL : L.length = k) (hs : ac.eval s = .slice A n c) (hx : ac.eval x = .slice (some ⟨w.heap.size, 0, none⟩) 1 1)
    (hb : Below w0.heap.size w0 w) (h : w.ownsRow w0.heap.size e k (.slice A n c) n xs) (hone : ∀ u ∈ L, u.oneCell' = true) (hn : n ≤ 1000000)
    (K : ∀ A' c' w', w'.ownsRow w0.heap.size e k (.slice A' (n + 1) c') (n + 1) (xs ++ L) → Below w0.heap.size w0 w' → (w.alloc (.cells L.toArray e)).grownBy w' (Value.slice A n c).ownBlock →
      ((Value.slice A' (n + 1) c').ownBlock = (Value.slice A n c).ownBlock ∨ (Value.slice A' (n + 1) c').ownBlock = some (w.heap.size + 1)) → wpList P ops Q rest (ac.put o.dst (.slice A' (n + 1) c')) w') :
    wpList P ops Q (o :: rest) ac (w.alloc (.cells L.toArray e)) := by
  have hB : w0.heap.size ≤ (w.alloc (.cells L.toArray e)).heap.size := by have := hb.size; simp; omega
  have hlist : (w.alloc (.cells L.toArray e)).ownsRow w0.heap.size e k (.slice A n c) n xs := h.alloc _
  refine wpList_append_own_at (w.alloc (.cells L.toArray e)) hgd s x t ho w0.heap.size e i z k b R.ht R.hi R.hz R.hs R.hb R.zs hk _ n _ hs hlist ⟨w.heap.size, 0, none⟩ 1 1 L hx (by rw [hL, Nat.one_mul]) (cells_new _ _ _) hone (by unfold maxLen; omega) (Nat.le_trans (Nat.mul_le_mul_left _ hb64) (by omega)) hB ?_
  intro v' w' hown hg _ hat
  obtain ⟨A', c', rfl⟩ := ownrow_shape hown
  exact K A' c' w' hown (below_grown (hb.alloc hb.size _) hB hlist hg) hg (by simpa using hat)
end Go.Proofs.YtehabjiacgibpaaGreat
namespace Go.Proofs.YtehabjiacgibpaaGreat
open Go.RowKit
theorem own_spared {w w' : World} {F : Nat → Prop} {base : Nat} {e : TypeId} {s n : Nat} {v : Value} {xs : List Value} (h : w.ownsRow base e s v n xs) (hs : Spared w w' F) (hF : ∀ i, F i → i < base) : w'.ownsRow base e s v n xs := by
  obtain ⟨h1, h2⟩ := h
  refine ⟨h1, ?_⟩
  rcases h2 with h2 | ⟨g, cap, cur, rfl, hb, hh, h3⟩
  · exact .inl h2
  · have hlt : g < w.heap.size := by
      rcases Nat.lt_or_ge g w.heap.size with hlt | hge
      · exact hlt
      · rw [Array.getElem?_eq_none hge] at hh; cases hh
    exact .inr ⟨g, cap, cur, rfl, hb, (hs.block g hlt (fun hf => by have := hF g hf; omega)).trans hh, h3⟩
theorem own_cap {w : World} {base : Nat} {e : TypeId} {s n c : Nat} {A : Option Addr} {xs : List Value} (h : w.ownsRow base e s (.slice A n c) n xs) : n ≤ c := by
  rcases h.2 with ⟨h1, h2⟩ | ⟨g, cap, cur, hv, _, _, hnc, _⟩
  · omega
  · injection hv with _ _ hc
    omega
theorem flatMap_at {α : Type} {s : Nat} (f : α → List Value) (hf : ∀ x, (f x).length = s) : ∀ (l : List α) (j : Nat) (h : j < l.length) (i : Nat), i < s → (l.flatMap f)[j * s + i]? = (f l[j])[i]?
  | x :: r, 0, _, i, hi => by
    simp only [List.flatMap_cons, Nat.zero_mul, Nat.zero_add, List.getElem_cons_zero]
    rw [List.getElem?_append_left (by rw [hf]; exact hi)]
  | x :: r, j + 1, h, i, hi => by
    simp only [List.flatMap_cons, List.getElem_cons_succ]
    rw [List.getElem?_append_right (by rw [hf, Nat.succ_mul]; omega), hf, show (j + 1) * s + i - s = j * s + i by rw [Nat.succ_mul]; omega]
    exact flatMap_at f hf r j (by simpa using h) i hi
theorem row_of_own {α : Type} {s : Nat} {R : World → (Nat → Prop) → α → List Value → Prop} {w : World} {F : Nat → Prop} {base : Nat} {e : TypeId} {A : Option Addr} {n c : Nat} {l : List α} (f : α → List Value) (hf : ∀ x, (f x).length = s) (hn : n = l.length)
    (h : w.ownsRow base e s (.slice A n c) n (l.flatMap f)) (hF : ∀ i, F i → i < base) (hR : ∀ x ∈ l, R w F x (f x)) : RowAt s R w F A l := by
  subst hn
  rcases h.2 with ⟨_, h0⟩ | ⟨g, cap, cur, hv, hb, hh, hnc, _, hsz, htake⟩
  · exact .inl (List.length_eq_zero_iff.1 h0)
  · injection hv with hA _ _
    refine .inr ⟨g, 0, hA, ?_, fun hf => by have := hF g hf; omega, fun j hj => ⟨f l[j], hR _ (List.getElem_mem hj), fun i hi => ?_⟩⟩
    · rcases Nat.lt_or_ge g w.heap.size with hlt | hge
      · exact hlt
      · rw [Array.getElem?_eq_none hge] at hh; cases hh
    · rw [Nat.zero_add, cell_of_row w g _ cur e (0, 0) hh, ← flatMap_at f hf l j hj i hi, ← htake]
      have hlt : j * s + i < l.length * s := by
        have : (j + 1) * s ≤ l.length * s := Nat.mul_le_mul_right s hj
        rw [Nat.succ_mul] at this
        omega
      rw [List.getElem?_take, if_pos hlt]
      simp
theorem Spared.keep {W w w' : World} {F : Nat → Prop} {B : Nat} (h : Spared W w F) (hb : Below B w w') (hB : W.heap.size ≤ B) : Spared W w' F :=
  ⟨hb.os.trans h.os, hb.tape.trans h.tape, hb.output.trans h.output, Nat.le_trans h.size hb.size, fun k hk hn => (hb.block k (Nat.lt_of_lt_of_le hk hB)).trans (h.block k hk hn)⟩
end Go.Proofs.YtehabjiacgibpaaGreat
namespace Go.Proofs.YtehabjiacgibpaaGreat
open Go.RowKit
set_option synthInstance.maxSize 1000 in
set_option synthInstance.maxHeartbeats 200000 in
instance decTup : DecidableEq Tup := inferInstanceAs (DecidableEq (Txt × Txt × Txt × Txt × Txt × Txt))
def encT (t : Tup) : List Value := (six t).map strV
theorem tup_six (t : Tup) : ∃ q0 q1 q2 q3 q4 q5, t = (q0, q1, q2, q3, q4, q5) := by
  obtain ⟨a, b, c, d, e, f⟩ := t
  exact ⟨a, b, c, d, e, f, rfl⟩
def okT (t : Tup) : Prop := ∀ x ∈ six t, x.length ≤ 140737488351232
def TuAt (_ : World) (_ : Nat → Prop) (t : Tup) (cs : List Value) : Prop := cs = encT t ∧ okT t
def TuR (W : World) (A : Option Addr) (l : List Tup) : Prop := RowAt 6 TuAt W (fun _ => False) A l
theorem TuR.below {W W' : World} {A : Option Addr} {l : List Tup} (h : TuR W A l) (hb : Below W.heap.size W W') : TuR W' A l := RowAt.moved (Spared.of_below hb _) (fun _ h => .inl h) (fun _ _ _ h => h) h
theorem TuR.nil (W : World) (A : Option Addr) : TuR W A [] := .inl rfl
theorem TuR.ok {W : World} {A : Option Addr} {l : List Tup} (h : TuR W A l) {t : Tup} (ht : t ∈ l) : okT t := by
  rcases h with rfl | ⟨b, off, rfl, hb, _, hk⟩
  · cases ht
  · obtain ⟨j, hj, rfl⟩ := List.getElem_of_mem ht
    obtain ⟨cs, ⟨_, h2⟩, _⟩ := hk j hj
    exact h2
def SixAt (b o : Nat) (q0 q1 q2 q3 q4 q5 : Txt) (w : World) : Prop := w.cell? ⟨b, o, none⟩ = some (strV q0) ∧ w.cell? ⟨b, o + 1, none⟩ = some (strV q1) ∧ w.cell? ⟨b, o + 2, none⟩ = some (strV q2) ∧ w.cell? ⟨b, o + 3, none⟩ = some (strV q3) ∧ w.cell? ⟨b, o + 4, none⟩ = some (strV q4) ∧ w.cell? ⟨b, o + 5, none⟩ = some (strV q5)
theorem TuR.at {W : World} {A : Option Addr} {l : List Tup} (h : TuR W A l) {j : Nat} (hj : j < l.length) :
    ∃ b off q0 q1 q2 q3 q4 q5, A = some ⟨b, off, none⟩ ∧ l[j] = (q0, q1, q2, q3, q4, q5) ∧ ∀ W', Below W.heap.size W W' → SixAt b (off + j * 6) q0 q1 q2 q3 q4 q5 W' := by
  rcases h with rfl | ⟨b, off, rfl, hb, _, hk⟩
  · simp at hj
  · obtain ⟨cs, ⟨rfl, _⟩, h2⟩ := hk j hj
    obtain ⟨q0, q1, q2, q3, q4, q5, hq⟩ := tup_six l[j]
    refine ⟨b, off, q0, q1, q2, q3, q4, q5, rfl, hq, fun W' hW => ?_⟩
    rw [hq] at h2
    have hc : ∀ i, i < 6 → W'.cell? ⟨b, off + j * 6 + i, none⟩ = (encT (q0, q1, q2, q3, q4, q5))[i]? := fun i hi => (hW.cell (p := ⟨b, off + j * 6 + i, none⟩) hb).trans (h2 i hi)
    exact ⟨hc 0 (by decide), hc 1 (by decide), hc 2 (by decide), hc 3 (by decide), hc 4 (by decide), hc 5 (by decide)⟩
theorem TuR.addr {W : World} {A : Option Addr} {l : List Tup} (h : TuR W A l) (hl : 0 < l.length) : ∃ b off, A = some ⟨b, off, none⟩ ∧ ∀ j (hj : j < l.length), ∃ q0 q1 q2 q3 q4 q5, l[j] = (q0, q1, q2, q3, q4, q5) ∧ ∀ W', Below W.heap.size W W' → SixAt b (off + j * 6) q0 q1 q2 q3 q4 q5 W' := by
  obtain ⟨b, off, _, _, _, _, _, _, hA, _⟩ := h.at hl
  refine ⟨b, off, hA, fun j hj => ?_⟩
  obtain ⟨b', off', q0, q1, q2, q3, q4, q5, hA', h1, h2⟩ := h.at hj
  rw [hA] at hA'
  injection hA' with e
  injection e with e1 e2 _
  subst e1 e2
  exact ⟨q0, q1, q2, q3, q4, q5, h1, h2⟩
theorem TuR.of_own {w : World} {base : Nat} {e : TypeId} {A : Option Addr} {c : Nat} {l : List Tup} {n : Nat} (hn : n = l.length) (h : w.ownsRow base e 6 (.slice A n c) n (l.flatMap encT)) (hk : ∀ t ∈ l, okT t) : TuR w A l :=
  row_of_own encT (fun _ => rfl) hn h (fun _ h => h.elim) (fun x hx => ⟨rfl, hk x hx⟩)
theorem encT_one (t : Tup) : ∀ u ∈ encT t, u.oneCell' = true := by
  intro u hu
  simp only [encT, six, List.map_cons, List.map_nil, List.mem_cons, List.not_mem_nil, or_false] at hu
  rcases hu with rfl | rfl | rfl | rfl | rfl | rfl <;> rfl
theorem flatT_len (l : List Tup) : (l.flatMap encT).length = l.length * 6 := by
  induction l with
  | nil => rfl
  | cons x r ih => rw [List.flatMap_cons, List.length_append, ih, List.length_cons, show (encT x).length = 6 from rfl]; omega
theorem flatT_one (l : List Tup) : ∀ u ∈ l.flatMap encT, u.oneCell' = true := by
  intro u hu
  obtain ⟨t, _, hu⟩ := List.mem_flatMap.1 hu
  exact encT_one t u hu
theorem TuR.news {W : World} {b off : Nat} {l : List Tup} (h : TuR W (some ⟨b, off, none⟩) l) : ∀ (i : Nat) u, (l.flatMap encT)[i]? = some u → W.cell? ((⟨b, off, none⟩ : Addr).add i) = some u := by
  intro i u hu
  have hi : i < l.length * 6 := by have := (List.getElem?_eq_some_iff.1 hu).1; rwa [flatT_len] at this
  have hj : i / 6 < l.length := by omega
  rcases h with rfl | ⟨b', off', hA, _, _, hk⟩
  · simp at hj
  · injection hA with hA
    injection hA with e1 e2 _
    subst e1 e2
    obtain ⟨cs, ⟨rfl, _⟩, h2⟩ := hk (i / 6) hj
    have h3 := h2 (i % 6) (by omega)
    have h4 := flatMap_at (s := 6) encT (fun _ => rfl) l (i / 6) hj (i % 6) (by omega)
    rw [show i / 6 * 6 + i % 6 = i by omega] at h4
    rw [← h4, hu, show off + i / 6 * 6 + i % 6 = off + i by omega] at h3
    rw [show (⟨b, off, none⟩ : Addr).add i = ⟨b, off + i, none⟩ by simp [Addr.add]]
    exact h3
theorem TuR.tail {W : World} {b off : Nat} {l : List Tup} (h : TuR W (some ⟨b, off, none⟩) l) (m : Nat) : TuR W (some ⟨b, off + m * 6, none⟩) (l.drop m) := by
  rcases h with rfl | ⟨b', off', hA, hb, _, hk⟩
  · exact .inl (by simp)
  · injection hA with hA
    injection hA with e1 e2 _
    subst e1 e2
    refine .inr ⟨b, off + m * 6, rfl, hb, fun h => h, fun j hj => ?_⟩
    rw [List.length_drop] at hj
    obtain ⟨cs, h1, h2⟩ := hk (m + j) (by omega)
    refine ⟨cs, by rw [List.getElem_drop]; exact h1, fun i hi => ?_⟩
    rw [← h2 i hi]
    congr 2
    rw [Nat.add_mul]; omega
theorem TuR.head {W : World} {A : Option Addr} {l : List Tup} (h : TuR W A l) (m : Nat) : TuR W A (l.take m) := by
  rcases h with rfl | ⟨b, off, rfl, hb, hF, hk⟩
  · exact .inl (by simp)
  · refine .inr ⟨b, off, rfl, hb, hF, fun j hj => ?_⟩
    rw [List.length_take] at hj
    obtain ⟨cs, h1, h2⟩ := hk j (by omega)
    exact ⟨cs, by rw [List.getElem_take]; exact h1, h2⟩
theorem own_keep {w w' : World} {base : Nat} {e : TypeId} {s n : Nat} {v : Value} {xs : List Value} (h : w.ownsRow base e s v n xs) (hb : Below w.heap.size w w') : w'.ownsRow base e s v n xs := own_spared h (Spared.of_below hb (fun _ => False)) (fun _ h => h.elim)
theorem take_filter {l : List Tup} {p : Tup → Bool} {j : Nat} (h : j < l.length) : (l.take (j + 1)).filter p = if p l[j] then (l.take j).filter p ++ [l[j]] else (l.take j).filter p := by
  rw [List.take_succ_eq_append_getElem h, List.filter_append, List.filter_cons, List.filter_nil]
  split
  · rfl
  · rw [List.append_nil]
structure PickAt (W : World) (e : TypeId) (l : List Tup) (p : Tup → Bool) (j : Nat) (A : Option Addr) (n c : Nat) (wr : World) : Prop where
  len : n = ((l.take j).filter p).length
  own : wr.ownsRow W.heap.size e 6 (.slice A n c) n (((l.take j).filter p).flatMap encT)
  below : Below W.heap.size W wr
theorem PickAt.most {W wr : World} {e : TypeId} {l : List Tup} {p : Tup → Bool} {j : Nat} {A : Option Addr} {n c : Nat} (h : PickAt W e l p j A n c wr) : n ≤ l.length := by
  rw [h.len]
  exact Nat.le_trans (List.length_filter_le _ _) (by rw [List.length_take]; omega)
theorem PickAt.start (W wr : World) (e : TypeId) (l : List Tup) (p : Tup → Bool) (hb : Below W.heap.size W wr) : PickAt W e l p 0 none 0 0 wr := ⟨by simp, by simpa using World.ownsRow_nil wr W.heap.size e 6, hb⟩
theorem PickAt.keep {W wr w' : World} {e : TypeId} {l : List Tup} {p : Tup → Bool} {j : Nat} {A : Option Addr} {n c : Nat} (h : PickAt W e l p j A n c wr) (hb : Below wr.heap.size wr w') : PickAt W e l p j A n c w' := ⟨h.len, own_keep h.own hb, hop h.below hb⟩
theorem PickAt.skip {W wr : World} {e : TypeId} {l : List Tup} {p : Tup → Bool} {j : Nat} {A : Option Addr} {n c : Nat} (h : PickAt W e l p j A n c wr) (hj : j < l.length) (hp : p l[j] = false) : PickAt W e l p (j + 1) A n c wr := by
  obtain ⟨h1, h2, h3⟩ := h
  have e : (l.take (j + 1)).filter p = (l.take j).filter p := by rw [take_filter hj, if_neg (by rw [hp]; decide)]
  exact ⟨by rw [e]; exact h1, by rw [e]; exact h2, h3⟩
theorem PickAt.push {W wr w' : World} {e : TypeId} {l : List Tup} {p : Tup → Bool} {j : Nat} {A : Option Addr} {n c : Nat} (h : PickAt W e l p j A n c wr) (hj : j < l.length) (hp : p l[j] = true) {A' : Option Addr} {c' : Nat}
    (ho : w'.ownsRow W.heap.size e 6 (.slice A' (n + 1) c') (n + 1) (((l.take j).filter p).flatMap encT ++ encT l[j])) (hb : Below W.heap.size W w') : PickAt W e l p (j + 1) A' (n + 1) c' w' := by
  have e : (l.take (j + 1)).filter p = (l.take j).filter p ++ [l[j]] := by rw [take_filter hj, if_pos hp]
  refine ⟨by rw [e, List.length_append, ← h.len]; rfl, ?_, hb⟩
  rw [e, List.flatMap_append, List.flatMap_cons, List.flatMap_nil, List.append_nil]
  exact ho
theorem PickAt.row {W wr : World} {e : TypeId} {l : List Tup} {p : Tup → Bool} {A : Option Addr} {n c : Nat} (h : PickAt W e l p l.length A n c wr) (hk : ∀ t ∈ l, okT t) : n = (l.filter p).length ∧ TuR wr A (l.filter p) := by
  obtain ⟨h1, h2, _⟩ := h
  rw [List.take_length] at h1 h2
  exact ⟨h1, .of_own h1 h2 (fun t ht => hk t (List.mem_filter.1 ht).1)⟩
end Go.Proofs.YtehabjiacgibpaaGreat
