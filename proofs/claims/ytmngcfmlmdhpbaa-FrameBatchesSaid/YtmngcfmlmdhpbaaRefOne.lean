/-
  What the document's one comes to: a put, or none. Condition: the bytes are at most 2^46.
-/
import Derived.Test.YtmngcfmlmdhpbaaRefPuts
namespace Go.Proofs.Ytmngcfmlmdhpbaa
open Go.RowKit

/-- what one answers -/
def OneOut (w : World) (A0 : Option Addr) (l : List UInt8) (D : Option (PutV × List UInt8)) (e : Ending) (w' : World) : Prop :=
  (D = none ∧ ∃ A n c B m d g C k x, e = .returned (.tuple #[.agg #[.slice A n c, .slice B m d, .bool g], .slice C k x, .bool false]) ∧ Below w.heap.size w w') ∨
  (∃ q u A n c B m d C k x, D = some (q, u) ∧ e = .returned (.tuple #[.agg #[.slice A n c, .slice B m d, .bool q.2.2], .slice C k x, .bool true]) ∧ q.1.length = n ∧ q.2.1.length = m ∧ Away w' (fun b => b < w.heap.size) A q.1 ∧ Away w' (fun b => b < w.heap.size) B q.2.1 ∧
    u.length = k ∧ k ≤ x ∧ (∀ w0, Seen w0 A0 l → Seen w0 C u) ∧ Below w.heap.size w w')

theorem zeroPut (w : World) : (zeroValue 45).run Try.prog w = .ok (.agg #[.slice none 0 0, .slice none 0 0, .bool false]) w := by kernel_rfl

set_option maxRecDepth 100000 in
set_option maxHeartbeats 1000000 in
theorem refOne_nil (A : Option Addr) (c : Nat) (w : World) : Calls Try.prog 41 #[.slice A 0 c] w (OneOut w A [] none) := by
  have hzp := zeroPut
  go_enter Try.func41, Try.ntmps41
  go_wp2_with fail
  refine bodyPost_ret (v := .tuple #[.agg #[.slice none 0 0, .slice none 0 0, .bool false], .slice none 0 0, .bool false]) (by simp [results, Try.results41, go_sem]) rfl (.inl ⟨rfl, none, 0, 0, none, 0, 0, false, none, 0, 0, rfl, ?_⟩)
  exact ((Below.refl _ _).alloc (Nat.le_refl _) _).alloc (by simp) _

/-- a put's cells, later -/
theorem put_facts {w w' : World} {g h : Nat} {a b c x y z : Value} {t : TypeId} (hg : Blk w g [a, b, c] t) (hh : Blk w h [x, y, z] t) (hb : Below w.heap.size w w') :
    w'.cell? ⟨g, 0, none⟩ = some a ∧ w'.cell? ⟨g, 1, none⟩ = some b ∧ w'.cell? ⟨g, 2, none⟩ = some c ∧ w'.frozen? ⟨g, 0, none⟩ = false ∧ w'.frozen? ⟨g, 1, none⟩ = false ∧ w'.frozen? ⟨g, 2, none⟩ = false ∧
    w'.cell? ⟨h, 0, none⟩ = some x ∧ w'.cell? ⟨h, 1, none⟩ = some y ∧ w'.cell? ⟨h, 2, none⟩ = some z ∧ w'.frozen? ⟨h, 0, none⟩ = false ∧ w'.frozen? ⟨h, 1, none⟩ = false ∧ w'.frozen? ⟨h, 2, none⟩ = false := by
  have B := hg.below hb hg.lt
  have C := hh.below hb hh.lt
  exact ⟨B.cell (i := 0) (by simp), B.cell (i := 1) (by simp), B.cell (i := 2) (by simp), B.free 0, B.free 1, B.free 2, C.cell (i := 0) (by simp), C.cell (i := 1) (by simp), C.cell (i := 2) (by simp), C.free 0, C.free 1, C.free 2⟩

/-- the two new blocks of one: the answer's and the put's, that says whether it is gone -/
def oneW (w : World) (g : Bool) : World := (w.alloc (.cells #[.slice none 0 0, .slice none 0 0, .bool false] 45)).alloc (.cells #[.slice none 0 0, .slice none 0 0, .bool g] 45)
theorem oneW_facts (w : World) (g : Bool) : Blk (oneW w g) w.heap.size [.slice none 0 0, .slice none 0 0, .bool false] 45 ∧ Blk (oneW w g) (w.heap.size + 1) [.slice none 0 0, .slice none 0 0, .bool g] 45 ∧ Below w.heap.size w (oneW w g) ∧ (oneW w g).heap.size = w.heap.size + 2 := by
  refine ⟨(Blk.new w [.slice none 0 0, .slice none 0 0, .bool false] 45).alloc _, ?_, ((Below.refl _ _).alloc (Nat.le_refl _) _).alloc (by simp) _, by simp [oneW]⟩
  have := Blk.new (w.alloc (.cells #[.slice none 0 0, .slice none 0 0, .bool false] 45)) [.slice none 0 0, .slice none 0 0, .bool g] 45
  simp only [World.size_alloc] at this
  exact this
theorem byte_at {w W : World} {b off : Nat} {v : Value} (h : w.cell? ⟨b, off, none⟩ = some v) (hb : Below w.heap.size w W) : W.cell? ⟨b, off, none⟩ = some v :=
  (hb.cell (p := ⟨b, off, none⟩) (World.block_lt_of_cell? w _ h)).trans h

set_option maxRecDepth 100000 in
set_option maxHeartbeats 2000000 in
theorem refOne_bad (A : Option Addr) (b0 : UInt8) (r : List UInt8) (L c : Nat) (w : World) (hL : r.length + 1 = L) (hs : Seen w A (b0 :: r)) (h1 : b0 ≠ 1) (h0 : b0 ≠ 0) :
    Calls Try.prog 41 #[.slice A L c] w (OneOut w A (b0 :: r) none) := by
  have hzp := zeroPut
  obtain ⟨bb, off, hA, hb0⟩ := hs.byte 0 (by simp)
  subst hA
  simp only [List.getElem_cons_zero, Nat.add_zero] at hb0
  have hcell : ((w.alloc (.cells #[.slice none 0 0, .slice none 0 0, .bool false] 45)).alloc (.cells #[.slice none 0 0, .slice none 0 0, .bool false] 45)).cell? ⟨bb, off, none⟩ = some (.int .u8 (b0.toNat : Int)) := byte_at hb0 (oneW_facts w false).2.2.1
  have HB := Lib.hid (oneW_facts w false).2.2.1
  have hLp : 0 < L := by omega
  have tL : ((L : Int) == 0) = false := by rw [beq_eq_false_iff_ne]; omega
  have t1 : decide ((1 : Int) < (b0.toNat : Int)) = true := by
    refine decide_eq_true ?_
    have hn1 : b0.toNat ≠ 1 := fun e => h1 (UInt8.toNat_inj.1 e)
    have hn0 : b0.toNat ≠ 0 := fun e => h0 (UInt8.toNat_inj.1 e)
    omega
  clear hs hL h1 h0 hb0
  generalize b0.toNat = y at *
  go_enter Try.func41, Try.ntmps41
  go_wp2_with fail
  exact bodyPost_ret (v := .tuple #[.agg #[.slice none 0 0, .slice none 0 0, .bool false], .slice none 0 0, .bool false]) (by simp [results, Try.results41, go_sem]) rfl (.inl ⟨rfl, none, 0, 0, none, 0, 0, false, none, 0, 0, rfl, HB.out⟩)

set_option maxRecDepth 100000 in
set_option maxHeartbeats 2000000 in
theorem refOne_gone (A : Option Addr) (r : List UInt8) (L c : Nat) (w : World) (hL : r.length + 1 = L) (hc : L ≤ c) (hb : L ≤ 140737488351232) (hs : Seen w A (1 :: r)) :
    Calls Try.prog 41 #[.slice A L c] w (OneOut w A (1 :: r) (oneL (1 :: r))) := by
  have hzp := zeroPut
  obtain ⟨bb, off, hA, hb0⟩ := hs.byte 0 (by simp)
  subst hA
  simp only [List.getElem_cons_zero, Nat.add_zero] at hb0
  have hcell : ((w.alloc (.cells #[.slice none 0 0, .slice none 0 0, .bool false] 45)).alloc (.cells #[.slice none 0 0, .slice none 0 0, .bool false] 45)).cell? ⟨bb, off, none⟩ = some (.int .u8 1) := byte_at hb0 (oneW_facts w false).2.2.1
  obtain ⟨H1, H2, HB, HZ⟩ := oneW_facts w true
  obtain ⟨A1, HTAIL, hsr⟩ := tail_cut_all (some ⟨bb, off, none⟩) (1 :: r) L c 1 1 rfl (by rw [List.length_cons]; exact hL) (by omega) hc
  obtain ⟨W, hW⟩ : ∃ W, W = oneW w true := ⟨_, rfl⟩
  rw [← hW] at H1 H2 HB HZ
  have HW : Hid (W = (w.alloc (.cells #[.slice none 0 0, .slice none 0 0, .bool false] 45)).alloc (.cells #[.slice none 0 0, .slice none 0 0, .bool true] 45)) := hW
  have K1 := Lib.hid H1
  have K2 := Lib.hid H2
  have KB := Lib.hid HB
  have KZ := Lib.hid HZ
  have hsr0 : Seen w A1 r := hsr w hs
  have KS : Hid (Seen W A1 r) := hsr0.below HB
  have KS0 := Lib.hid hsr0
  have KSR := Lib.hid hsr
  have KL : Hid (r.length = L - 1) := by show _ = _; omega
  have hLp : 0 < L := by omega
  have tL : ((L : Int) == 0) = false := by rw [beq_eq_false_iff_ne]; omega
  clear hs hL hb0 H1 H2 HB HZ hsr hsr0 hW
  rcases ht : textL r with _ | ⟨t, u⟩
  · have HD : Hid (oneL (1 :: r) = none) := by show _ = _; rw [oneL, if_pos rfl, ht]
    have KT := Lib.hid (refText_none A1 r (L - 1) (c - 1) W KL.out (by omega) (by omega) KS.out ht)
    clear ht
    generalize oneL (1 :: r) = D at *
    go_enter Try.func41, Try.ntmps41
    go_wp2_with fail
    rw [← HW.out]
    refine KT.out.mono ?_
    rintro e w1 ⟨rfl, hb1⟩
    obtain ⟨x0, x1, x2, y0, y1, y2, z0, z1, z2, v0, v1, v2⟩ := put_facts K1.out K2.out hb1
    have KB1 : Hid (Below w.heap.size w w1) := KB.out.trans (hb1.mono KB.out.size)
    clear hb1
    go_wp2_with fail
    rw [HD.out]
    refine bodyPost_ret (v := .tuple #[.agg #[.slice none 0 0, .slice none 0 0, .bool true], .slice none 0 0, .bool false]) (by simp [results, Try.results41, go_sem, x0, x1, x2]) rfl (.inl ⟨rfl, none, 0, 0, none, 0, 0, true, none, 0, 0, rfl, ?_⟩)
    exact (((KB1.out.setCell (by simp) _).setCell (Nat.le_refl _) _).setCell (Nat.le_refl _) _).setCell (Nat.le_refl _) _
  · have HD : Hid (oneL (1 :: r) = some ((t, [], true), u)) := by show _ = _; rw [oneL, if_pos rfl, ht]
    have KT := Lib.hid (refText_some A1 r t u (L - 1) (c - 1) W KL.out (by omega) (by omega) KS.out ht)
    clear ht
    generalize oneL (1 :: r) = D at *
    go_enter Try.func41, Try.ntmps41
    go_wp2_with fail
    rw [← HW.out]
    refine KT.out.mono ?_
    rintro e w1 ⟨A2, n2, c2, A3, m3, d3, rfl, hn2, hm2, hm3, hd3, hs3⟩
    have hb1 := hm2.2.2
    obtain ⟨x0, x1, x2, y0, y1, y2, z0, z1, z2, v0, v1, v2⟩ := put_facts K1.out K2.out hb1
    have KB1 : Hid (Below w.heap.size w w1) := KB.out.trans (hb1.mono KB.out.size)
    have KM := Lib.hid hm2
    have KN := Lib.hid hn2
    have KM3 := Lib.hid hm3
    have KS3 : Hid (∀ w0, Seen w0 (some ⟨bb, off, none⟩) (1 :: r) → Seen w0 A3 u) := fun w0 h => hs3 w0 (KSR.out w0 h)
    clear hb1 hm2 hn2 hm3 hs3
    go_wp2_with fail
    refine bodyPost_ret (v := .tuple #[.agg #[.slice A2 n2 c2, .slice none 0 0, .bool true], .slice A3 m3 d3, .bool true]) (by simp [results, Try.results41, go_sem, x0, x1, x2]) rfl (.inr ⟨(t, [], true), u, A2, n2, c2, none, 0, 0, A3, m3, d3, HD.out, rfl, KN.out, rfl, ?_, .inl rfl, KM3.out, hd3, ?_, ?_⟩)
    · have hz := KZ.out
      have e0 : w.heap.size < W.heap.size := by omega
      have e1 : w.heap.size + 1 < W.heap.size := by omega
      exact (KM.out.2.past.moved ((((Spared.refl w1 (fun b => b < W.heap.size)).setCell e1 0 _).setCell e0 0 _ |>.setCell e0 1 _).setCell e0 2 _) (fun i hi => .inl hi)).mono (fun b hb => by omega)
    · exact KS3.out
    · exact (((KB1.out.setCell (by simp) _).setCell (Nat.le_refl _) _).setCell (Nat.le_refl _) _).setCell (Nat.le_refl _) _

set_option maxRecDepth 100000 in
set_option maxHeartbeats 4000000 in
theorem refOne_kept (A : Option Addr) (r : List UInt8) (L c : Nat) (w : World) (hL : r.length + 1 = L) (hc : L ≤ c) (hb : L ≤ 140737488351232) (hs : Seen w A (0 :: r)) :
    Calls Try.prog 41 #[.slice A L c] w (OneOut w A (0 :: r) (oneL (0 :: r))) := by
  have hzp := zeroPut
  obtain ⟨bb, off, hA, hb0⟩ := hs.byte 0 (by simp)
  subst hA
  simp only [List.getElem_cons_zero, Nat.add_zero] at hb0
  have hcell : ((w.alloc (.cells #[.slice none 0 0, .slice none 0 0, .bool false] 45)).alloc (.cells #[.slice none 0 0, .slice none 0 0, .bool false] 45)).cell? ⟨bb, off, none⟩ = some (.int .u8 0) := byte_at hb0 (oneW_facts w false).2.2.1
  obtain ⟨H1, H2, HB, HZ⟩ := oneW_facts w false
  obtain ⟨A1, HTAIL, hsr⟩ := tail_cut_all (some ⟨bb, off, none⟩) (0 :: r) L c 1 1 rfl (by rw [List.length_cons]; exact hL) (by omega) hc
  obtain ⟨W, hW⟩ : ∃ W, W = oneW w false := ⟨_, rfl⟩
  rw [← hW] at H1 H2 HB HZ
  have HW : Hid (W = (w.alloc (.cells #[.slice none 0 0, .slice none 0 0, .bool false] 45)).alloc (.cells #[.slice none 0 0, .slice none 0 0, .bool false] 45)) := hW
  have K1 := Lib.hid H1
  have K2 := Lib.hid H2
  have KB := Lib.hid HB
  have KZ := Lib.hid HZ
  have hsr0 : Seen w A1 r := hsr w hs
  have KS : Hid (Seen W A1 r) := hsr0.below HB
  have KS0 := Lib.hid hsr0
  have KSR := Lib.hid hsr
  have KL : Hid (r.length = L - 1) := by show _ = _; omega
  have hLp : 0 < L := by omega
  have tL : ((L : Int) == 0) = false := by rw [beq_eq_false_iff_ne]; omega
  clear hs hL hb0 H1 H2 HB HZ hsr hsr0 hW
  rcases ht : textL r with _ | ⟨t, x⟩
  · have HD : Hid (oneL (0 :: r) = none) := by show _ = _; rw [oneL, if_neg (by decide), if_pos rfl, ht]
    have KT := Lib.hid (refText_none A1 r (L - 1) (c - 1) W KL.out (by omega) (by omega) KS.out ht)
    clear ht
    generalize oneL (0 :: r) = D at *
    go_enter Try.func41, Try.ntmps41
    go_wp2_with fail
    rw [← HW.out]
    refine KT.out.mono ?_
    rintro e w1 ⟨rfl, hb1⟩
    obtain ⟨x0, x1, x2, y0, y1, y2, z0, z1, z2, v0, v1, v2⟩ := put_facts K1.out K2.out hb1
    have KB1 : Hid (Below w.heap.size w w1) := KB.out.trans (hb1.mono KB.out.size)
    clear hb1
    go_wp2_with fail
    rw [HD.out]
    refine bodyPost_ret (v := .tuple #[.agg #[.slice none 0 0, .slice none 0 0, .bool false], .slice none 0 0, .bool false]) (by simp [results, Try.results41, go_sem, x0, x1, x2]) rfl (.inl ⟨rfl, none, 0, 0, none, 0, 0, false, none, 0, 0, rfl, ?_⟩)
    exact (((KB1.out.setCell (by simp) _).setCell (Nat.le_refl _) _).setCell (Nat.le_refl _) _).setCell (Nat.le_refl _) _
  · have KT := Lib.hid (refText_some A1 r t x (L - 1) (c - 1) W KL.out (by omega) (by omega) KS.out ht)
    have hxl := textL_less ht
    have hx : Hid (x.length + t.length < r.length) := hxl
    rcases hv : textL x with _ | ⟨v, u⟩
    · have HD : Hid (oneL (0 :: r) = none) := by show _ = _; rw [oneL, if_neg (by decide), if_pos rfl, ht]; simp only; rw [hv]
      have HV := Lib.hid hv
      clear ht hv hxl
      generalize oneL (0 :: r) = D at *
      go_enter Try.func41, Try.ntmps41
      go_wp2_with fail
      rw [← HW.out]
      refine KT.out.mono ?_
      rintro e w1 ⟨A2, n2, c2, A3, m3, d3, rfl, hn2, hm2, hm3, hd3, hs3⟩
      have hb1 := hm2.2.2
      obtain ⟨x0, x1, x2, y0, y1, y2, z0, z1, z2, v0, v1, v2⟩ := put_facts K1.out K2.out hb1
      have KB1 : Hid (Below w.heap.size w w1) := KB.out.trans (hb1.mono KB.out.size)
      have KM3 := Lib.hid hm3
      have KS3 := Lib.hid (hs3 w KS0.out)
      have hm3' : m3 ≤ 140737488351232 := by have h1 := hx.out; have h2 := KL.out; omega
      have hb2 : Below w.heap.size w (w1.setCell ⟨w.heap.size + 1, 0, none⟩ (.slice A2 n2 c2)) := KB1.out.setCell (by simp) _
      have C1 := ((K1.out.below hb1 K1.out.lt).other ⟨w.heap.size + 1, 0, none⟩ (.slice A2 n2 c2) (by simp))
      have C2 := ((K2.out.below hb1 K2.out.lt).set 0 (.slice A2 n2 c2))
      simp only [List.set_cons_zero] at C2
      have L1 := Lib.hid C1
      have L2 := Lib.hid C2
      have LB := Lib.hid hb2
      clear hb1 hm2 hn2 hm3 hs3 C1 C2 hb2
      go_wp2_with fail
      refine (refText_none A3 x m3 d3 _ KM3.out hd3 hm3' (KS3.out.below LB.out) HV.out).mono ?_
      rintro e w2 ⟨rfl, hb3⟩
      clear x0 x1 x2 y0 y1 y2 z0 z1 z2 v0 v1 v2
      obtain ⟨x0, x1, x2, y0, y1, y2, z0, z1, z2, v0, v1, v2⟩ := put_facts L1.out L2.out hb3
      have KB2 : Hid (Below w.heap.size w w2) := LB.out.trans (hb3.mono LB.out.size)
      clear hb3
      go_wp2_with fail
      rw [HD.out]
      refine bodyPost_ret (v := .tuple #[.agg #[.slice A2 n2 c2, .slice none 0 0, .bool false], .slice none 0 0, .bool false]) (by simp [results, Try.results41, go_sem, x0, x1, x2]) rfl (.inl ⟨rfl, A2, n2, c2, none, 0, 0, false, none, 0, 0, rfl, ?_⟩)
      exact (((KB2.out.setCell (by simp) _).setCell (Nat.le_refl _) _).setCell (Nat.le_refl _) _).setCell (Nat.le_refl _) _
    · have HD : Hid (oneL (0 :: r) = some ((t, v, false), u)) := by show _ = _; rw [oneL, if_neg (by decide), if_pos rfl, ht]; simp only; rw [hv]
      have HV := Lib.hid hv
      clear ht hv hxl
      generalize oneL (0 :: r) = D at *
      go_enter Try.func41, Try.ntmps41
      go_wp2_with fail
      rw [← HW.out]
      refine KT.out.mono ?_
      rintro e w1 ⟨A2, n2, c2, A3, m3, d3, rfl, hn2, hm2, hm3, hd3, hs3⟩
      have hb1 := hm2.2.2
      obtain ⟨x0, x1, x2, y0, y1, y2, z0, z1, z2, v0, v1, v2⟩ := put_facts K1.out K2.out hb1
      have KB1 : Hid (Below w.heap.size w w1) := KB.out.trans (hb1.mono KB.out.size)
      have KN := Lib.hid hn2
      have KM := Lib.hid hm2
      have KM3 := Lib.hid hm3
      have KS3 := Lib.hid (hs3 w KS0.out)
      have KS3A := Lib.hid hs3
      have hm3' : m3 ≤ 140737488351232 := by have h1 := hx.out; have h2 := KL.out; omega
      have hb2 : Below w.heap.size w (w1.setCell ⟨w.heap.size + 1, 0, none⟩ (.slice A2 n2 c2)) := KB1.out.setCell (by simp) _
      have C1 := ((K1.out.below hb1 K1.out.lt).other ⟨w.heap.size + 1, 0, none⟩ (.slice A2 n2 c2) (by simp))
      have C2 := ((K2.out.below hb1 K2.out.lt).set 0 (.slice A2 n2 c2))
      simp only [List.set_cons_zero] at C2
      have L1 := Lib.hid C1
      have L2 := Lib.hid C2
      have LB := Lib.hid hb2
      clear hb1 hm2 hn2 hm3 hs3 C1 C2 hb2
      go_wp2_with fail
      refine (refText_some A3 x v u m3 d3 _ KM3.out hd3 hm3' (KS3.out.below LB.out) HV.out).mono ?_
      rintro e w2 ⟨A4, n4, c4, A5, m5, d5, rfl, hn4, hm4, hm5, hd5, hs5⟩
      have hb3 := hm4.2.2
      clear x0 x1 x2 y0 y1 y2 z0 z1 z2 v0 v1 v2
      obtain ⟨x0, x1, x2, y0, y1, y2, z0, z1, z2, v0, v1, v2⟩ := put_facts L1.out L2.out hb3
      have KB2 : Hid (Below w.heap.size w w2) := LB.out.trans (hb3.mono LB.out.size)
      have KB3 := Lib.hid hb3
      have KN4 := Lib.hid hn4
      have KM4 := Lib.hid hm4
      have KN5 := Lib.hid hm5
      have KS5 : Hid (∀ w0, Seen w0 (some ⟨bb, off, none⟩) (0 :: r) → Seen w0 A5 u) := fun w0 h => hs5 w0 (KS3A.out w0 (KSR.out w0 h))
      clear hb3 hn4 hm4 hm5 hs5
      go_wp2_with fail
      refine bodyPost_ret (v := .tuple #[.agg #[.slice A2 n2 c2, .slice A4 n4 c4, .bool false], .slice A5 m5 d5, .bool true]) (by simp [results, Try.results41, go_sem, x0, x1, x2]) rfl (.inr ⟨(t, v, false), u, A2, n2, c2, A4, n4, c4, A5, m5, d5, HD.out, rfl, KN.out, KN4.out, ?_, ?_, KN5.out, hd5, ?_, ?_⟩)
      · have hz := KZ.out
        have e0 : w.heap.size < W.heap.size := by omega
        have e1 : w.heap.size + 1 < W.heap.size := by omega
        have s1 := ((Spared.refl w1 (fun b => b < W.heap.size)).setCell e1 0 (.slice A2 n2 c2)).trans (Spared.of_below KB3.out (fun b => b < W.heap.size)) (fun i hi => .inl hi)
        exact (KM.out.2.past.moved ((((s1.setCell e1 1 _).setCell e0 0 _).setCell e0 1 _).setCell e0 2 _) (fun i hi => .inl hi)).mono (fun b hb => by omega)
      · have hz := KZ.out
        have hz1 := KM.out.2.2.size
        have e0 : w.heap.size < w1.heap.size := by omega
        have e1 : w.heap.size + 1 < w1.heap.size := by omega
        have hp := KM4.out.2.past
        have hq := hp.mono (G := fun b => b < w1.heap.size) (fun b hb => by simpa [World.setCell] using hb)
        exact (hq.moved (((((Spared.refl w2 (fun b => b < w1.heap.size)).setCell e1 1 _).setCell e0 0 _).setCell e0 1 _).setCell e0 2 _) (fun i hi => .inl hi)).mono (fun b hb => by omega)
      · exact KS5.out
      · exact (((KB2.out.setCell (by simp) _).setCell (Nat.le_refl _) _).setCell (Nat.le_refl _) _).setCell (Nat.le_refl _) _

theorem refOne_any (A : Option Addr) (l : List UInt8) (L c : Nat) (w : World) (hL : l.length = L) (hc : L ≤ c) (hb : L ≤ 140737488351232) (hs : Seen w A l) :
    Calls Try.prog 41 #[.slice A L c] w (OneOut w A l (oneL l)) := by
  cases l with
  | nil =>
    obtain rfl : L = 0 := hL.symm
    exact refOne_nil A c w
  | cons b0 r =>
    by_cases h1 : b0 = 1
    · subst h1; exact refOne_gone A r L c w hL hc hb hs
    · by_cases h0 : b0 = 0
      · subst h0; exact refOne_kept A r L c w hL hc hb hs
      · have e : oneL (b0 :: r) = none := by rw [oneL, if_neg h1, if_neg h0]
        rw [e]
        exact refOne_bad A b0 r L c w hL hs h1 h0
end Go.Proofs.Ytmngcfmlmdhpbaa
