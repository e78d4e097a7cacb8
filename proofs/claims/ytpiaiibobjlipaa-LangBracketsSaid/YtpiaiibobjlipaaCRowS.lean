/-
  A row of structs of the call's own: kept where other blocks turn; and as a row that lies outside some blocks. No program is named.
  The parser's group and atom. Conditions: how the parser lies in memory; what an expression one bracket deeper comes to.
  The parser's term and expr. Conditions: how the parser lies in memory; how many brackets are open.
  Rows of refs: the cells of one. No program is named.
  'append(l, x)' of a struct just laid, as a step of a statement whose order is drawn. No program is named.
-/
import Derived.Test.YtpiaiibobjlipaaCLaW
import Derived.Test.YtpiaiibobjlipaaCLpT
import Derived.Test.YtpiaiibobjlipaaCPaX
import Derived.Deep.AppendLies
namespace Go.Proofs.Ytpiaiibobjlipaa
open Go.RowKit
theorem own_spared {w w' : World} {F : Nat → Prop} {base : Nat} {e : TypeId} {s n : Nat} {v : Value} {xs : List Value} (h : w.ownsRow base e s v n xs) (hs : Spared w w' F) (hF : ∀ i, F i → i < base) : w'.ownsRow base e s v n xs := by
  obtain ⟨h1, h2⟩ := h
  refine ⟨h1, ?_⟩
  rcases h2 with h2 | ⟨g, cap, cur, rfl, hb, hh, h3⟩
  · exact .inl h2
  · have hlt : g < w.heap.size := by
      rcases Nat.lt_or_ge g w.heap.size with hlt | hge
      · exact hlt
      · rw [Array.getElem?_eq_none hge] at hh; cases hh
    exact .inr ⟨g, cap, cur, rfl, hb, (hs.block g hlt (fun hf => by have := hF g hf; omega)).trans hh, h3⟩
theorem flatMap_at {α : Type} {s : Nat} (f : α → List Value) (hf : ∀ x, (f x).length = s) : ∀ (l : List α) (j : Nat) (h : j < l.length) (i : Nat), i < s → (l.flatMap f)[j * s + i]? = (f l[j])[i]?
  | x :: r, 0, _, i, hi => by
    simp only [List.flatMap_cons, Nat.zero_mul, Nat.zero_add, List.getElem_cons_zero]
    rw [List.getElem?_append_left (by rw [hf]; exact hi)]
  | x :: r, j + 1, h, i, hi => by
    simp only [List.flatMap_cons, List.getElem_cons_succ]
    rw [List.getElem?_append_right (by rw [hf, Nat.succ_mul]; omega), hf, show (j + 1) * s + i - s = j * s + i by rw [Nat.succ_mul]; omega]
    exact flatMap_at f hf r j (by simpa using h) i hi
theorem row_of_own {α : Type} {s : Nat} {R : World → (Nat → Prop) → α → List Value → Prop} {w : World} {F : Nat → Prop} {base : Nat} {e : TypeId} {A : Option Addr} {n c : Nat} {l : List α} (f : α → List Value) (hf : ∀ x, (f x).length = s) (hn : n = l.length)
    (h : w.ownsRow base e s (.slice A n c) n (l.flatMap f)) (hF : ∀ i, F i → i < base) (hR : ∀ x ∈ l, R w F x (f x)) : RowAt s R w F A l := by
  subst hn
  rcases h.2 with ⟨_, h0⟩ | ⟨g, cap, cur, hv, hb, hh, hnc, _, hsz, htake⟩
  · exact .inl (List.length_eq_zero_iff.1 h0)
  · injection hv with hA _ _
    refine .inr ⟨g, 0, hA, ?_, fun hf => by have := hF g hf; omega, fun j hj => ⟨f l[j], hR _ (List.getElem_mem hj), fun i hi => ?_⟩⟩
    · rcases Nat.lt_or_ge g w.heap.size with hlt | hge
      · exact hlt
      · rw [Array.getElem?_eq_none hge] at hh; cases hh
    · rw [Nat.zero_add, cell_of_row w g _ cur e (0, 0) hh, ← flatMap_at f hf l j hj i hi, ← htake]
      have hlt : j * s + i < l.length * s := by
        have : (j + 1) * s ≤ l.length * s := Nat.mul_le_mul_right s hj
        rw [Nat.succ_mul] at this
        omega
      rw [List.getElem?_take, if_pos hlt]
      simp
theorem Spared.keep {W w w' : World} {F : Nat → Prop} {B : Nat} (h : Spared W w F) (hb : Below B w w') (hB : W.heap.size ≤ B) : Spared W w' F :=
  ⟨hb.os.trans h.os, hb.tape.trans h.tape, hb.output.trans h.output, Nat.le_trans h.size hb.size, fun k hk hn => (hb.block k (Nat.lt_of_lt_of_le hk hB)).trans (h.block k hk hn)⟩
end Go.Proofs.Ytpiaiibobjlipaa
namespace Go.Proofs.Ytpiaiibobjlipaa
open Go.RowKit
def groupP (sub : Option (List Tk → Rs Ex)) (ts : List Tk) : Rs Ex :=
  match sub with
  | none => .no (failT (nx ts) 9)
  | some f => (f ts.tail).then fun e r => (mustP [41] r).then fun _ r => .ok e r
def DeepIs (d : Nat) (g : Nat) (s : ByteArray) (op : Nat) : Prop := d + op = 12 ∧ ∀ f, subD d = some f → ∀ (W : World) (j : Nat), PAt W g s j (op + 1) → Calls Try.prog 88 #[.pointer (some ⟨g, 0, none⟩)] W (POut (exV W g) W g s j (op + 1) (f (toks s.data.toList j)))
theorem PAt.open_ {W : World} {g : Nat} {s : ByteArray} {i op : Nat} (h : PAt W g s i op) (op' : Nat) : PAt (W.setCell ⟨g, 3, none⟩ (.int .i64 (op' : Int))) g s i op' := by
  refine ⟨h.1, h.2.1, ?_⟩
  have := h.2.2.set 3 (.int .i64 (op' : Int))
  simpa using this
theorem POut.ex4 {W w : World} {g : Nat} {s : ByteArray} {i i' op : Nat} {R : Rs Ex} {e : Ex} {cs : List Value} (hg : g < W.heap.size) {b : Nat} (hb : W.heap.size ≤ b) (hR : R = .ok e (toks s.data.toList i')) (hi : i < i') (hP : PAt w g s i' op) (hS : Spared W w (onG g))
    (hE : ExAt w (fun x => x = g ∨ x < W.heap.size ∨ x = b) e cs) (hh : heightE e ≤ 12) (u0 u1 u2 u3 : Value) :
    POut (exV W g) W g s i op R (.returned (.agg cs.toArray)) ((((w.setCell ⟨b, 0, none⟩ u0).setCell ⟨b, 1, none⟩ u1).setCell ⟨b, 2, none⟩ u2).setCell ⟨b, 3, none⟩ u3) :=
  POut.ok_ hR ⟨_, rfl, ExAt.moved (((((Spared.refl w (fun x => x = g ∨ x < W.heap.size ∨ x = b)).setCell (g := b) (.inr (.inr rfl)) 0 _).setCell (g := b) (.inr (.inr rfl)) 1 _).setCell (g := b) (.inr (.inr rfl)) 2 _).setCell (g := b) (.inr (.inr rfl)) 3 _) (fun _ hi => .inl (hi.elim .inl (fun h => .inr (.inl h)))) _ _ hE, hh⟩
    ⟨i', rfl, hi, (((hP.setNew hg hb _ _).setNew hg hb _ _).setNew hg hb _ _).setNew hg hb _ _, (((hS.setNew hb _ _).setNew hb _ _).setNew hb _ _).setNew hb _ _⟩
set_option maxHeartbeats 1000000 in
theorem group_any {d : Nat} {W : World} {g : Nat} {s : ByteArray} {i op : Nat} (h : PAt W g s i op) (hd : DeepIs d g s op) (ht : (nx (toks s.data.toList i)).1 = [40]) :
    Calls Try.prog 109 #[.pointer (some ⟨g, 0, none⟩)] W (POut (exV W g) W g s i op (groupP (subD d) (toks s.data.toList i))) := by
  have hg := h.lt
  have hgn : g ≠ W.heap.size := Nat.ne_of_lt hg
  obtain ⟨W1, hW1⟩ : ∃ W1, W1 = W.alloc (.cells #[.int .i64 0, .string ⟨#[]⟩, .string ⟨#[]⟩, .slice none 0 0] 35) := ⟨_, rfl⟩
  have hb1 : Below W.heap.size W W1 := by rw [hW1]; exact (Below.refl W.heap.size W).alloc (Nat.le_refl _) _
  have HZ1 : Hid (Blk W1 W.heap.size [.int .i64 0, .string ⟨#[]⟩, .string ⟨#[]⟩, .slice none 0 0] 35) := by rw [hW1]; exact Lib.hid (Blk.new W _ _)
  have HP1 := Lib.hid (h.below hb1)
  have HS1 := Lib.hid (Spared.of_below hb1 (onG g))
  have HW1 := Lib.hid hW1
  have x1 := HP1.out.from_
  have x3 := HP1.out.2.2.cell (i := 3) (by simp)
  simp only [List.getElem_cons_succ, List.getElem_cons_zero] at x3
  have xf := HP1.out.2.2.free 3
  have hop : op ≤ 12 := by have := hd.1; omega
  rw [hW1] at x1 x3 xf
  obtain ⟨R, hR⟩ : ∃ R, R = groupP (subD d) (toks s.data.toList i) := ⟨_, rfl⟩
  rw [← hR]
  have HR := Lib.hid hR
  have HP0 := Lib.hid h
  have HD := Lib.hid hd
  have HT := Lib.hid ht
  clear h hW1 hb1 hR hd ht
  by_cases h12 : op = 12
  · obtain rfl : d = 0 := by have := HD.out.1; omega
    have h12i : (op : Int) = 12 := by omega
    have HF := Lib.hid (HP1.out.fail 9)
    clear h12
    go_enter Try.func109, Try.ntmps109
    go_wp2_with fail
    rw [← HW1.out]
    go_at_call 70
    refine HF.out.mono ?_
    rintro r w2 ⟨rfl, hb2⟩
    go_wp2_with fail
    exact ⟨rfl, POut.no_ (d := failT (nx (toks s.data.toList i)) 9) HR.out (sp_trans HS1.out (Spared.of_below hb2 (onG g)))⟩
  · have h12i : ¬ (op : Int) = 12 := by omega
    have h12b : ((op : Int) == 12) = false := beq_eq_false_iff_ne.2 h12i
    obtain ⟨d', rfl⟩ : ∃ d', d = d' + 1 := ⟨d - 1, by have := HD.out.1; omega⟩
    obtain ⟨W2, hW2⟩ : ∃ W2, W2 = (W.setCell ⟨g, 3, none⟩ (.int .i64 ((op + 1 : Nat) : Int))).alloc (.cells #[.int .i64 0, .string ⟨#[]⟩, .string ⟨#[]⟩, .slice none 0 0] 35) := ⟨_, rfl⟩
    have hsz : (W.setCell ⟨g, 3, none⟩ (.int .i64 ((op + 1 : Nat) : Int))).heap.size = W.heap.size := by simp
    have hb2 : Below W.heap.size (W.setCell ⟨g, 3, none⟩ (.int .i64 ((op + 1 : Nat) : Int))) W2 := by rw [hW2]; exact (Below.refl _ _).alloc (by omega) _
    have HP2 : Hid (PAt W2 g s i (op + 1)) := Lib.hid ((HP0.out.open_ (op + 1)).below (by rw [hsz]; exact hb2))
    have HS2 : Hid (Spared W W2 (onG g)) := Lib.hid (((Spared.refl W (onG g)).setCell (g := g) rfl 3 _).keep hb2 (Nat.le_refl _))
    have HZ2 : Hid (Blk W2 W.heap.size [.int .i64 0, .string ⟨#[]⟩, .string ⟨#[]⟩, .slice none 0 0] 35) := by
      rw [hW2]
      have := Blk.new (W.setCell ⟨g, 3, none⟩ (.int .i64 ((op + 1 : Nat) : Int))) [.int .i64 0, .string ⟨#[]⟩, .string ⟨#[]⟩, .slice none 0 0] 35
      rw [hsz] at this
      exact Lib.hid this
    have HE2 := Lib.hid (expect_any HP2.out (t := [40]) (.inr (.inr ⟨40, by decide, rfl⟩)) (by decide))
    have HM : Hid (mustP [40] (toks s.data.toList i) = .ok () (toks s.data.toList i).tail) := Lib.hid (by rw [mustP, if_pos HT.out])
    rw [HM.out] at HE2
    have HW2 := Lib.hid hW2
    rw [show ((op + 1 : Nat) : Int) = (op : Int) + 1 by omega] at HW2
    clear hW2 h12 hsz hb2
    go_enter Try.func109, Try.ntmps109
    go_wp2_with fail
    rw [← HW2.out]
    go_at_call 49
    refine HE2.out.mono ?_
    rintro r w3 ⟨_, rfl, rfl, i3, e3, l3, hp3, hs3⟩
    have HE3 := Lib.hid e3
    have HL3 := Lib.hid l3
    have HZ3 := Lib.hid (hs3.blk HZ2.out (fun e => hgn e.symm))
    have HS3 := Lib.hid (sp_trans HS2.out hs3)
    have HX3 := Lib.hid (HD.out.2 (exprD d') rfl w3 i3 hp3)
    clear e3 l3 hp3 hs3 HE2 HZ2 HS2 HP2
    cases hr3 : exprD d' (toks s.data.toList i3) with
    | no d =>
      rw [hr3] at HX3
      have HR3 := Lib.hid hr3
      clear hr3
      go_wp2_with fail
      go_at_call 88
      refine HX3.out.mono ?_
      rintro r w4 ⟨rfl, hs4⟩
      go_wp2_with fail
      exact ⟨rfl, POut.no_ (by rw [HR.out]; simp only [groupP, subD, HE3.out, HR3.out]; rfl) (sp_trans HS3.out hs4)⟩
    | ok e r4 =>
      rw [hr3] at HX3
      have HR3 := Lib.hid hr3
      clear hr3
      go_wp2_with fail
      go_at_call 88
      refine HX3.out.mono ?_
      rintro r w4 ⟨_, rfl, ⟨cs, rfl, hE4, hh4⟩, i4, e4, l4, hp4, hs4⟩
      subst e4
      obtain ⟨p1, p2, p3, pA, pm, pc, rfl⟩ := hE4.shape
      obtain ⟨w5, hw5⟩ : ∃ w5, w5 = w4.alloc (.cells #[.int .i64 p1, strV p2, strV p3, .slice pA pm pc] 35) := ⟨_, rfl⟩
      have hb5 : Below w4.heap.size w4 w5 := by rw [hw5]; exact (Below.refl _ _).alloc (Nat.le_refl _) _
      have HX5 : Hid (Blk w5 w4.heap.size [.int .i64 p1, strV p2, strV p3, .slice pA pm pc] 35) := by rw [hw5]; exact Lib.hid (Blk.new _ _ _)
      have hz4 := hs4.blk HZ3.out (fun e => hgn e.symm)
      have HZL := Lib.hid hz4.lt
      have HZ5 := Lib.hid (hz4.below hb5 hz4.lt)
      have HS5 := Lib.hid (sp_trans (sp_trans HS3.out hs4) (Spared.of_below hb5 (onG g)))
      have HP5 := Lib.hid (hp4.below hb5)
      have HL4 := Lib.hid l4
      have HH4 := Lib.hid hh4
      have hz3 := HZ3.out.lt
      have HE5 : Hid (ExAt w5 (fun b => b = g ∨ b ≤ W.heap.size) e [.int .i64 p1, strV p2, strV p3, .slice pA pm pc]) := Lib.hid ((ExAt.moved (Spared.refl w4 _) (fun i hi => .inl (hi.elim .inl (fun h => .inr (by omega)))) _ _ hE4).below hb5)
      have hgm : g ≠ w4.heap.size := Nat.ne_of_lt hp4.lt
      have HQ5 := Lib.hid (expect_any HP5.out (t := [41]) (.inr (.inr ⟨41, by decide, rfl⟩)) (by decide))
      have HW5 := Lib.hid hw5
      clear hw5 hb5 hz4 hp4 l4 hh4 hE4 hs4 hz3 HX3
      cases hr5 : mustP [41] (toks s.data.toList i4) with
      | no d =>
        rw [hr5] at HQ5
        have HR5 := Lib.hid hr5
        clear hr5
        go_wp2_with fail
        rw [← HW5.out]
        go_at_call 49
        refine HQ5.out.mono ?_
        rintro r w6 ⟨rfl, hs6⟩
        go_wp2_with fail
        exact ⟨rfl, POut.no_ (by rw [HR.out]; simp only [groupP, subD, HE3.out, HR3.out, Rs.then, HR5.out]) (sp_trans HS5.out hs6)⟩
      | ok u r6 =>
        rw [hr5] at HQ5
        have HR5 := Lib.hid hr5
        clear hr5
        go_wp2_with fail
        rw [← HW5.out]
        go_at_call 49
        refine HQ5.out.mono ?_
        rintro r w6 ⟨_, rfl, rfl, i6, e6, l6, hp6, hs6⟩
        subst e6
        have hx6 := hs6.blk HX5.out (fun e => hgm e.symm)
        have hz6 := hs6.blk HZ5.out (fun e => hgn e.symm)
        have z0 := hx6.cell (i := 0) (by simp)
        have z1 := hx6.cell (i := 1) (by simp)
        have z2 := hx6.cell (i := 2) (by simp)
        have z3 := hx6.cell (i := 3) (by simp)
        have v0 := hz6.cell (i := 0) (by simp)
        have v1 := hz6.cell (i := 1) (by simp)
        have v2 := hz6.cell (i := 2) (by simp)
        have v3 := hz6.cell (i := 3) (by simp)
        have y3 := hp6.2.2.cell (i := 3) (by simp)
        simp only [List.getElem_cons_succ, List.getElem_cons_zero] at z0 z1 z2 z3 v0 v1 v2 v3 y3
        rw [show ((op + 1 : Nat) : Int) = (op : Int) + 1 by omega] at y3
        have y3f := hp6.2.2.free 3
        have f0 := hz6.free 0
        have f1 := hz6.free 1
        have f2 := hz6.free 2
        have f3 := hz6.free 3
        have HP6 := Lib.hid (hp6.open_ op)
        have HS6 := Lib.hid ((sp_trans HS5.out hs6).setCell (g := g) rfl 3 (.int .i64 (op : Int)))
        have HE6 := Lib.hid (ExAt.moved ((hs6.mono (G := fun b => b = g ∨ b ≤ W.heap.size) (fun _ h => .inl h)).setCell (g := g) (.inl rfl) 3 (.int .i64 (op : Int))) (fun _ h => .inl h) _ _ HE5.out)
        have HL6 := Lib.hid l6
        have hwg : W.heap.size ≠ g := fun e => hgn e.symm
        have hmg : w4.heap.size ≠ g := fun e => hgm e.symm
        clear hx6 hz6 hp6 hs6 l6 HX5 HZ5 HS5 HP5 HQ5
        go_wp2_with fail
        refine bodyPost_ret (v := .agg #[.int .i64 p1, strV p2, strV p3, .slice pA pm pc]) (by simp [results, Try.results109, go_sem, v0, v1, v2, v3]) rfl ?_
        refine POut.ex4 hg (Nat.le_refl _) (by rw [HR.out]; simp only [groupP, subD, HE3.out, HR3.out, Rs.then, HR5.out]) (by have := HL3.out; have := HL4.out; have := HL6.out; omega) HP6.out HS6.out (ExAt.moved (Spared.refl _ _) (fun i hi => .inl (hi.elim .inl (fun h => .inr (by omega)))) _ _ HE6.out) HH4.out _ _ _ _
def plainP (ts : List Tk) : Rs Ex := (nameP ts).then fun s r => if (nx r).1 = [46] then (nameP r.tail).then fun o r => .ok (.mk 1 s o []) r else .ok (.mk 0 s [] []) r
theorem atomK_eq (sub : Option (List Tk → Rs Ex)) (ts : List Tk) : atomK sub ts = if (nx ts).1 = [40] then groupP sub ts else plainP ts := by
  unfold atomK groupP plainP
  rfl
set_option maxHeartbeats 1000000 in
theorem patom_any {d : Nat} {W : World} {g : Nat} {s : ByteArray} {i op : Nat} (h : PAt W g s i op) (hd : DeepIs d g s op) :
    Calls Try.prog 103 #[.pointer (some ⟨g, 0, none⟩)] W (POut (exV W g) W g s i op (atomK (subD d) (toks s.data.toList i))) := by
  rw [atomK_eq]
  have hg := h.lt
  have hgn : g ≠ W.heap.size := Nat.ne_of_lt hg
  obtain ⟨W1, hW1⟩ : ∃ W1, W1 = W.alloc (.cells #[.int .i64 0, .string ⟨#[]⟩, .string ⟨#[]⟩, .slice none 0 0] 35) := ⟨_, rfl⟩
  have hb1 : Below W.heap.size W W1 := by rw [hW1]; exact (Below.refl W.heap.size W).alloc (Nat.le_refl _) _
  have HZ1 : Hid (Blk W1 W.heap.size [.int .i64 0, .string ⟨#[]⟩, .string ⟨#[]⟩, .slice none 0 0] 35) := by rw [hW1]; exact Lib.hid (Blk.new W _ _)
  have HP1 := Lib.hid (h.below hb1)
  have HS1 := Lib.hid (Spared.of_below hb1 (onG g))
  have HW1 := Lib.hid hW1
  have HT1 := Lib.hid (token_any HP1.out)
  have hgood : Good [40] := .inr (.inr ⟨40, by decide, rfl⟩)
  by_cases ht : (nx (toks s.data.toList i)).1 = [40]
  · rw [if_pos ht]
    have hc : curT s.data.toList i = [40] := (h.1.tok.1.eq hgood).2 ht
    rw [hc] at HT1
    have HG := Lib.hid (fun w (hw : PAt w g s i op) => group_any hw hd ht)
    clear h hd hW1 hb1 hc ht
    go_enter Try.func103, Try.ntmps103
    go_wp2_with fail
    rw [← HW1.out]
    go_at_call 66
    refine HT1.out.mono ?_
    rintro r w2 ⟨rfl, hb2⟩
    have HP2 := Lib.hid (HP1.out.below hb2)
    have HZ2 := Lib.hid (HZ1.out.below hb2 HZ1.out.lt)
    have HS2 := Lib.hid (sp_trans HS1.out (Spared.of_below hb2 (onG g)))
    clear hb2
    go_wp2_with fail
    go_at_call 109
    refine (HG.out _ HP2.out).mono ?_
    rintro r w3 hpo
    rcases hpo.split with ⟨e, ts, _, hr3, rfl, ⟨cs, rfl, hE3, hh3⟩, i3, e3, l3, hp3, hs3⟩ | ⟨d', hr3, rfl, hs3⟩
    · obtain ⟨p1, p2, p3, pA, pm, pc, rfl⟩ := hE3.shape
      have hz3 := hs3.blk HZ2.out (fun e => hgn e.symm)
      have v0 := hz3.cell (i := 0) (by simp)
      have v1 := hz3.cell (i := 1) (by simp)
      have v2 := hz3.cell (i := 2) (by simp)
      have v3 := hz3.cell (i := 3) (by simp)
      simp only [List.getElem_cons_succ, List.getElem_cons_zero] at v0 v1 v2 v3
      have f0 := hz3.free 0
      have f1 := hz3.free 1
      have f2 := hz3.free 2
      have f3 := hz3.free 3
      have hz2 := HZ2.out.lt
      have HR3 := Lib.hid hr3
      have HE3' := Lib.hid e3
      have HL3 := Lib.hid l3
      have HP3 := Lib.hid hp3
      have HS3 := Lib.hid (sp_trans HS2.out hs3)
      have HH3 := Lib.hid hh3
      have HX3 : Hid (ExAt w3 (fun x => x = g ∨ x < W.heap.size ∨ x = W.heap.size) e [.int .i64 p1, strV p2, strV p3, .slice pA pm pc]) := Lib.hid (ExAt.moved (Spared.refl w3 _) (fun i hi => .inl (hi.elim .inl (fun h => .inr (by omega)))) _ _ hE3)
      clear hr3 e3 l3 hp3 hs3 hh3 hE3 hz3 hz2 hpo
      go_wp2_with fail
      refine bodyPost_ret (v := .agg #[.int .i64 p1, strV p2, strV p3, .slice pA pm pc]) (by simp [results, Try.results103, go_sem, v0, v1, v2, v3]) rfl ?_
      exact POut.ex4 hg (Nat.le_refl _) (by rw [HR3.out, HE3'.out]) HL3.out HP3.out HS3.out HX3.out HH3.out _ _ _ _
    · have HR3 := Lib.hid hr3
      clear hr3
      go_wp2_with fail
      exact ⟨rfl, POut.no_ HR3.out (sp_trans HS2.out hs3)⟩
  · rw [if_neg ht]
    have hc : curT s.data.toList i ≠ [40] := fun e => ht ((h.1.tok.1.eq hgood).1 e)
    obtain ⟨u, hu⟩ : ∃ u, u = curT s.data.toList i := ⟨_, rfl⟩
    rw [← hu] at HT1 hc
    have hub : (u == [40]) = false := beq_eq_false_iff_ne.2 hc
    have HN := Lib.hid (fun w (hw : PAt w g s i op) => pname_any hw)
    obtain ⟨R, hR⟩ : ∃ R, R = plainP (toks s.data.toList i) := ⟨_, rfl⟩
    rw [← hR]
    have HR := Lib.hid hR
    clear h hd hW1 hb1 hc ht hu hR
    go_enter Try.func103, Try.ntmps103
    go_wp2_with fail
    rw [← HW1.out]
    go_at_call 66
    refine HT1.out.mono ?_
    rintro r w2 ⟨rfl, hb2⟩
    have HP2 := Lib.hid (HP1.out.below hb2)
    have HZ2 := Lib.hid (HZ1.out.below hb2 HZ1.out.lt)
    have HS2 := Lib.hid (sp_trans HS1.out (Spared.of_below hb2 (onG g)))
    clear hb2
    go_wp2_with fail
    go_at_call 67
    refine (HN.out _ HP2.out).mono ?_
    rintro r w3 hpo
    rcases hpo.split with ⟨a, ts, _, hr3, rfl, ⟨rfl, ha⟩, i3, e3, l3, hp3, hs3⟩ | ⟨d', hr3, rfl, hs3⟩
    · subst e3
      obtain ⟨w4, hw4⟩ : ∃ w4, w4 = w3.alloc (.cells #[.int .i64 0, strV a, .string ⟨#[]⟩, .slice none 0 0] 35) := ⟨_, rfl⟩
      have hb4 : Below w3.heap.size w3 w4 := by rw [hw4]; exact (Below.refl _ _).alloc (Nat.le_refl _) _
      have HX4 : Hid (Blk w4 w3.heap.size [.int .i64 0, strV a, .string ⟨#[]⟩, .slice none 0 0] 35) := by rw [hw4]; exact Lib.hid (Blk.new _ _ _)
      have hz3 := hs3.blk HZ2.out (fun e => hgn e.symm)
      have HZL := Lib.hid hz3.lt
      have HZ4 := Lib.hid (hz3.below hb4 hz3.lt)
      have HP4 := Lib.hid (hp3.below hb4)
      have HS4 := Lib.hid (sp_trans (sp_trans HS2.out hs3) (Spared.of_below hb4 (onG g)))
      have hgm : g ≠ w3.heap.size := Nat.ne_of_lt hp3.lt
      have hzx : ¬ W.heap.size = w3.heap.size := Nat.ne_of_lt HZL.out
      have hxz : ¬ w3.heap.size = W.heap.size := fun e => hzx e.symm
      have HR3 := Lib.hid hr3
      have HL3 := Lib.hid l3
      have HA := Lib.hid ha
      have HW4 := Lib.hid hw4
      have hdot : Good [46] := .inr (.inr ⟨46, by decide, rfl⟩)
      clear hb4 hz3 hp3 hs3 hr3 l3 ha hw4 hpo
      by_cases hq : (nx (toks s.data.toList i3)).1 = [46]
      · have HQ := Lib.hid hq
        have HAC := Lib.hid (accept_yes HP4.out hdot (by decide) hq)
        clear hq
        go_wp2_with fail
        rw [← HW4.out]
        go_at_call 47
        refine HAC.out.mono ?_
        rintro r w5 ⟨rfl, i5, e5, l5, hp5, hs5⟩
        have HE5 := Lib.hid e5
        have HL5 := Lib.hid l5
        have HX5 := Lib.hid (hs5.blk HX4.out (fun e => hgm e.symm))
        have HZ5 := Lib.hid (hs5.blk HZ4.out (fun e => hgn e.symm))
        have HS5 := Lib.hid (sp_trans HS4.out hs5)
        have HN5 := Lib.hid (pname_any hp5)
        clear e5 l5 hp5 hs5 HAC HX4 HZ4 HS4
        go_wp2_with fail
        go_at_call 67
        refine HN5.out.mono ?_
        rintro r w6 hpo
        rcases hpo.split with ⟨b, ts, _, hr6, rfl, ⟨rfl, hb⟩, i6, e6, l6, hp6, hs6⟩ | ⟨d', hr6, rfl, hs6⟩
        · subst e6
          have hx6 := hs6.blk HX5.out (fun e => hgm e.symm)
          have hz6 := hs6.blk HZ5.out (fun e => hgn e.symm)
          have x0 := hx6.cell (i := 0) (by simp)
          have x1 := hx6.cell (i := 1) (by simp)
          have x2 := hx6.cell (i := 2) (by simp)
          have x3 := hx6.cell (i := 3) (by simp)
          have v0 := hz6.cell (i := 0) (by simp)
          have v1 := hz6.cell (i := 1) (by simp)
          have v2 := hz6.cell (i := 2) (by simp)
          have v3 := hz6.cell (i := 3) (by simp)
          simp only [List.getElem_cons_succ, List.getElem_cons_zero] at x0 x1 x2 x3 v0 v1 v2 v3
          have g0 := hx6.free 0
          have g2 := hx6.free 2
          have f0 := hz6.free 0
          have f1 := hz6.free 1
          have f2 := hz6.free 2
          have f3 := hz6.free 3
          have hzw : W.heap.size ≤ w3.heap.size := Nat.le_of_lt HZL.out
          have HP6 := Lib.hid ((hp6.setNew hg hzw 0 (.int .i64 1)).setNew hg hzw 2 (strV b))
          have HS6 := Lib.hid (((sp_trans HS5.out hs6).setNew hzw 0 (.int .i64 1)).setNew hzw 2 (strV b))
          have HR6 := Lib.hid hr6
          have HL6 := Lib.hid l6
          have HB := Lib.hid hb
          clear hx6 hz6 hp6 hs6 hr6 l6 hb hpo hzw
          go_wp2_with fail
          refine bodyPost_ret (v := .agg #[.int .i64 1, strV a, strV b, .slice none 0 0]) (by simp [results, Try.results103, go_sem, v0, v1, v2, v3]) rfl ?_
          refine POut.ex4 (e := .mk 1 a b []) hg (Nat.le_refl _) (by rw [HR.out, plainP, HR3.out]; simp only [Rs.then]; rw [if_pos HQ.out, HE5.out, HR6.out]) (by have := HL3.out; have := HL5.out; have := HL6.out; omega) HP6.out HS6.out (ExAt.of_row (k := 1) (n := a) (o := b) (ks := []) (A := none) (c := 0) ⟨⟨by decide, by decide⟩, HA.out, HB.out, Nat.zero_le _⟩ (.inl rfl)) (by rw [heightE, heightL]; decide) _ _ _ _
        · have HR6 := Lib.hid hr6
          clear hr6
          go_wp2_with fail
          exact ⟨rfl, POut.no_ (by rw [HR.out, plainP, HR3.out]; simp only [Rs.then]; rw [if_pos HQ.out, HE5.out, HR6.out]) (sp_trans HS5.out hs6)⟩
      · have HQ := Lib.hid hq
        have HAC := Lib.hid (accept_no HP4.out hdot hq)
        clear hq
        go_wp2_with fail
        rw [← HW4.out]
        go_at_call 47
        refine HAC.out.mono ?_
        rintro r w5 ⟨rfl, hb5⟩
        have hx5 := HX4.out.below hb5 HX4.out.lt
        have hz5 := HZ4.out.below hb5 HZ4.out.lt
        have x0 := hx5.cell (i := 0) (by simp)
        have x1 := hx5.cell (i := 1) (by simp)
        have x2 := hx5.cell (i := 2) (by simp)
        have x3 := hx5.cell (i := 3) (by simp)
        have v0 := hz5.cell (i := 0) (by simp)
        have v1 := hz5.cell (i := 1) (by simp)
        have v2 := hz5.cell (i := 2) (by simp)
        have v3 := hz5.cell (i := 3) (by simp)
        simp only [List.getElem_cons_succ, List.getElem_cons_zero] at x0 x1 x2 x3 v0 v1 v2 v3
        have f0 := hz5.free 0
        have f1 := hz5.free 1
        have f2 := hz5.free 2
        have f3 := hz5.free 3
        have HP5 := Lib.hid (HP4.out.below hb5)
        have HS5 := Lib.hid (sp_trans HS4.out (Spared.of_below hb5 (onG g)))
        clear hx5 hz5 hb5
        go_wp2_with fail
        refine bodyPost_ret (v := .agg #[.int .i64 0, strV a, .string ⟨#[]⟩, .slice none 0 0]) (by simp [results, Try.results103, go_sem, v0, v1, v2, v3]) rfl ?_
        refine POut.ex4 (e := .mk 0 a [] []) hg (Nat.le_refl _) (by rw [HR.out, plainP, HR3.out]; simp only [Rs.then]; rw [if_neg HQ.out]) HL3.out HP5.out HS5.out (ExAt.of_row (k := 0) (n := a) (o := []) (ks := []) (A := none) (c := 0) ⟨⟨by decide, by decide⟩, HA.out, Nat.zero_le _, Nat.zero_le _⟩ (.inl rfl)) (by rw [heightE, heightL]; decide) _ _ _ _
    · have HR3 := Lib.hid hr3
      clear hr3
      go_wp2_with fail
      exact ⟨rfl, POut.no_ (by rw [HR.out, plainP, HR3.out]; rfl) (sp_trans HS2.out hs3)⟩
end Go.Proofs.Ytpiaiibobjlipaa
namespace Go.Proofs.Ytpiaiibobjlipaa
open Go.RowKit
theorem enter_atom (args : Array Value) (w : World) : (callFunc 103 args).run Try.prog w = .ok (.enter 103 args) w := by simp [go_sem]
theorem enter_term (args : Array Value) (w : World) : (callFunc 96 args).run Try.prog w = .ok (.enter 96 args) w := by simp [go_sem]
set_option maxHeartbeats 1000000 in
theorem pterm_any {d : Nat} {W : World} {g : Nat} {s : ByteArray} {i op : Nat} (h : PAt W g s i op) (hd : DeepIs d g s op) :
    Calls Try.prog 96 #[.pointer (some ⟨g, 0, none⟩)] W (POut (exV W g) W g s i op (termK (subD d) (toks s.data.toList i))) := by
  rw [termK_ops]
  have hg := h.lt
  have hgn : g ≠ W.heap.size := Nat.ne_of_lt hg
  have hmf : ∀ (fn : Fn) (first cap : Array Value) (w : World), (Instr.makeFunc fn first cap).run Try.prog w = .ok (.func fn first cap) w := fun _ _ _ _ => rfl
  obtain ⟨W2, hW2⟩ : ∃ W2, W2 = (W.alloc (.cells #[.int .i64 0, .string ⟨#[]⟩, .string ⟨#[]⟩, .slice none 0 0] 35)).alloc (.cells #[.int .i64 3] 3) := ⟨_, rfl⟩
  have hb2 : Below W.heap.size W W2 := by rw [hW2]; exact ((Below.refl W.heap.size W).alloc (Nat.le_refl _) _).alloc (by simp) _
  have HZ2 : Hid (Blk W2 W.heap.size [.int .i64 0, .string ⟨#[]⟩, .string ⟨#[]⟩, .slice none 0 0] 35) := by rw [hW2]; exact Lib.hid ((Blk.new W _ _).alloc _)
  have hK2 : Blk W2 (W.heap.size + 1) [.int .i64 3] 3 := by
    rw [hW2]
    have := Blk.new (W.alloc (.cells #[.int .i64 0, .string ⟨#[]⟩, .string ⟨#[]⟩, .slice none 0 0] 35)) [.int .i64 3] 3
    rw [World.size_alloc] at this
    exact this
  have hA : IntsAway W2 (onG g) (some ⟨W.heap.size + 1, 0, none⟩) [3] := .inr ⟨_, 0, rfl, hK2.lt, fun e => by have e : W.heap.size + 1 = g := e; omega, fun j hj => by
    have := hK2.cell (i := 0 + j) (by simpa using hj)
    rw [this]
    obtain rfl : j = 0 := by simp at hj; omega
    rfl⟩
  have HO := Lib.hid (operations_any 103 enter_atom (h.below hb2) (atom_lv (subD_lv d)) (fun w j hP => patom_any hP hd) [3].length (ks := [3]) (by intro k hk; simp at hk; omega) (by decide) hA)
  have HS2 := Lib.hid (Spared.of_below hb2 (onG g))
  have HW2 := Lib.hid hW2
  obtain ⟨R, hR⟩ : ∃ R, R = opsK [3] (atomK (subD d)) (toks s.data.toList i) := ⟨_, rfl⟩
  rw [← hR] at HO ⊢
  clear h hd hW2 hb2 hK2 hA hR
  go_enter Try.func96, Try.ntmps96
  go_wp2_with fail
  rw [← HW2.out]
  go_at_call 95
  refine HO.out.mono ?_
  rintro r w3 hpo
  rcases hpo.split with ⟨e, ts, _, hr3, rfl, ⟨cs, rfl, hE3, hh3⟩, i3, e3, l3, hp3, hs3⟩ | ⟨d', hr3, rfl, hs3⟩
  · obtain ⟨p1, p2, p3, pA, pm, pc, rfl⟩ := hE3.shape
    have hz3 := hs3.blk HZ2.out (fun e => hgn e.symm)
    have v0 := hz3.cell (i := 0) (by simp)
    have v1 := hz3.cell (i := 1) (by simp)
    have v2 := hz3.cell (i := 2) (by simp)
    have v3 := hz3.cell (i := 3) (by simp)
    simp only [List.getElem_cons_succ, List.getElem_cons_zero] at v0 v1 v2 v3
    have f0 := hz3.free 0
    have f1 := hz3.free 1
    have f2 := hz3.free 2
    have f3 := hz3.free 3
    have hz2 := HZ2.out.lt
    have HR3 := Lib.hid hr3
    have HE3' := Lib.hid e3
    have HL3 := Lib.hid l3
    have HP3 := Lib.hid hp3
    have HS3 := Lib.hid (sp_trans HS2.out hs3)
    have HH3 := Lib.hid hh3
    have HX3 : Hid (ExAt w3 (fun x => x = g ∨ x < W.heap.size ∨ x = W.heap.size) e [.int .i64 p1, strV p2, strV p3, .slice pA pm pc]) := Lib.hid (ExAt.moved (Spared.refl w3 _) (fun i hi => .inl (hi.elim .inl (fun h => .inr (by omega)))) _ _ hE3)
    clear hr3 e3 l3 hp3 hs3 hh3 hE3 hz3 hz2 hpo
    go_wp2_with fail
    refine bodyPost_ret (v := .agg #[.int .i64 p1, strV p2, strV p3, .slice pA pm pc]) (by simp [results, Try.results96, go_sem, v0, v1, v2, v3]) rfl ?_
    exact POut.ex4 hg (Nat.le_refl _) (by rw [HR3.out, HE3'.out]) HL3.out HP3.out HS3.out HX3.out HH3.out _ _ _ _
  · have HR3 := Lib.hid hr3
    clear hr3
    go_wp2_with fail
    exact ⟨rfl, POut.no_ HR3.out (sp_trans HS2.out hs3)⟩
set_option maxHeartbeats 1000000 in
theorem pexpr_any {d : Nat} {W : World} {g : Nat} {s : ByteArray} {i op : Nat} (h : PAt W g s i op) (hd : DeepIs d g s op) :
    Calls Try.prog 88 #[.pointer (some ⟨g, 0, none⟩)] W (POut (exV W g) W g s i op (exprD d (toks s.data.toList i))) := by
  rw [exprD_eq, exprK_ops]
  have hg := h.lt
  have hgn : g ≠ W.heap.size := Nat.ne_of_lt hg
  have hmf : ∀ (fn : Fn) (first cap : Array Value) (w : World), (Instr.makeFunc fn first cap).run Try.prog w = .ok (.func fn first cap) w := fun _ _ _ _ => rfl
  obtain ⟨W2, hW2⟩ : ∃ W2, W2 = (W.alloc (.cells #[.int .i64 0, .string ⟨#[]⟩, .string ⟨#[]⟩, .slice none 0 0] 35)).alloc (.cells #[.int .i64 2, .int .i64 4] 3) := ⟨_, rfl⟩
  have hb2 : Below W.heap.size W W2 := by rw [hW2]; exact ((Below.refl W.heap.size W).alloc (Nat.le_refl _) _).alloc (by simp) _
  have HZ2 : Hid (Blk W2 W.heap.size [.int .i64 0, .string ⟨#[]⟩, .string ⟨#[]⟩, .slice none 0 0] 35) := by rw [hW2]; exact Lib.hid ((Blk.new W _ _).alloc _)
  have hK2 : Blk W2 (W.heap.size + 1) [.int .i64 2, .int .i64 4] 3 := by
    rw [hW2]
    have := Blk.new (W.alloc (.cells #[.int .i64 0, .string ⟨#[]⟩, .string ⟨#[]⟩, .slice none 0 0] 35)) [.int .i64 2, .int .i64 4] 3
    rw [World.size_alloc] at this
    exact this
  have hA : IntsAway W2 (onG g) (some ⟨W.heap.size + 1, 0, none⟩) [2, 4] := .inr ⟨_, 0, rfl, hK2.lt, fun e => by have e : W.heap.size + 1 = g := e; omega, fun j hj => by
    have := hK2.cell (i := 0 + j) (by simpa using hj)
    rw [this]
    match j, hj with
    | 0, _ => rfl
    | 1, _ => rfl⟩
  have HO := Lib.hid (operations_any 96 enter_term (h.below hb2) (term_lv (subD_lv d)) (fun w j hP => pterm_any hP hd) [2, 4].length (ks := [2, 4]) (by intro k hk; simp at hk; omega) (by decide) hA)
  have HS2 := Lib.hid (Spared.of_below hb2 (onG g))
  have HW2 := Lib.hid hW2
  obtain ⟨R, hR⟩ : ∃ R, R = opsK [2, 4] (termK (subD d)) (toks s.data.toList i) := ⟨_, rfl⟩
  rw [← hR] at HO ⊢
  clear h hd hW2 hb2 hK2 hA hR
  go_enter Try.func88, Try.ntmps88
  go_wp2_with fail
  rw [← HW2.out]
  go_at_call 95
  refine HO.out.mono ?_
  rintro r w3 hpo
  rcases hpo.split with ⟨e, ts, _, hr3, rfl, ⟨cs, rfl, hE3, hh3⟩, i3, e3, l3, hp3, hs3⟩ | ⟨d', hr3, rfl, hs3⟩
  · obtain ⟨p1, p2, p3, pA, pm, pc, rfl⟩ := hE3.shape
    have hz3 := hs3.blk HZ2.out (fun e => hgn e.symm)
    have v0 := hz3.cell (i := 0) (by simp)
    have v1 := hz3.cell (i := 1) (by simp)
    have v2 := hz3.cell (i := 2) (by simp)
    have v3 := hz3.cell (i := 3) (by simp)
    simp only [List.getElem_cons_succ, List.getElem_cons_zero] at v0 v1 v2 v3
    have f0 := hz3.free 0
    have f1 := hz3.free 1
    have f2 := hz3.free 2
    have f3 := hz3.free 3
    have hz2 := HZ2.out.lt
    have HR3 := Lib.hid hr3
    have HE3' := Lib.hid e3
    have HL3 := Lib.hid l3
    have HP3 := Lib.hid hp3
    have HS3 := Lib.hid (sp_trans HS2.out hs3)
    have HH3 := Lib.hid hh3
    have HX3 : Hid (ExAt w3 (fun x => x = g ∨ x < W.heap.size ∨ x = W.heap.size) e [.int .i64 p1, strV p2, strV p3, .slice pA pm pc]) := Lib.hid (ExAt.moved (Spared.refl w3 _) (fun i hi => .inl (hi.elim .inl (fun h => .inr (by omega)))) _ _ hE3)
    clear hr3 e3 l3 hp3 hs3 hh3 hE3 hz3 hz2 hpo
    go_wp2_with fail
    refine bodyPost_ret (v := .agg #[.int .i64 p1, strV p2, strV p3, .slice pA pm pc]) (by simp [results, Try.results88, go_sem, v0, v1, v2, v3]) rfl ?_
    exact POut.ex4 hg (Nat.le_refl _) (by rw [HR3.out, HE3'.out]) HL3.out HP3.out HS3.out HX3.out HH3.out _ _ _ _
  · have HR3 := Lib.hid hr3
    clear hr3
    go_wp2_with fail
    exact ⟨rfl, POut.no_ HR3.out (sp_trans HS2.out hs3)⟩
theorem pexpr_all {g : Nat} {s : ByteArray} : ∀ (d op : Nat), d + op = 12 → ∀ (W : World) (i : Nat), PAt W g s i op →
    Calls Try.prog 88 #[.pointer (some ⟨g, 0, none⟩)] W (POut (exV W g) W g s i op (exprD d (toks s.data.toList i)))
  | 0, op, hd, _, _, h => pexpr_any h ⟨hd, fun f hf => by cases hf⟩
  | d + 1, op, hd, _, _, h => pexpr_any h ⟨hd, fun f hf W j hP => by
      injection hf with hf
      subst hf
      exact pexpr_all d (op + 1) (by omega) W j hP⟩
end Go.Proofs.Ytpiaiibobjlipaa
namespace Go.Proofs.Ytpiaiibobjlipaa
open Go.RowKit
def rfC (x : Rf) : List Value := [strV x.1, strV x.2]
theorem rowRef : ∃ i z, RowT Try.prog 46 78 2 32 i z := by
  have hf : (Try.prog.info? 78).map (fun i => (i.zero, i.size, i.bytes)) = some (some (.agg #[.string ⟨#[]⟩, .string ⟨#[]⟩]), 2, 32) := by kernel_rfl
  obtain ⟨i, hi, hz, hs, hb⟩ := info_parts hf
  exact ⟨i, _, Try.underlying46, hi, hz, hs, hb, rfl⟩
theorem rf_one (x : Rf) : ∀ u ∈ rfC x, u.oneCell' = true := by
  intro u hu
  simp only [rfC, List.mem_cons, List.not_mem_nil, or_false] at hu
  rcases hu with rfl | rfl <;> rfl
end Go.Proofs.Ytpiaiibobjlipaa
namespace Go.Proofs.Ytpiaiibobjlipaa
open Go.RowKit
theorem step_append_struct {P : Program} (w : World) {ops : Array Oper} {o : Oper} {a : Act} {K : Act → World → Prop} {Q : Exit → Act → World → Prop} {E : Prop} (hgd : o.guard = none) (s x : Operand) (t : TypeId)
    (ho : o.op = .call { callee := .builtin .append, args := #[s, x], argTypes := #[t, t] })
    {e : TypeId} {k b : Nat} {i : TypeInfo} {z : Value} (R : RowT P t e k b i z) (hk : 0 < k) (hb64 : b ≤ 128)
    (base : Nat) (A : Option Addr) (n c : Nat) (xs : List Value) (L : List Value) (hL : L.length = k) (hs : a.eval s = .slice A n c) (hx : a.eval x = .slice (some ⟨w.heap.size, 0, none⟩) 1 1)
    (hbase : base ≤ w.heap.size) (h : w.ownsRow base e k (.slice A n c) n xs) (hone : ∀ u ∈ L, u.oneCell' = true) (hn : n ≤ 1000000)
    (K0 : ∀ A' c' w', w'.ownsRow base e k (.slice A' (n + 1) c') (n + 1) (xs ++ L) → (w.alloc (.cells L.toArray e)).grownBy w' (Value.slice A n c).ownBlock → K (a.put o.dst (.slice A' (n + 1) c')) w') :
    if Region.wanted o (yielded ops a.tmps) = true then Oper.wp P o a (w.alloc (.cells L.toArray e)) K Q else E := by
  have hw : Region.wanted o (yielded ops a.tmps) = true := by simp [Region.wanted, hgd]
  rw [if_pos hw]
  have hlist : (w.alloc (.cells L.toArray e)).ownsRow base e k (.slice A n c) n xs := h.alloc _
  obtain ⟨v', w', hr, h2, h3, _, _⟩ := run_append_own_at (P := P) (w.alloc (.cells L.toArray e)) base t o.type e i z k b R.ht R.hi R.hz R.hs R.hb R.zs hk _ n xs hlist ⟨w.heap.size, 0, none⟩ 1 1 L (by rw [hL, Nat.one_mul]) (cells_new _ _ _) hone (by unfold maxLen; omega) (Nat.le_trans (Nat.mul_le_mul_left _ hb64) (by omega)) (by rw [World.size_alloc]; omega)
  obtain ⟨A', c', rfl⟩ := ownrow_shape h2
  unfold Oper.wp execOp
  simp only [ho, resolve, invoke, builtin, Sem.run_bind, Sem.run_pure, Result.andThen_ok, List.map_toArray, List.map_cons, List.map_nil, hs, hx, hr]
  exact K0 A' c' w' h2 h3
theorem wpList_append_at {P : Program} (w : World) {ops : Array Oper} {rest : List Oper} {o : Oper} {ac : Act} {Q : Exit → Act → World → Prop} (hgd : o.guard = none) (s x : Operand) (t : TypeId)
    (ho : o.op = .call { callee := .builtin .append, args := #[s, x], argTypes := #[t, t] })
    {e : TypeId} {k b : Nat} {i : TypeInfo} {z : Value} (R : RowT P t e k b i z) (hk : 0 < k) (hb64 : b ≤ 128)
    (base : Nat) (A : Option Addr) (n c : Nat) (xs : List Value) (L : List Value) (hL : L.length = k) (hs : ac.eval s = .slice A n c) (hx : ac.eval x = .slice (some ⟨w.heap.size, 0, none⟩) 1 1)
    (hbase : base ≤ w.heap.size) (h : w.ownsRow base e k (.slice A n c) n xs) (hone : ∀ u ∈ L, u.oneCell' = true) (hn : n ≤ 1000000)
    (K : ∀ A' c' w', w'.ownsRow base e k (.slice A' (n + 1) c') (n + 1) (xs ++ L) → Below base w w' → wpList P ops Q rest (ac.put o.dst (.slice A' (n + 1) c')) w') :
    wpList P ops Q (o :: rest) ac (w.alloc (.cells L.toArray e)) := by
  have hB : base ≤ (w.alloc (.cells L.toArray e)).heap.size := by simp; omega
  have hlist : (w.alloc (.cells L.toArray e)).ownsRow base e k (.slice A n c) n xs := h.alloc _
  refine wpList_append_own_at (w.alloc (.cells L.toArray e)) hgd s x t ho base e i z k b R.ht R.hi R.hz R.hs R.hb R.zs hk _ n _ hs hlist ⟨w.heap.size, 0, none⟩ 1 1 L hx (by rw [hL, Nat.one_mul]) (cells_new _ _ _) hone (by unfold maxLen; omega) (Nat.le_trans (Nat.mul_le_mul_left _ hb64) (by omega)) hB ?_
  intro v' w' hown hg _ hat
  obtain ⟨A', c', rfl⟩ := ownrow_shape hown
  exact K A' c' w' hown (below_grown ((Below.refl base w).alloc hbase _) hB hlist hg)
end Go.Proofs.Ytpiaiibobjlipaa
