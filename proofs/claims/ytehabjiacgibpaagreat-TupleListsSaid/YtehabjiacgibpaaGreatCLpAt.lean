/-
  The keys of a tuple: the program's Key and Back, and the document's. Conditions: the tenant is of at most 1,000,000 bytes, no text of the tuple of more than 2^63-1.
  Six texts in a block: how they lie, and what leaves them. No program is named.
  The document's atom, in the reader: what stands in brackets is told by a contract of expr, one bracket deeper.
-/
import Derived.Test.YtehabjiacgibpaaGreatCRefTexts
import Derived.Test.YtehabjiacgibpaaGreatCTpO
import Derived.Test.YtehabjiacgibpaaGreatCNmShow
import Derived.Test.YtehabjiacgibpaaGreatCTuE
import Derived.Test.YtehabjiacgibpaaGreatCFlat
import Derived.Test.YtehabjiacgibpaaGreatCRuF0
namespace Go.Proofs.YtehabjiacgibpaaGreat
open Go.RowKit
def BytesP (W : World) (L : List UInt8) (e : Ending) (w' : World) : Prop := ∃ (A : Option Addr) (n c : Nat), e = .returned (.slice A n c) ∧ L.length = n ∧ Seen w' A L ∧ Below W.heap.size W w'
theorem seen_row (w : World) (ts : List Txt) (h : ∀ x ∈ ts, x.length ≤ 140737488351232) : SeenT (w.alloc (.cells (ts.map strV).toArray 9)) (some ⟨w.heap.size, 0, none⟩) ts := by
  refine .inr ⟨w.heap.size, 0, rfl, by simp, fun j hj => ⟨?_, h _ (List.getElem_mem hj)⟩⟩
  have := (Blk.new w (ts.map strV) 9).cell (i := j) (by simpa using hj)
  rw [Nat.zero_add, this, List.getElem_map]
set_option maxRecDepth 100000 in
set_option maxHeartbeats 2000000 in
theorem key_any (tn : Txt) (t : Tup) (W : World) (htn : tn.length ≤ 1000000) (ht : ∀ x ∈ six t, x.length ≤ 9223372036854775807) :
    Calls Tryz.prog 19 #[strV tn, .agg ((six t).map strV).toArray] W (BytesP W (keyT tn t)) := by
  unfold BytesP
  obtain ⟨L, hL⟩ : ∃ L, L = keyT tn t := ⟨_, rfl⟩
  rw [← hL]
  unfold keyT at hL
  obtain ⟨a, b, r, d, f, g⟩ := t
  show Calls _ _ #[strV tn, .agg #[strV a, strV b, strV r, strV d, strV f, strV g]] _ _
  obtain ⟨W1, hW⟩ : ∃ W1, W1 = W.alloc (.cells #[strV a, strV b, strV r, strV d, strV f, strV g] 34) := ⟨_, rfl⟩
  have hKT : Blk W1 W.heap.size [strV a, strV b, strV r, strV d, strV f, strV g] 34 := by rw [hW]; exact Blk.new W _ _
  have hB0 : Below W.heap.size W W1 := by rw [hW]; exact (Below.refl _ _).alloc (Nat.le_refl _) _
  have HX : Hid (∀ w, Below W1.heap.size W1 w → w.cell? ⟨W.heap.size, 0, none⟩ = some (strV a) ∧ w.cell? ⟨W.heap.size, 1, none⟩ = some (strV b) ∧ w.cell? ⟨W.heap.size, 2, none⟩ = some (strV r) ∧ w.cell? ⟨W.heap.size, 3, none⟩ = some (strV d) ∧ w.cell? ⟨W.heap.size, 4, none⟩ = some (strV f) ∧ w.cell? ⟨W.heap.size, 5, none⟩ = some (strV g)) := Lib.hid (fun w hw => by
    have h2 := hKT.below hw hKT.lt
    exact ⟨h2.cell (i := 0) (by simp), h2.cell (i := 1) (by simp), h2.cell (i := 2) (by simp), h2.cell (i := 3) (by simp), h2.cell (i := 4) (by simp), h2.cell (i := 5) (by simp)⟩)
  have HI : Hid (Calls Tryz.prog 35 #[.agg #[strV a, strV b, strV r, strV d, strV f, strV g]] W1 fun e w' => e = .returned (.bool (decide (showT (a, b, r, d, f, g) ≠ []))) ∧ Below W1.heap.size W1 w') := Lib.hid (isTuple_any _ W1 ht)
  have HB0 := Lib.hid hB0
  have HW := Lib.hid hW
  clear hKT hB0 hW ht
  by_cases h0 : showT (a, b, r, d, f, g) = []
  · have HL2 : Hid (L = []) := Lib.hid (by rw [hL, if_pos h0])
    rw [decide_eq_false (fun h => h h0)] at HI
    clear hL h0
    go_enter Tryz.func19, Tryz.ntmps19
    go_wp2_with (go_at_call 35; rw [← HW.out]; refine HI.out.mono ?_; rintro e w2 ⟨rfl, hb2⟩; have HB2 := Lib.hid hb2; clear hb2)
    go_ret
    exact ⟨none, 0, 0, rfl, by rw [HL2.out]; rfl, by rw [HL2.out]; exact Seen.nil _ _, HB0.out.trans (HB2.out.mono HB0.out.size)⟩
  obtain ⟨hk1, hk2⟩ := key_len (k := 102) (ts := [a, b, r, d, f, g]) htn rfl (fun x hx => show_len h0 x hx)
  have HL2 : Hid (L = encL ([102] :: tn :: [a, b, r, d, f, g])) := Lib.hid (by rw [hL, if_neg h0]; rfl)
  have HC : Hid (∀ w2 : World, Calls Tryz.prog 40 #[.slice (some ⟨w2.heap.size, 0, none⟩) 8 8] (w2.alloc (.cells #[strV [102], strV tn, strV a, strV b, strV r, strV d, strV f, strV g] 9)) fun e w' => ∃ A' n' c', e = .returned (.slice A' n' c') ∧ L.length = n' ∧ Seen w' A' L ∧ Below (w2.alloc (.cells #[strV [102], strV tn, strV a, strV b, strV r, strV d, strV f, strV g] 9)).heap.size (w2.alloc (.cells #[strV [102], strV tn, strV a, strV b, strV r, strV d, strV f, strV g] 9)) w') := Lib.hid (fun w2 => by
    have h := texts_any (some ⟨w2.heap.size, 0, none⟩) ([102] :: tn :: [a, b, r, d, f, g]) 8 (w2.alloc (.cells #[strV [102], strV tn, strV a, strV b, strV r, strV d, strV f, strV g] 9)) (seen_row w2 _ hk2) (by simp) hk1
    rw [← HL2.out] at h
    refine h.mono ?_
    rintro e w3 ⟨A3, n3, c3, h1, h2, h3, _, h5⟩
    exact ⟨A3, n3, c3, h1, h2, h3, h5⟩)
  rw [decide_eq_true h0] at HI
  clear HL2 hL h0 hk1 hk2
  go_enter Tryz.func19, Tryz.ntmps19
  go_wp2_with (first
    | (go_at_call 35; rw [← HW.out]; refine HI.out.mono ?_; rintro e w2 ⟨rfl, hb2⟩; have HB2 := Lib.hid hb2; clear hb2; obtain ⟨y0, y1, y2, y3, y4, y5⟩ := HX.out w2 HB2.out)
    | (go_at_call 40; refine (HC.out _).mono ?_; rintro e w3 ⟨A3, n3, c3, rfl, hn3, hs3, hb3⟩; have HN3 := Lib.hid hn3; have HS3 := Lib.hid hs3; have HB3 := Lib.hid (hop (HB2.out.alloc HB2.out.size _) hb3); clear hb3 hn3 hs3))
  go_ret
  exact ⟨A3, n3, c3, rfl, HN3.out, HS3.out, HB0.out.trans (HB3.out.mono HB0.out.size)⟩
end Go.Proofs.YtehabjiacgibpaaGreat
namespace Go.Proofs.YtehabjiacgibpaaGreat
open Go.RowKit
theorem six_of (t : Tup) : ∃ q0 q1 q2 q3 q4 q5, ((six t).map strV).toArray = #[strV q0, strV q1, strV q2, strV q3, strV q4, strV q5] ∧ t = (q0, q1, q2, q3, q4, q5) := by
  obtain ⟨a, b, c, d, e, f⟩ := t
  exact ⟨a, b, c, d, e, f, rfl, rfl⟩
theorem zeros_at (w : World) (g : Nat) (t : TypeId) (h : Blk w g [.string ⟨#[]⟩, .string ⟨#[]⟩, .string ⟨#[]⟩, .string ⟨#[]⟩, .string ⟨#[]⟩, .string ⟨#[]⟩] t) : (w.cell? ⟨g, 0, none⟩ = some (.string ⟨#[]⟩) ∧ w.cell? ⟨g, 1, none⟩ = some (.string ⟨#[]⟩) ∧ w.cell? ⟨g, 2, none⟩ = some (.string ⟨#[]⟩) ∧ w.cell? ⟨g, 3, none⟩ = some (.string ⟨#[]⟩) ∧ w.cell? ⟨g, 4, none⟩ = some (.string ⟨#[]⟩) ∧ w.cell? ⟨g, 5, none⟩ = some (.string ⟨#[]⟩)) ∧
    w.frozen? ⟨g, 0, none⟩ = false ∧ w.frozen? ⟨g, 1, none⟩ = false ∧ w.frozen? ⟨g, 2, none⟩ = false ∧ w.frozen? ⟨g, 3, none⟩ = false ∧ w.frozen? ⟨g, 4, none⟩ = false ∧ w.frozen? ⟨g, 5, none⟩ = false :=
  ⟨⟨h.cell (i := 0) (by simp), h.cell (i := 1) (by simp), h.cell (i := 2) (by simp), h.cell (i := 3) (by simp), h.cell (i := 4) (by simp), h.cell (i := 5) (by simp)⟩, h.free 0, h.free 1, h.free 2, h.free 3, h.free 4, h.free 5⟩
end Go.Proofs.YtehabjiacgibpaaGreat
namespace Go.Proofs.YtehabjiacgibpaaGreat
open Go.RowKit
theorem Goes.skip {α : Type} {X R : List Tk → Rs α} {L : List Tk} {k k' : Nat} {d d' : Dg} {a : α} {s : Txt} (hk : k < L.length) (h : ¬ (d.2.2 = 0 ∧ L[k].1 = s)) (hr : Goes R L k d a k' d') :
    Goes (fun ts => if (nx ts).1 = s then X ts else R ts) L k d a k' d' := by
  obtain ⟨l, e, m, n⟩ := hr
  refine ⟨fun hd => ?_, e, m, n⟩
  have h1 : ¬ L[k].1 = s := fun hs => h ⟨hd, hs⟩
  simp only [nx_drop hk, h1, if_false]
  exact l hd
def SubIs (sub : Option (List Tk → Rs Ex)) (g : Nat) (Q : Option Addr × Nat) (L : List Tk) (op : Nat) : Prop :=
  match sub with
  | none => op = 12
  | some f => op < 12 ∧ ∀ (W : World) (k : Nat) (d : Dg), Rd W g Q L k (op + 1) d → k < L.length → Calls Tryz.prog 55 #[.pointer (some ⟨g, 0, none⟩)] W (ExOut 1 f (Old g W) W g Q L k (op + 1) d)
set_option maxHeartbeats 1000000 in
theorem atom_goes {sub : Option (List Tk → Rs Ex)} {W : World} {g : Nat} {Q : Option Addr × Nat} {L : List Tk} {k op : Nat} {d : Dg} (he : Ends L) (hsub : SubIs sub g Q L op) (h : Rd W g Q L k op d) (hk : k < L.length) :
    Calls Tryz.prog 105 #[.pointer (some ⟨g, 0, none⟩)] W (ExOut 1 (atomK sub) (Old g W) W g Q L k op d) := by
  have hop : op ≤ 12 := by
    cases sub with
    | none => exact Nat.le_of_eq hsub
    | some f => exact Nat.le_of_lt hsub.1
  have HSUB := Lib.hid hsub
  have HR1 := Lib.hid (h.below ((Below.refl W.heap.size W).alloc (Nat.le_refl _) (.cells #[.int .i64 0, .string ⟨#[]⟩, .string ⟨#[]⟩, .slice none 0 0] 69)))
  have HS1 := Lib.hid (Spared.of_below ((Below.refl W.heap.size W).alloc (Nat.le_refl _) (.cells #[.int .i64 0, .string ⟨#[]⟩, .string ⟨#[]⟩, .slice none 0 0] 69)) (onG g))
  have HZ1 := Lib.hid (Blk.new W [.int .i64 0, .string ⟨#[]⟩, .string ⟨#[]⟩, .slice none 0 0] 69)
  have hgn : g ≠ W.heap.size := Nat.ne_of_lt h.lt
  have HR0 := Lib.hid h
  have HNX := Lib.hid (next_any HR1.out hk)
  obtain ⟨T, hT⟩ : ∃ T, T = L[k] := ⟨_, rfl⟩
  rw [← hT] at HNX
  obtain ⟨t1, t2, t3⟩ := T
  dsimp only at HNX
  have HTK := Lib.hid hT
  clear h hsub hT
  go_enter Tryz.func105, Tryz.ntmps105
  go_wp2_with fail
  go_at_call 33
  with_reducible refine HNX.out.mono ?_
  rintro r w2 ⟨rfl, hb2⟩
  have HB3 := Lib.hid ((Below.refl w2.heap.size w2).alloc (Nat.le_refl _) (.cells #[strV t1, .int .i64 (t2 : Int), .int .i64 (t3 : Int)] 75))
  have HR2 := HR1.out.below hb2
  have HR3 := Lib.hid (HR2.below HB3.out)
  have HS3 := Lib.hid (sp_trans (sp_trans HS1.out (Spared.of_below hb2 _)) (Spared.of_below HB3.out (onG g)))
  have HZ3 := Lib.hid ((HZ1.out.below hb2 HZ1.out.lt).alloc (.cells #[strV t1, .int .i64 (t2 : Int), .int .i64 (t3 : Int)] 75))
  have HT3 := Lib.hid (Blk.new w2 [strV t1, .int .i64 (t2 : Int), .int .i64 (t3 : Int)] 75)
  have hgt : g ≠ w2.heap.size := Nat.ne_of_lt HR2.lt
  have HN2 : Hid (W.heap.size < w2.heap.size) := Lib.hid (HZ1.out.below hb2 HZ1.out.lt).lt
  have HI := Lib.hid (is_any HR3.out hk [40])
  clear hb2 HB3 HR2 HR1 HS1 HZ1 HNX
  by_cases hq : d.2.2 = 0 ∧ L[k].1 = [40]
  · rw [if_pos hq, decide_eq_true hq] at HI
    have HQ := Lib.hid hq
    have hk1 : k + 1 < L.length := he.more hk (by rw [hq.2]; decide) (by rw [hq.2]; decide)
    clear hq
    go_wp2_with fail
    go_at_call 30
    with_reducible refine HI.out.mono ?_
    rintro r w4 ⟨rfl, hr4, hs4⟩
    have HR4 := Lib.hid hr4
    have x2 := hr4.1.cell (i := 2) (by simp)
    simp only [List.getElem_cons_succ, List.getElem_cons_zero] at x2
    have f2 := hr4.1.free 2
    have HS5 := Lib.hid ((sp_trans HS3.out hs4).setCell (g := g) rfl 2 (.int .i64 ((op + 1 : Nat) : Int)))
    have HR5 := Lib.hid (hr4.set_open (op + 1))
    have hZ4 := hs4.blk HZ3.out (fun e => hgn e.symm)
    have HZ5 := Lib.hid (hZ4.other ⟨g, 2, none⟩ (.int .i64 ((op + 1 : Nat) : Int)) (fun e => hgn e.symm))
    have hT4 := hs4.blk HT3.out (fun e => hgt e.symm)
    have HT5 := Lib.hid (hT4.other ⟨g, 2, none⟩ (.int .i64 ((op + 1 : Nat) : Int)) (fun e => hgt e.symm))
    clear hr4 hs4 hZ4 hT4 HZ3 HT3 HS3 HR3 HI HR4
    rw [show ((op + 1 : Nat) : Int) = (op : Int) + 1 by omega] at HS5 HR5 HZ5 HT5
    rcases sub with _ | f
    · have HOP : Hid (op = 12) := Lib.hid HSUB.out
      have hx : decide ((12 : Int) < (op : Int) + 1) = true := by rw [HOP.out]; rfl
      have HF : Hid (∀ w5, Rd w5 g Q L (k + 1) (op + 1) d → Calls Tryz.prog 34 #[.pointer (some ⟨g, 0, none⟩), .agg #[strV t1, .int .i64 (t2 : Int), .int .i64 (t3 : Int)], .int .i64 9] w5 fun r w' => r = .returned (.tuple #[]) ∧ Rd w' g Q L (k + 1) (op + 1) (failT (t1, t2, t3) 9) ∧ Spared w5 w' (onG g)) := Lib.hid (fun w7 h7 => (fail_any h7 hk1 (t1, t2, t3) 9).mono fun r w' q => by rwa [if_pos HQ.out.1] at q)
      have hT5 := HT5.out
      have u0 := hT5.cell (i := 0) (by simp)
      have u1 := hT5.cell (i := 1) (by simp)
      have u2 := hT5.cell (i := 2) (by simp)
      simp only [List.getElem_cons_succ, List.getElem_cons_zero] at u0 u1 u2
      clear hT5
      go_wp2_with fail
      go_at_call 34
      with_reducible refine (HF.out _ HR5.out).mono ?_
      rintro r w6 ⟨rfl, hr6, hs6⟩
      have HR6 := Lib.hid hr6
      have HS6 := Lib.hid (sp_trans HS5.out hs6)
      have HZ6 := Lib.hid (hs6.blk HZ5.out (fun e => hgn e.symm))
      clear hr6 hs6 HZ5 HT5 HS5 HR5
      have hZ6 := HZ6.out
      have v0 := hZ6.cell (i := 0) (by simp)
      have v1 := hZ6.cell (i := 1) (by simp)
      have v2 := hZ6.cell (i := 2) (by simp)
      have v3 := hZ6.cell (i := 3) (by simp)
      simp only [List.getElem_cons_succ, List.getElem_cons_zero] at v0 v1 v2 v3
      have f0 := hZ6.free 0
      have f1 := hZ6.free 1
      have f2 := hZ6.free 2
      have f3 := hZ6.free 3
      clear hZ6
      go_wp2_with fail
      refine bodyPost_ret (v := .agg #[.int .i64 0, .string ⟨#[]⟩, .string ⟨#[]⟩, .slice none 0 0]) (by simp [results, Tryz.results105, go_sem, v0, v1, v2, v3]) rfl ?_
      unfold ExOut
      refine ⟨.mk 0 [] [] [], _, k + 1, op + 1, failT (t1, t2, t3) 9, rfl, ExAt.of_row (n := []) (o := []) ⟨⟨by decide, by decide⟩, Nat.zero_le _, Nat.zero_le _, Nat.zero_le _⟩ (.inl rfl), ⟨fun h => absurd h (fail9 _), Nat.le_succ _, Nat.le_refl _⟩, ?_, HR0.out.setNew (HR0.out.setNew (HR0.out.setNew (HR0.out.setNew HR6.out (Nat.le_refl _) 0 _) (Nat.le_refl _) 1 _) (Nat.le_refl _) 2 _) (Nat.le_refl _) 3 _, (((HS6.out.setNew (Nat.le_refl _) 0 _).setNew (Nat.le_refl _) 1 _).setNew (Nat.le_refl _) 2 _).setNew (Nat.le_refl _) 3 _⟩
      refine ⟨fun _ => .inr ⟨?_, fail9 _⟩, fun h => absurd HQ.out.1 h, by omega, hk1⟩
      unfold atomK
      rw [nx_drop hk, if_pos HQ.out.2, HTK.out]
    · have hopl : op < 12 := HSUB.out.1
      have HSB := Lib.hid HSUB.out.2
      have hx : decide ((12 : Int) < (op : Int) + 1) = false := decide_eq_false (by omega)
      clear HT5 hop
      go_wp2_with fail
      go_at_call 55
      with_reducible refine (HSB.out _ _ _ HR5.out hk1).mono ?_
      rintro r w6 ⟨e, cs, k6, op6, d6, rfl, he6, ⟨ht6, ho1, ho2⟩, hg6, hr6, hs6⟩
      obtain ⟨q1, q2, q3, qA, qm, qc, rfl⟩ := he6.shape
      have HB7 := Lib.hid ((Below.refl w6.heap.size w6).alloc (Nat.le_refl _) (.cells #[.int .i64 q1, strV q2, strV q3, .slice qA qm qc] 69))
      have HR7 := Lib.hid (hr6.below HB7.out)
      have hwn := HZ5.out.lt
      have he6' : ExAt w6 (fun b => b = g ∨ b ≤ W.heap.size) e _ := ExAt.moved (Spared.refl w6 _) (fun i hi => .inl (hi.elim .inl (fun h => .inr (by omega)))) _ _ he6
      have HE7 := Lib.hid (he6'.below HB7.out)
      clear hwn he6'
      have HG6 := Lib.hid hg6
      have HT6 := Lib.hid ht6
      have HS7 := Lib.hid (sp_trans (sp_trans HS5.out hs6) (Spared.of_below HB7.out (onG g)))
      have hZ6 := hs6.blk HZ5.out (fun e => hgn e.symm)
      have HZ7 := Lib.hid (hZ6.alloc (.cells #[.int .i64 q1, strV q2, strV q3, .slice qA qm qc] 69))
      have HX7 := Lib.hid (Blk.new w6 [.int .i64 q1, strV q2, strV q3, .slice qA qm qc] 69)
      have hge : g ≠ w6.heap.size := Nat.ne_of_lt hr6.lt
      have HN6 : Hid (W.heap.size < w6.heap.size) := Lib.hid hZ6.lt
      have hk6 : k6 < L.length := hg6.2.2.2
      have HMU := Lib.hid (must_any' he HR7.out hk6 [41] ⟨by decide, by decide⟩)
      clear he6 hr6 hs6 hZ6 hg6 ht6 HS5 HR5 HZ5
      go_wp2_with fail
      go_at_call 53
      with_reducible refine HMU.out.mono ?_
      rintro r w8 ⟨k8, d8, rfl, hg8, hr8, hs8⟩
      have HG8 := Lib.hid hg8
      have x8 := hr8.1.cell (i := 2) (by simp)
      simp only [List.getElem_cons_succ, List.getElem_cons_zero] at x8
      have f8 := hr8.1.free 2
      have HW8 := Lib.hid hr8
      have HS8 := Lib.hid (sp_trans HS7.out hs8)
      have HE8 := Lib.hid (ExAt.moved (hs8.mono (fun _ h => .inl h)) (fun _ h => .inl h) _ _ HE7.out)
      have HR9 := Lib.hid (hr8.set_open (op6 - 1))
      have HS9 := Lib.hid (HS8.out.setCell (g := g) rfl 2 (.int .i64 ((op6 - 1 : Nat) : Int)))
      have hZ8 := hs8.blk HZ7.out (fun e => hgn e.symm)
      have hX8 := hs8.blk HX7.out (fun e => hge e.symm)
      have HZ9 := Lib.hid (hZ8.other ⟨g, 2, none⟩ (.int .i64 ((op6 - 1 : Nat) : Int)) (fun e => hgn e.symm))
      have HX9 := Lib.hid (hX8.other ⟨g, 2, none⟩ (.int .i64 ((op6 - 1 : Nat) : Int)) (fun e => hge e.symm))
      have HE9 := Lib.hid (ExAt.moved ((Spared.refl w8 (fun b => b = g ∨ b ≤ W.heap.size)).setCell (g := g) (.inl rfl) 2 (.int .i64 ((op6 - 1 : Nat) : Int))) (fun _ h => .inl h) _ _ HE8.out)
      rw [show ((op6 - 1 : Nat) : Int) = (op6 : Int) - 1 by omega] at HR9 HS9 HZ9 HX9 HE9
      have hZ9 := HZ9.out
      have v0 := hZ9.cell (i := 0) (by simp)
      have v1 := hZ9.cell (i := 1) (by simp)
      have v2 := hZ9.cell (i := 2) (by simp)
      have v3 := hZ9.cell (i := 3) (by simp)
      simp only [List.getElem_cons_succ, List.getElem_cons_zero] at v0 v1 v2 v3
      have f0 := hZ9.free 0
      have f1 := hZ9.free 1
      have f2 := hZ9.free 2
      have f3 := hZ9.free 3
      clear hZ9
      have hX9 := HX9.out
      have z0 := hX9.cell (i := 0) (by simp)
      have z1 := hX9.cell (i := 1) (by simp)
      have z2 := hX9.cell (i := 2) (by simp)
      have z3 := hX9.cell (i := 3) (by simp)
      simp only [List.getElem_cons_succ, List.getElem_cons_zero] at z0 z1 z2 z3
      clear hX9 hZ8 hX8 hr8 hs8 hg8 HE7 HS7 HZ7 HX7 HR7
      go_wp2_with fail
      refine bodyPost_ret (v := .agg #[.int .i64 q1, strV q2, strV q3, .slice qA qm qc]) (by simp [results, Tryz.results105, go_sem, v0, v1, v2, v3]) rfl ?_
      unfold ExOut
      refine ⟨e, _, k8, op6 - 1, d8, rfl, ExAt.moved (((((Spared.refl _ (fun b => b = g ∨ b ≤ W.heap.size)).setCell (g := W.heap.size) (.inr (Nat.le_refl _)) 0 _).setCell (g := W.heap.size) (.inr (Nat.le_refl _)) 1 _).setCell (g := W.heap.size) (.inr (Nat.le_refl _)) 2 _).setCell (g := W.heap.size) (.inr (Nat.le_refl _)) 3 _) (fun i hi => .inl (hi.elim .inl (fun h => .inr (Nat.le_of_lt h)))) _ _ HE9.out, ⟨fun h => ?_, by omega, by omega⟩, ?_, HR0.out.setNew (HR0.out.setNew (HR0.out.setNew (HR0.out.setNew HR9.out (Nat.le_refl _) 0 _) (Nat.le_refl _) 1 _) (Nat.le_refl _) 2 _) (Nat.le_refl _) 3 _, (((HS9.out.setNew (Nat.le_refl _) 0 _).setNew (Nat.le_refl _) 1 _).setNew (Nat.le_refl _) 2 _).setNew (Nat.le_refl _) 3 _⟩
      · have h6 : d6.2.2 = 0 := Classical.byContradiction (fun h' => h' (by rw [← HG8.out.2.1 h']; exact h))
        obtain ⟨a1, a2⟩ := HT6.out h6
        exact ⟨a1, by omega⟩
      · exact Goes.take (Q := fun ts => (f ts).then fun e r => (mustP [41] r).then fun _ r => .ok e r) hk HQ.out (Goes.then HG6.out (Goes.then HG8.out (Goes.ok e HG8.out.2.2.2)))
  · rw [if_neg hq, decide_eq_false hq] at HI
    have HQ := Lib.hid hq
    clear hq hop
    go_wp2_with fail
    go_at_call 30
    with_reducible refine HI.out.mono ?_
    rintro r w4 ⟨rfl, hr4, hs4⟩
    have HZ4 := Lib.hid (hs4.blk HZ3.out (fun e => hgn e.symm))
    have HS4 := Lib.hid (sp_trans HS3.out hs4)
    have HNM := Lib.hid (rname_goes he hr4 hk)
    clear hr4 hs4 HZ3 HT3 HS3 HR3 HI
    go_wp2_with fail
    go_at_call 31
    with_reducible refine HNM.out.mono ?_
    rintro r w5 ⟨s, k5, d5, rfl, hs1, hg5, hr5, hp5⟩
    have hk5 : k5 < L.length := hg5.2.2.2
    have HG5 := Lib.hid hg5
    have HS5 := Lib.hid (sp_trans HS4.out hp5)
    have HZ5 := Lib.hid (hp5.blk HZ4.out (fun e => hgn e.symm))
    have HI := Lib.hid (is_any hr5 hk5 [46])
    clear hg5 hp5 HS4 HZ4 HNM hr5
    by_cases hq : d5.2.2 = 0 ∧ L[k5].1 = [46]
    · rw [if_pos hq, decide_eq_true hq] at HI
      have HQ5 := Lib.hid hq
      have hk6 : k5 + 1 < L.length := he.more hk5 (by rw [hq.2]; decide) (by rw [hq.2]; decide)
      clear hq
      go_wp2_with fail
      go_at_call 30
      with_reducible refine HI.out.mono ?_
      rintro r w6 ⟨rfl, hr6, hs6⟩
      have HZ6 := Lib.hid (hs6.blk HZ5.out (fun e => hgn e.symm))
      have HS6 := Lib.hid (sp_trans HS5.out hs6)
      have HNM := Lib.hid (rname_goes he hr6 hk6)
      clear hr6 hs6 HZ5 HS5 HI
      go_wp2_with fail
      go_at_call 31
      with_reducible refine HNM.out.mono ?_
      rintro r w7 ⟨o, k7, d7, rfl, hs2, hg7, hr7, hp7⟩
      have HG7 := Lib.hid hg7
      have HR7 := Lib.hid hr7
      have HS7 := Lib.hid (sp_trans HS6.out hp7)
      have HZ7 := Lib.hid (hp7.blk HZ6.out (fun e => hgn e.symm))
      clear hg7 hr7 hp7 HS6 HZ6 HNM
      have hZ7 := HZ7.out
      have v0 := hZ7.cell (i := 0) (by simp)
      have v1 := hZ7.cell (i := 1) (by simp)
      have v2 := hZ7.cell (i := 2) (by simp)
      have v3 := hZ7.cell (i := 3) (by simp)
      simp only [List.getElem_cons_succ, List.getElem_cons_zero] at v0 v1 v2 v3
      have f0 := hZ7.free 0
      have f1 := hZ7.free 1
      have f2 := hZ7.free 2
      have f3 := hZ7.free 3
      clear hZ7
      go_wp2_with fail
      refine bodyPost_ret (v := .agg #[.int .i64 1, strV s, strV o, .slice none 0 0]) (by simp [results, Tryz.results105, go_sem, v0, v1, v2, v3]) rfl ?_
      unfold ExOut
      refine ⟨.mk 1 s o [], _, k7, op, d7, rfl, ExAt.of_row (k := 1) (n := s) (o := o) ⟨⟨by decide, by decide⟩, hs1, hs2, Nat.zero_le _⟩ (.inl rfl), ⟨fun _ => ⟨by simp [heightE, heightL], rfl⟩, Nat.le_refl _, Nat.le_succ _⟩, ?_, HR0.out.setNew (HR0.out.setNew (HR0.out.setNew (HR0.out.setNew HR7.out (Nat.le_refl _) 0 _) (Nat.le_refl _) 1 _) (Nat.le_refl _) 2 _) (Nat.le_refl _) 3 _, (((HS7.out.setNew (Nat.le_refl _) 0 _).setNew (Nat.le_refl _) 1 _).setNew (Nat.le_refl _) 2 _).setNew (Nat.le_refl _) 3 _⟩
      exact Goes.skip hk HQ.out (Goes.then HG5.out (Goes.take (Q := fun r => (nameP r).then fun o r => .ok (Ex.mk 1 s o []) r) hk5 HQ5.out (Goes.then HG7.out (Goes.ok (Ex.mk 1 s o []) HG7.out.2.2.2))))
    · rw [if_neg hq, decide_eq_false hq] at HI
      have HQ5 := Lib.hid hq
      clear hq
      go_wp2_with fail
      go_at_call 30
      with_reducible refine HI.out.mono ?_
      rintro r w6 ⟨rfl, hr6, hs6⟩
      have HR6 := Lib.hid hr6
      have HZ6 := Lib.hid (hs6.blk HZ5.out (fun e => hgn e.symm))
      have HS6 := Lib.hid (sp_trans HS5.out hs6)
      clear hr6 hs6 HZ5 HS5 HI
      have hZ6 := HZ6.out
      have v0 := hZ6.cell (i := 0) (by simp)
      have v1 := hZ6.cell (i := 1) (by simp)
      have v2 := hZ6.cell (i := 2) (by simp)
      have v3 := hZ6.cell (i := 3) (by simp)
      simp only [List.getElem_cons_succ, List.getElem_cons_zero] at v0 v1 v2 v3
      have f0 := hZ6.free 0
      have f1 := hZ6.free 1
      have f2 := hZ6.free 2
      have f3 := hZ6.free 3
      clear hZ6
      go_wp2_with fail
      refine bodyPost_ret (v := .agg #[.int .i64 0, strV s, strV [], .slice none 0 0]) (by simp [results, Tryz.results105, go_sem, v0, v1, v2, v3]) rfl ?_
      unfold ExOut
      refine ⟨.mk 0 s [] [], _, k5, op, d5, rfl, ExAt.of_row (k := 0) (n := s) (o := []) ⟨⟨by decide, by decide⟩, hs1, Nat.zero_le _, Nat.zero_le _⟩ (.inl rfl), ⟨fun _ => ⟨by simp [heightE, heightL], rfl⟩, Nat.le_refl _, Nat.le_succ _⟩, ?_, HR0.out.setNew (HR0.out.setNew (HR0.out.setNew (HR0.out.setNew HR6.out (Nat.le_refl _) 0 _) (Nat.le_refl _) 1 _) (Nat.le_refl _) 2 _) (Nat.le_refl _) 3 _, (((HS6.out.setNew (Nat.le_refl _) 0 _).setNew (Nat.le_refl _) 1 _).setNew (Nat.le_refl _) 2 _).setNew (Nat.le_refl _) 3 _⟩
      exact Goes.skip hk HQ.out (Goes.then HG5.out (Goes.skip hk5 HQ5.out (Goes.ok (Ex.mk 0 s [] []) hk5)))
end Go.Proofs.YtehabjiacgibpaaGreat
