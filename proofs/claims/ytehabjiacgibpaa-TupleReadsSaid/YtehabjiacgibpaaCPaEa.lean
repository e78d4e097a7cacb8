/-
  The document's two, in the reader.
  A row of structs of the call's own: kept where other blocks turn; and as a row that lies outside some blocks. No program is named.
  'append(l, x)' of a struct just laid, as a step of a statement whose order is drawn. No program is named.
  Rows of structs of the call's own whose cells lead to other memory: kept where other blocks turn, grown by one, and as a row that lies outside some blocks. No program is named.
  Rows of relations and of types: their cells, by number; what a parser answers. No program is named but its types.
  each over refs, relations, types: are all as they may be? By the contract of what asks it of one. Conditions: the list is there.
-/
import Derived.Test.YtehabjiacgibpaaCLpC
import Derived.Test.YtehabjiacgibpaaCRowT
import Derived.Deep.AppendLies
import Derived.Test.YtehabjiacgibpaaCRoO
import Derived.Shelf.Abstract
namespace Go.Proofs.Ytehabjiacgibpaa
open Go.RowKit
theorem ExAt.shape {W : World} {F : Nat → Prop} {e : Ex} {cs : List Value} (h : ExAt W F e cs) : ∃ k n o A m c, cs = [.int .i64 k, strV n, strV o, .slice A m c] := by
  obtain ⟨k, n, o, ks⟩ := e
  obtain ⟨A, c, rfl, _⟩ := h.row
  exact ⟨_, _, _, _, _, _, rfl⟩
theorem two_world {F : Nat → Prop} {W : World} {g : Nat} {Q : Option Addr × Nat} {L : List Tk} {k op : Nat} {d : Dg} (hF : ∀ i, F i → i < W.heap.size) (h : Rd W g Q L k op d) {K : Int} (hK : fitsI K) {a b : Ex} {k1 : Int} {n1 o1 : Txt} {A1 : Option Addr} {m1 c1 : Nat} {k2 : Int} {n2 o2 : Txt} {A2 : Option Addr} {m2 c2 : Nat} (ha : ExAt W F a [.int .i64 k1, strV n1, strV o1, .slice A1 m1 c1]) (hb : ExAt W F b [.int .i64 k2, strV n2, strV o2, .slice A2 m2 c2])
    {t1 : Txt} {t2 t3 : Nat} {R : Array Value} {W6 : World} (hW : W6 = ((((((W.alloc (.cells #[strV t1, .int .i64 (t2 : Int), .int .i64 (t3 : Int)] 91)).alloc (.cells #[.int .i64 k1, strV n1, strV o1, .slice A1 m1 c1] 56)).alloc (.cells #[.int .i64 k2, strV n2, strV o2, .slice A2 m2 c2] 56)).alloc (.cells R 56)).alloc (.cells #[.int .i64 k1, strV n1, strV o1, .slice A1 m1 c1, .int .i64 k2, strV n2, strV o2, .slice A2 m2 c2] 56)).alloc (.cells #[.int .i64 K, .string ⟨#[]⟩, .string ⟨#[]⟩, .slice (some ⟨W.heap.size + 1 + 1 + 1 + 1, 0, none⟩) 2 2] 56))) :
    Below W.heap.size W W6 ∧ Rd W6 g Q L k op d ∧ W6.heap.size = W.heap.size + 6 ∧ Blk W6 W.heap.size [strV t1, .int .i64 (t2 : Int), .int .i64 (t3 : Int)] 91 ∧ Blk W6 (W.heap.size + 1 + 1 + 1) R.toList 56 ∧
      Blk W6 (W.heap.size + 1 + 1 + 1 + 1 + 1) [.int .i64 K, .string ⟨#[]⟩, .string ⟨#[]⟩, .slice (some ⟨W.heap.size + 1 + 1 + 1 + 1, 0, none⟩) 2 2] 56 ∧ ExAt W6 (fun x => F x ∨ x = W.heap.size + 1 + 1 + 1) (.mk K [] [] [a, b]) [.int .i64 K, .string ⟨#[]⟩, .string ⟨#[]⟩, .slice (some ⟨W.heap.size + 1 + 1 + 1 + 1, 0, none⟩) 2 2] := by
  have hB6 : Below W.heap.size W W6 := by
    rw [hW]
    exact ((((((Below.refl W.heap.size W).alloc (Nat.le_refl _) _).alloc (by simp only [World.size_alloc]; omega) _).alloc (by simp only [World.size_alloc]; omega) _).alloc (by simp only [World.size_alloc]; omega) _).alloc (by simp only [World.size_alloc]; omega) _).alloc (by simp only [World.size_alloc]; omega) _
  have hr6 := h.below hB6
  have hsz : W6.heap.size = W.heap.size + 6 := by rw [hW]; simp
  have hbt : Blk W6 W.heap.size [strV t1, .int .i64 (t2 : Int), .int .i64 (t3 : Int)] 91 := by
    rw [hW]
    exact (((((Blk.new W _ _).alloc _).alloc _).alloc _).alloc _).alloc _
  have hbr : Blk W6 (W.heap.size + 1 + 1 + 1) R.toList 56 := by
    rw [hW]
    have := Blk.new (((W.alloc (.cells #[strV t1, .int .i64 (t2 : Int), .int .i64 (t3 : Int)] 91)).alloc (.cells #[.int .i64 k1, strV n1, strV o1, .slice A1 m1 c1] 56)).alloc (.cells #[.int .i64 k2, strV n2, strV o2, .slice A2 m2 c2] 56)) R.toList 56
    simp only [World.size_alloc] at this
    exact (this.alloc _).alloc _
  have hba : Blk W6 (W.heap.size + 1 + 1 + 1 + 1) [.int .i64 k1, strV n1, strV o1, .slice A1 m1 c1, .int .i64 k2, strV n2, strV o2, .slice A2 m2 c2] 56 := by
    rw [hW]
    have := Blk.new ((((W.alloc (.cells #[strV t1, .int .i64 (t2 : Int), .int .i64 (t3 : Int)] 91)).alloc (.cells #[.int .i64 k1, strV n1, strV o1, .slice A1 m1 c1] 56)).alloc (.cells #[.int .i64 k2, strV n2, strV o2, .slice A2 m2 c2] 56)).alloc (.cells R 56)) [.int .i64 k1, strV n1, strV o1, .slice A1 m1 c1, .int .i64 k2, strV n2, strV o2, .slice A2 m2 c2] 56
    simp only [World.size_alloc] at this
    exact this.alloc _
  have hbe : Blk W6 (W.heap.size + 1 + 1 + 1 + 1 + 1) [.int .i64 K, .string ⟨#[]⟩, .string ⟨#[]⟩, .slice (some ⟨W.heap.size + 1 + 1 + 1 + 1, 0, none⟩) 2 2] 56 := by
    rw [hW]
    have := Blk.new (((((W.alloc (.cells #[strV t1, .int .i64 (t2 : Int), .int .i64 (t3 : Int)] 91)).alloc (.cells #[.int .i64 k1, strV n1, strV o1, .slice A1 m1 c1] 56)).alloc (.cells #[.int .i64 k2, strV n2, strV o2, .slice A2 m2 c2] 56)).alloc (.cells R 56)).alloc (.cells #[.int .i64 k1, strV n1, strV o1, .slice A1 m1 c1, .int .i64 k2, strV n2, strV o2, .slice A2 m2 c2] 56)) [.int .i64 K, .string ⟨#[]⟩, .string ⟨#[]⟩, .slice (some ⟨W.heap.size + 1 + 1 + 1 + 1, 0, none⟩) 2 2] 56
    simp only [World.size_alloc] at this
    exact this
  have hlt := h.lt
  refine ⟨hB6, hr6, hsz, hbt, hbr, hbe, ?_⟩
  refine ExAt.of_row (n := []) (o := []) ⟨hK, Nat.zero_le _, Nat.zero_le _, by simp⟩ (.inr ⟨_, 0, rfl, by rw [hsz]; omega, by intro hc; rcases hc with hc | hc; have := hF _ hc; omega; omega, fun j hj => ?_⟩)
  have hw : ∀ {x : Ex} {cs : List Value}, ExAt W F x cs → ExAt W6 (fun x => F x ∨ x = W.heap.size + 1 + 1 + 1) x cs := fun h => ExAt.moved (Spared.of_below hB6 F) (fun i hi => by rcases hi with hi | hi; exact .inl hi; exact .inr (by omega)) _ _ h
  have hc : ∀ i, i < 8 → W6.cell? ⟨W.heap.size + 1 + 1 + 1 + 1, i, none⟩ = [.int .i64 k1, strV n1, strV o1, .slice A1 m1 c1, .int .i64 k2, strV n2, strV o2, .slice A2 m2 c2][i]? := fun i hi => by
    rw [hba.cell (by simpa using hi), List.getElem?_eq_getElem]
  match j, hj with
  | 0, _ => exact ⟨_, hw ha, fun i hi => by
      rw [show 0 + 0 * 4 + i = i by omega, hc i (by omega)]
      match i, hi with
      | 0, _ => rfl
      | 1, _ => rfl
      | 2, _ => rfl
      | 3, _ => rfl⟩
  | 1, _ => exact ⟨_, hw hb, fun i hi => by
      rw [show 0 + 1 * 4 + i = 4 + i by omega, hc _ (by omega)]
      match i, hi with
      | 0, _ => rfl
      | 1, _ => rfl
      | 2, _ => rfl
      | 3, _ => rfl⟩
abbrev Old (g : Nat) (W : World) : Nat → Prop := fun b => b = g ∨ b < W.heap.size
def ExOut (s : Nat) (P : List Tk → Rs Ex) (F : Nat → Prop) (W : World) (g : Nat) (Q : Option Addr × Nat) (L : List Tk) (k op : Nat) (d : Dg) (r : Ending) (w' : World) : Prop :=
  ∃ e cs k' op' d', r = .returned (.agg cs.toArray) ∧ ExAt w' F e cs ∧ ((d'.2.2 = 0 → heightE e ≤ 12 ∧ op' = op) ∧ op ≤ op' ∧ op' ≤ op + s) ∧ Goes P L k d e k' d' ∧ Rd w' g Q L k' op' d' ∧ Spared W w' (onG g)
set_option maxHeartbeats 1000000 in
theorem two_goes {F : Nat → Prop} {W : World} {g : Nat} {Q : Option Addr × Nat} {L : List Tk} {k op : Nat} {d : Dg} (hg : F g) (hF : ∀ i, F i → i < W.heap.size) (h : Rd W g Q L k op d) (hk : k < L.length) (K : Int) (hK : fitsI K) (t : Tk) {a b : Ex} {ca cb : List Value} (ha : ExAt W F a ca) (hb : ExAt W F b cb)
    (hm : d.2.2 = 0 → heightE a ≤ 12 ∧ heightE b ≤ 12) :
    Calls Try.prog 78 #[.pointer (some ⟨g, 0, none⟩), .int .i64 K, .agg #[strV t.1, .int .i64 (t.2.1 : Int), .int .i64 (t.2.2 : Int)], .agg ca.toArray, .agg cb.toArray] W (ExOut 0 (twoP K t a b) F W g Q L k op d) := by
  obtain ⟨k1, n1, o1, A1, m1, c1, rfl⟩ := ha.shape
  obtain ⟨k2, n2, o2, A2, m2, c2, rfl⟩ := hb.shape
  obtain ⟨t1, t2, t3⟩ := t
  dsimp only
  show Calls _ _ #[_, _, _, .agg #[.int .i64 k1, strV n1, strV o1, .slice A1 m1 c1], .agg #[.int .i64 k2, strV n2, strV o2, .slice A2 m2 c2]] _ _
  obtain ⟨W6, hW⟩ : ∃ W6, W6 = ((((((W.alloc (.cells #[strV t1, .int .i64 (t2 : Int), .int .i64 (t3 : Int)] 91)).alloc (.cells #[.int .i64 k1, strV n1, strV o1, .slice A1 m1 c1] 56)).alloc (.cells #[.int .i64 k2, strV n2, strV o2, .slice A2 m2 c2] 56)).alloc (.cells #[.int .i64 0, .string ⟨#[]⟩, .string ⟨#[]⟩, .slice none 0 0] 56)).alloc (.cells #[.int .i64 k1, strV n1, strV o1, .slice A1 m1 c1, .int .i64 k2, strV n2, strV o2, .slice A2 m2 c2] 56)).alloc (.cells #[.int .i64 K, .string ⟨#[]⟩, .string ⟨#[]⟩, .slice (some ⟨W.heap.size + 1 + 1 + 1 + 1, 0, none⟩) 2 2] 56)) := ⟨_, rfl⟩
  obtain ⟨WN, hN⟩ : ∃ WN, WN = ((((((W.alloc (.cells #[strV t1, .int .i64 (t2 : Int), .int .i64 (t3 : Int)] 91)).alloc (.cells #[.int .i64 k1, strV n1, strV o1, .slice A1 m1 c1] 56)).alloc (.cells #[.int .i64 k2, strV n2, strV o2, .slice A2 m2 c2] 56)).alloc (.cells #[.int .i64 K, .string ⟨#[]⟩, .string ⟨#[]⟩, .slice (some ⟨W.heap.size + 1 + 1 + 1 + 1, 0, none⟩) 2 2] 56)).alloc (.cells #[.int .i64 k1, strV n1, strV o1, .slice A1 m1 c1, .int .i64 k2, strV n2, strV o2, .slice A2 m2 c2] 56)).alloc (.cells #[.int .i64 K, .string ⟨#[]⟩, .string ⟨#[]⟩, .slice (some ⟨W.heap.size + 1 + 1 + 1 + 1, 0, none⟩) 2 2] 56)) := ⟨_, rfl⟩
  obtain ⟨hB6, hr6, hsz, hbt, hbr, hbe, hEW⟩ := two_world hF h hK ha hb hW
  obtain ⟨bB6, br6, bsz, bbt, bbr, bbe, bEW⟩ := two_world hF h hK ha hb hN
  have hE := ExAt.moved (G := F) (Spared.refl W6 _) (fun _ h => .inl (.inl h)) _ _ hEW
  have bE := ExAt.moved (G := F) (Spared.refl WN _) (fun _ h => .inl (.inl h)) _ _ bEW
  obtain ⟨P, hP⟩ : ∃ P, P = twoP K (t1, t2, t3) a b := ⟨_, rfl⟩
  obtain ⟨e, he⟩ : ∃ e, e = Ex.mk K [] [] [a, b] := ⟨_, rfl⟩
  have hh : d.2.2 = 0 → heightE e ≤ 13 := fun h0 => by
    obtain ⟨q1, q2⟩ := hm h0
    rw [he, heightE, heightL, heightL, heightL]
    omega
  have HP : Hid (∀ ts, P ts = if 12 < heightE e then .no (failT (t1, t2, t3) 9) else .ok e ts) := Lib.hid (fun ts => by rw [hP, he]; rfl)
  rw [← he] at hE bE hEW
  have HPE := Lib.hid hP
  have x5 := hr6.1.cell (i := 5) (by simp)
  simp only [List.getElem_cons_succ, List.getElem_cons_zero] at x5
  have HC : Hid (d.2.2 = 0 → Calls Try.prog 89 #[.agg #[.int .i64 K, .string ⟨#[]⟩, .string ⟨#[]⟩, .slice (some ⟨W.heap.size + 1 + 1 + 1 + 1, 0, none⟩) 2 2]] W6 fun e' w' => e' = .returned (.int .i64 (heightE e)) ∧ Below W6.heap.size W6 w') := Lib.hid (fun h0 => height_any e W6 _ _ hE (by have := hh h0; omega))
  have HT := Lib.hid hbt
  have HBR := Lib.hid hbr
  have HBE := Lib.hid hbe
  have HE := Lib.hid hE
  have HR6 := Lib.hid hr6
  have HR0 := Lib.hid h
  have HB6 := Lib.hid hB6
  have HW := Lib.hid hW
  have HNW := Lib.hid hN
  have HNB := Lib.hid bB6
  have HNR := Lib.hid br6
  have HNE := Lib.hid bE
  have HNX := Lib.hid bbr
  have HSZ := Lib.hid hsz
  have HHE : ∃ H, Hid (H = heightE e) := ⟨_, Lib.hid rfl⟩
  obtain ⟨H, HHE⟩ := HHE
  rw [← HHE.out] at HP HC hh
  have HH := Lib.hid hh
  rw [hW] at x5 HC
  have HME := Lib.hid hEW
  clear hEW bEW hP hbt hbr hbe hE hr6 h hB6 hW hh ha hb hm hsz hK he hN bB6 br6 bE bbr bbt bbe bsz
  by_cases h0 : d.2.2 = 0
  · have hd : ((d.2.2 : Int) == 0) = true := by rw [h0]; rfl
    have HL := HH.out h0
    have HC1 := Lib.hid (HC.out h0)
    have HD0 := Lib.hid h0
    have HGN := HR0.out.lt
    have HG3 : Hid (¬ onG g (W.heap.size + 1 + 1 + 1)) := Lib.hid (by show ¬ (_ = g); omega)
    have HG5 : Hid (¬ onG g (W.heap.size + 1 + 1 + 1 + 1 + 1)) := Lib.hid (by show ¬ (_ = g); omega)
    have HF : Hid (∀ w7, Rd w7 g Q L k op d → Calls Try.prog 46 #[.pointer (some ⟨g, 0, none⟩), .agg #[strV t1, .int .i64 (t2 : Int), .int .i64 (t3 : Int)], .int .i64 9] w7 fun r w' => r = .returned (.tuple #[]) ∧ Rd w' g Q L k op (failT (t1, t2, t3) 9) ∧ Spared w7 w' (onG g)) := Lib.hid (fun w7 h7 => (fail_any h7 hk (t1, t2, t3) 9).mono fun r w' q => by rwa [if_pos h0] at q)
    clear HGN
    rw [← HW.out] at HC1 x5
    by_cases h12 : 12 < H
    · have hx : decide ((12 : Int) < (H : Int)) = true := decide_eq_true (by omega)
      have HH12 := Lib.hid h12
      rw [HW.out] at x5
      clear h0 h12
      go_enter Try.func78, Try.ntmps78
      go_wp2_with (first
        | (go_at_call 89; rw [← HW.out]; with_reducible refine HC1.out.mono ?_; rintro r w7 ⟨rfl, hb7⟩; have HB7 := Lib.hid hb7; have HBR7 := Lib.hid (HBR.out.below hb7 HBR.out.lt); have HBE7 := Lib.hid (HBE.out.below hb7 HBE.out.lt); have hT7 := (HT.out.below hb7 HT.out.lt); have t0 := hT7.cell (i := 0) (by simp); have t1' := hT7.cell (i := 1) (by simp); have t2' := hT7.cell (i := 2) (by simp); simp only [List.getElem_cons_succ, List.getElem_cons_zero] at t0 t1' t2'; clear hT7 hb7)
        | (go_at_call 46; with_reducible refine (HF.out _ (HR6.out.below HB7.out)).mono ?_; rintro r w8 ⟨rfl, hr8, hs8⟩; have HR8 := Lib.hid hr8; have HS8 := Lib.hid hs8; have HBR8 := Lib.hid (hs8.blk HBR7.out HG3.out); have HBE8 := Lib.hid (hs8.blk HBE7.out HG5.out); clear hr8 hs8; have e0 := HBE8.out.cell (i := 0) (by simp); have e1 := HBE8.out.cell (i := 1) (by simp); have e2 := HBE8.out.cell (i := 2) (by simp); have e3 := HBE8.out.cell (i := 3) (by simp); have v0 := HBR8.out.cell (i := 0) (by simp); have v1 := HBR8.out.cell (i := 1) (by simp); have v2 := HBR8.out.cell (i := 2) (by simp); have v3 := HBR8.out.cell (i := 3) (by simp); simp only [List.getElem_cons_succ, List.getElem_cons_zero] at e0 e1 e2 e3 v0 v1 v2 v3; have f0 := HBR8.out.free 0; have f1 := HBR8.out.free 1; have f2 := HBR8.out.free 2; have f3 := HBR8.out.free 3))
      refine bodyPost_ret (v := .agg #[.int .i64 K, .string ⟨#[]⟩, .string ⟨#[]⟩, .slice (some ⟨W.heap.size + 1 + 1 + 1 + 1, 0, none⟩) 2 2]) (by simp [results, Try.results78, go_sem, v0, v1, v2, v3]) rfl ?_
      have GE : Hid (W.heap.size ≤ W.heap.size + 1 + 1 + 1) := Lib.hid (by omega)
      have S8 := sp_trans (Spared.of_below HB6.out (onG g)) (sp_trans (Spared.of_below HB7.out (onG g)) HS8.out)
      unfold ExOut
      refine ⟨e, _, k, op, failT (t1, t2, t3) 9, rfl, ?_, ⟨fun h => absurd h (fail9 _), Nat.le_refl _, Nat.le_refl _⟩, ?_, HR0.out.setNew (HR0.out.setNew (HR0.out.setNew (HR0.out.setNew HR8.out GE.out 0 _) GE.out 1 _) GE.out 2 _) GE.out 3 _, ((((S8).setNew GE.out 0 _).setNew GE.out 1 _).setNew GE.out 2 _).setNew GE.out 3 _⟩
      · exact ExAt.moved (G := F) (((((((Spared.of_below HB7.out (fun x => F x ∨ x = W.heap.size + 1 + 1 + 1)).trans (HS8.out.mono (fun _ h => .inl (h ▸ hg))) (fun _ h => .inl h))).setCell (g := W.heap.size + 1 + 1 + 1) (.inr rfl) 0 _).setCell (g := W.heap.size + 1 + 1 + 1) (.inr rfl) 1 _).setCell (g := W.heap.size + 1 + 1 + 1) (.inr rfl) 2 _).setCell (g := W.heap.size + 1 + 1 + 1) (.inr rfl) 3 _) (fun _ h => .inl (.inl h)) _ _ HME.out
      · rw [← HPE.out]
        refine Goes.fail e hk HD0.out (fail9 _) ?_
        rw [HP.out, if_pos HH12.out]
    · have hx : decide ((12 : Int) < (H : Int)) = false := decide_eq_false (by omega)
      have HH12 := Lib.hid h12
      rw [HW.out] at x5
      clear h0 h12
      go_enter Try.func78, Try.ntmps78
      go_wp2_with (first
        | (go_at_call 89; rw [← HW.out]; with_reducible refine HC1.out.mono ?_; rintro r w7 ⟨rfl, hb7⟩; have HB7 := Lib.hid hb7; have HBR7 := Lib.hid (HBR.out.below hb7 HBR.out.lt); have HBE7 := Lib.hid (HBE.out.below hb7 HBE.out.lt); have e0 := HBE7.out.cell (i := 0) (by simp); have e1 := HBE7.out.cell (i := 1) (by simp); have e2 := HBE7.out.cell (i := 2) (by simp); have e3 := HBE7.out.cell (i := 3) (by simp); have v0 := HBR7.out.cell (i := 0) (by simp); have v1 := HBR7.out.cell (i := 1) (by simp); have v2 := HBR7.out.cell (i := 2) (by simp); have v3 := HBR7.out.cell (i := 3) (by simp); simp only [List.getElem_cons_succ, List.getElem_cons_zero] at e0 e1 e2 e3 v0 v1 v2 v3; have f0 := HBR7.out.free 0; have f1 := HBR7.out.free 1; have f2 := HBR7.out.free 2; have f3 := HBR7.out.free 3; clear hb7))
      refine bodyPost_ret (v := .agg #[.int .i64 K, .string ⟨#[]⟩, .string ⟨#[]⟩, .slice (some ⟨W.heap.size + 1 + 1 + 1 + 1, 0, none⟩) 2 2]) (by simp [results, Try.results78, go_sem, v0, v1, v2, v3]) rfl ?_
      have GE : Hid (W.heap.size ≤ W.heap.size + 1 + 1 + 1) := Lib.hid (by omega)
      have S8 := sp_trans (Spared.of_below HB6.out (onG g)) (Spared.of_below HB7.out (onG g))
      unfold ExOut
      refine ⟨e, _, k, op, d, rfl, ?_, ⟨fun _ => ⟨by have := HH12.out; rw [← HHE.out]; omega, rfl⟩, Nat.le_refl _, Nat.le_refl _⟩, ?_, HR0.out.setNew (HR0.out.setNew (HR0.out.setNew (HR0.out.setNew (HR6.out.below HB7.out) GE.out 0 _) GE.out 1 _) GE.out 2 _) GE.out 3 _, ((((S8).setNew GE.out 0 _).setNew GE.out 1 _).setNew GE.out 2 _).setNew GE.out 3 _⟩
      · exact ExAt.moved (G := F) ((((((Spared.of_below HB7.out (fun x => F x ∨ x = W.heap.size + 1 + 1 + 1))).setCell (g := W.heap.size + 1 + 1 + 1) (.inr rfl) 0 _).setCell (g := W.heap.size + 1 + 1 + 1) (.inr rfl) 1 _).setCell (g := W.heap.size + 1 + 1 + 1) (.inr rfl) 2 _).setCell (g := W.heap.size + 1 + 1 + 1) (.inr rfl) 3 _) (fun _ h => .inl (.inl h)) _ _ HME.out
      · rw [← HPE.out]
        refine ⟨fun _ => .inl ⟨_, ?_, rfl, rfl⟩, fun _ => rfl, Nat.le_refl _, hk⟩
        rw [HP.out, if_neg HH12.out]
  · have hd : ((d.2.2 : Int) == 0) = false := beq_eq_false_iff_ne.2 (by omega)
    go_enter Try.func78, Try.ntmps78
    go_wp2_with fail
    rw [← HNW.out]
    have y0 := HNX.out.cell (i := 0) (by simp)
    have y1 := HNX.out.cell (i := 1) (by simp)
    have y2 := HNX.out.cell (i := 2) (by simp)
    have y3 := HNX.out.cell (i := 3) (by simp)
    simp only [List.getElem_cons_succ, List.getElem_cons_zero] at y0 y1 y2 y3
    refine bodyPost_ret (v := .agg #[.int .i64 K, .string ⟨#[]⟩, .string ⟨#[]⟩, .slice (some ⟨W.heap.size + 1 + 1 + 1 + 1, 0, none⟩) 2 2]) (by simp [results, Try.results78, go_sem, y0, y1, y2, y3]) rfl ?_
    exact ⟨e, _, k, op, d, rfl, HNE.out, ⟨fun h => absurd h h0, Nat.le_refl _, Nat.le_refl _⟩, Goes.dead h0 _ hk, HNR.out, Spared.of_below HNB.out _⟩
end Go.Proofs.Ytehabjiacgibpaa
namespace Go.Proofs.Ytehabjiacgibpaa
open Go.RowKit
theorem own_spared {w w' : World} {F : Nat → Prop} {base : Nat} {e : TypeId} {s n : Nat} {v : Value} {xs : List Value} (h : w.ownsRow base e s v n xs) (hs : Spared w w' F) (hF : ∀ i, F i → i < base) : w'.ownsRow base e s v n xs := by
  obtain ⟨h1, h2⟩ := h
  refine ⟨h1, ?_⟩
  rcases h2 with h2 | ⟨g, cap, cur, rfl, hb, hh, h3⟩
  · exact .inl h2
  · have hlt : g < w.heap.size := by
      rcases Nat.lt_or_ge g w.heap.size with hlt | hge
      · exact hlt
      · rw [Array.getElem?_eq_none hge] at hh; cases hh
    exact .inr ⟨g, cap, cur, rfl, hb, (hs.block g hlt (fun hf => by have := hF g hf; omega)).trans hh, h3⟩
theorem own_cap {w : World} {base : Nat} {e : TypeId} {s n c : Nat} {A : Option Addr} {xs : List Value} (h : w.ownsRow base e s (.slice A n c) n xs) : n ≤ c := by
  rcases h.2 with ⟨h1, h2⟩ | ⟨g, cap, cur, hv, _, _, hnc, _⟩
  · omega
  · injection hv with _ _ hc
    omega
theorem flatMap_at {α : Type} {s : Nat} (f : α → List Value) (hf : ∀ x, (f x).length = s) : ∀ (l : List α) (j : Nat) (h : j < l.length) (i : Nat), i < s → (l.flatMap f)[j * s + i]? = (f l[j])[i]?
  | x :: r, 0, _, i, hi => by
    simp only [List.flatMap_cons, Nat.zero_mul, Nat.zero_add, List.getElem_cons_zero]
    rw [List.getElem?_append_left (by rw [hf]; exact hi)]
  | x :: r, j + 1, h, i, hi => by
    simp only [List.flatMap_cons, List.getElem_cons_succ]
    rw [List.getElem?_append_right (by rw [hf, Nat.succ_mul]; omega), hf, show (j + 1) * s + i - s = j * s + i by rw [Nat.succ_mul]; omega]
    exact flatMap_at f hf r j (by simpa using h) i hi
theorem row_of_own {α : Type} {s : Nat} {R : World → (Nat → Prop) → α → List Value → Prop} {w : World} {F : Nat → Prop} {base : Nat} {e : TypeId} {A : Option Addr} {n c : Nat} {l : List α} (f : α → List Value) (hf : ∀ x, (f x).length = s) (hn : n = l.length)
    (h : w.ownsRow base e s (.slice A n c) n (l.flatMap f)) (hF : ∀ i, F i → i < base) (hR : ∀ x ∈ l, R w F x (f x)) : RowAt s R w F A l := by
  subst hn
  rcases h.2 with ⟨_, h0⟩ | ⟨g, cap, cur, hv, hb, hh, hnc, _, hsz, htake⟩
  · exact .inl (List.length_eq_zero_iff.1 h0)
  · injection hv with hA _ _
    refine .inr ⟨g, 0, hA, ?_, fun hf => by have := hF g hf; omega, fun j hj => ⟨f l[j], hR _ (List.getElem_mem hj), fun i hi => ?_⟩⟩
    · rcases Nat.lt_or_ge g w.heap.size with hlt | hge
      · exact hlt
      · rw [Array.getElem?_eq_none hge] at hh; cases hh
    · rw [Nat.zero_add, cell_of_row w g _ cur e (0, 0) hh, ← flatMap_at f hf l j hj i hi, ← htake]
      have hlt : j * s + i < l.length * s := by
        have : (j + 1) * s ≤ l.length * s := Nat.mul_le_mul_right s hj
        rw [Nat.succ_mul] at this
        omega
      rw [List.getElem?_take, if_pos hlt]
      simp
theorem Spared.keep {W w w' : World} {F : Nat → Prop} {B : Nat} (h : Spared W w F) (hb : Below B w w') (hB : W.heap.size ≤ B) : Spared W w' F :=
  ⟨hb.os.trans h.os, hb.tape.trans h.tape, hb.output.trans h.output, Nat.le_trans h.size hb.size, fun k hk hn => (hb.block k (Nat.lt_of_lt_of_le hk hB)).trans (h.block k hk hn)⟩
end Go.Proofs.Ytehabjiacgibpaa
namespace Go.Proofs.Ytehabjiacgibpaa
open Go.RowKit
theorem step_append_struct {P : Program} (w : World) {ops : Array Oper} {o : Oper} {a : Act} {K : Act → World → Prop} {Q : Exit → Act → World → Prop} {E : Prop} (hgd : o.guard = none) (s x : Operand) (t : TypeId)
    (ho : o.op = .call { callee := .builtin .append, args := #[s, x], argTypes := #[t, t] })
    {e : TypeId} {k b : Nat} {i : TypeInfo} {z : Value} (R : RowT P t e k b i z) (hk : 0 < k) (hb64 : b ≤ 128)
    (base : Nat) (A : Option Addr) (n c : Nat) (xs : List Value) (L : List Value) (hL : L.length = k) (hs : a.eval s = .slice A n c) (hx : a.eval x = .slice (some ⟨w.heap.size, 0, none⟩) 1 1)
    (hbase : base ≤ w.heap.size) (h : w.ownsRow base e k (.slice A n c) n xs) (hone : ∀ u ∈ L, u.oneCell' = true) (hn : n ≤ 1000000)
    (K0 : ∀ A' c' w', w'.ownsRow base e k (.slice A' (n + 1) c') (n + 1) (xs ++ L) → (w.alloc (.cells L.toArray e)).grownBy w' (Value.slice A n c).ownBlock → K (a.put o.dst (.slice A' (n + 1) c')) w') :
    if Region.wanted o (yielded ops a.tmps) = true then Oper.wp P o a (w.alloc (.cells L.toArray e)) K Q else E := by
  have hw : Region.wanted o (yielded ops a.tmps) = true := by simp [Region.wanted, hgd]
  rw [if_pos hw]
  have hlist : (w.alloc (.cells L.toArray e)).ownsRow base e k (.slice A n c) n xs := h.alloc _
  obtain ⟨v', w', hr, h2, h3, _, _⟩ := run_append_own_at (P := P) (w.alloc (.cells L.toArray e)) base t o.type e i z k b R.ht R.hi R.hz R.hs R.hb R.zs hk _ n xs hlist ⟨w.heap.size, 0, none⟩ 1 1 L (by rw [hL, Nat.one_mul]) (cells_new _ _ _) hone (by unfold maxLen; omega) (Nat.le_trans (Nat.mul_le_mul_left _ hb64) (by omega)) (by rw [World.size_alloc]; omega)
  obtain ⟨A', c', rfl⟩ := ownrow_shape h2
  unfold Oper.wp execOp
  simp only [ho, resolve, invoke, builtin, Sem.run_bind, Sem.run_pure, Result.andThen_ok, List.map_toArray, List.map_cons, List.map_nil, hs, hx, hr]
  exact K0 A' c' w' h2 h3
end Go.Proofs.Ytehabjiacgibpaa
namespace Go.Proofs.Ytehabjiacgibpaa
open Go.RowKit
def Keeps {α : Type} (R : World → (Nat → Prop) → α → List Value → Prop) : Prop := ∀ (W W' : World) (F G : Nat → Prop), Spared W W' F → (∀ i, G i → F i ∨ W.heap.size ≤ i) → ∀ x cs, R W F x cs → R W' G x cs
theorem keeps_rl : Keeps RlAt := fun _ _ _ _ hs hG _ _ h => h.moved hs hG
theorem keeps_ty : Keeps TyAt := fun _ _ _ _ hs hG _ _ h => h.moved hs hG
abbrev offR (g base : Nat) (v : Value) : Nat → Prop := fun b => b = g ∨ b < base ∨ some b = v.ownBlock
structure RowOf {α : Type} (R : World → (Nat → Prop) → α → List Value → Prop) (w : World) (base : Nat) (e : TypeId) (s g : Nat) (A : Option Addr) (n c : Nat) (ps : List (α × List Value)) : Prop where
  own : w.ownsRow base e s (.slice A n c) n (ps.flatMap (·.2))
  len : n = ps.length
  each : ∀ p ∈ ps, p.2.length = s ∧ R w (offR g base (.slice A n c)) p.1 p.2
section
variable {α : Type} {R : World → (Nat → Prop) → α → List Value → Prop} {w w' : World} {base : Nat} {e : TypeId} {s g : Nat} {A A' : Option Addr} {n c c' : Nat} {ps : List (α × List Value)}
theorem RowOf.nil (w : World) (base : Nat) (e : TypeId) (s g : Nat) : RowOf R w base e s g none 0 0 [] := ⟨World.ownsRow_nil _ _ _ _, rfl, fun p hp => by cases hp⟩
theorem RowOf.spared (hK : Keeps R) (h : RowOf R w base e s g A n c ps) (hg : g < base) (hs : Spared w w' (fun b => b = g ∨ b < base)) : RowOf R w' base e s g A n c ps := by
  refine ⟨own_spared h.own hs (fun i hi => by rcases hi with hi | hi <;> omega), h.len, fun p hp => ⟨(h.each p hp).1, hK _ _ _ _ (hs.mono (G := offR g base (.slice A n c)) (fun b hb => hb.elim .inl (fun h => .inr (.inl h)))) (fun _ h => .inl h) _ _ (h.each p hp).2⟩⟩
theorem RowOf.push (hK : Keeps R) (h : RowOf R w base e s g A n c ps) {x : α} {cs : List Value} (hl : cs.length = s) (hx : R w (offR g base (.slice A n c)) x cs)
    (ho : w'.ownsRow base e s (.slice A' (n + 1) c') (n + 1) (ps.flatMap (·.2) ++ cs)) (hg : (w.alloc (.cells cs.toArray e)).grownBy w' (Value.slice A n c).ownBlock) (hat : (Value.slice A' (n + 1) c').ownBlock = (Value.slice A n c).ownBlock ∨ (Value.slice A' (n + 1) c').ownBlock = some (w.heap.size + 1)) :
    RowOf R w' base e s g A' (n + 1) c' (ps ++ [(x, cs)]) := by
  have hmv : ∀ y ds, R w (offR g base (.slice A n c)) y ds → R w' (offR g base (.slice A' (n + 1) c')) y ds := fun y ds hy => by
    refine hK (w.alloc (.cells cs.toArray e)) w' (offR g base (.slice A n c)) _ (Spared.of_grown hg (fun k hk _ => .inr (.inr hk.symm))) (fun i hi => ?_) _ _ (hK w _ _ _ (Spared.of_below ((Below.refl w.heap.size w).alloc (Nat.le_refl _) _) _) (fun _ h => .inl h) _ _ hy)
    rcases hi with hi | hi | hi
    · exact .inl (.inl hi)
    · exact .inl (.inr (.inl hi))
    · rcases hat with e1 | e1
      · exact .inl (.inr (.inr (hi.trans e1)))
      · rw [e1] at hi
        injection hi with hi
        exact .inr (by rw [World.size_alloc]; omega)
  refine ⟨by simpa [List.flatMap_append] using ho, by have := h.len; simp; omega, fun p hp => ?_⟩
  rcases List.mem_append.1 hp with hp | hp
  · exact ⟨(h.each p hp).1, hmv _ _ (h.each p hp).2⟩
  · rw [List.mem_singleton.1 hp]
    exact ⟨hl, hmv _ _ hx⟩
theorem pairs_at : ∀ (l : List (α × List Value)) (_ : ∀ p ∈ l, p.2.length = s) (j : Nat) (h : j < l.length) (i : Nat), i < s → (l.flatMap (·.2))[j * s + i]? = (l[j]).2[i]?
  | x :: r, hf, 0, _, i, hi => by
    simp only [List.flatMap_cons, Nat.zero_mul, Nat.zero_add, List.getElem_cons_zero]
    rw [List.getElem?_append_left (by rw [hf x List.mem_cons_self]; exact hi)]
  | x :: r, hf, j + 1, h, i, hi => by
    have hx := hf x List.mem_cons_self
    simp only [List.flatMap_cons, List.getElem_cons_succ]
    rw [List.getElem?_append_right (by rw [hx, Nat.succ_mul]; omega), hx, show (j + 1) * s + i - s = j * s + i by rw [Nat.succ_mul]; omega]
    exact pairs_at r (fun p hp => hf p (List.mem_cons_of_mem _ hp)) j (by simpa using h) i hi
theorem RowOf.row (hK : Keeps R) (h : RowOf R w base e s g A n c ps) (hg : g < base) {G : Nat → Prop} (hG : ∀ i, G i → i = g ∨ i < base) : RowAt s R w G A (ps.map (·.1)) := by
  obtain ⟨⟨hl, ho⟩, rfl, he⟩ := h
  rcases ho with ⟨_, h0⟩ | ⟨b, cap, cur, hv, hb, hh, hnc, _, hsz, htake⟩
  · left
    rw [List.length_eq_zero_iff.1 h0]; rfl
  · injection hv with hA _ _
    refine .inr ⟨b, 0, hA, ?_, fun hf => by rcases hG b hf with h | h <;> omega, fun j hj => ?_⟩
    · rcases Nat.lt_or_ge b w.heap.size with hlt | hge
      · exact hlt
      · rw [Array.getElem?_eq_none hge] at hh; cases hh
    rw [List.length_map] at hj
    have hm := List.getElem_mem hj
    refine ⟨(ps[j]).2, ?_, fun i hi => ?_⟩
    · rw [List.getElem_map]
      exact hK _ _ _ _ (Spared.refl w (offR g base (.slice A ps.length c))) (fun i hi => .inl ((hG i hi).elim .inl (fun h => .inr (.inl h)))) _ _ (he _ hm).2
    · rw [Nat.zero_add, cell_of_row w b _ cur e (0, 0) hh, ← pairs_at ps (fun p hp => (he p hp).1) j hj i hi, ← htake]
      have hlt : j * s + i < ps.length * s := by
        have : (j + 1) * s ≤ ps.length * s := Nat.mul_le_mul_right s hj
        rw [Nat.succ_mul] at this
        omega
      rw [List.getElem?_take, if_pos hlt]
      simp
end
end Go.Proofs.Ytehabjiacgibpaa
namespace Go.Proofs.Ytehabjiacgibpaa
open Go.RowKit
theorem RlAt.shape {W : World} {F : Nat → Prop} {x : Rl} {cs : List Value} (h : RlAt W F x cs) : ∃ a A1 n1 c1 k n o A2 n2 c2, cs = [strV a, .slice A1 n1 c1, .int .i64 k, strV n, strV o, .slice A2 n2 c2] := by
  obtain ⟨A, c, es, rfl, _, _, h⟩ := h
  obtain ⟨k, n, o, A2, n2, c2, rfl⟩ := h.shape
  exact ⟨_, _, _, _, _, _, _, _, _, _, rfl⟩
theorem rl_one (a : Txt) (A1 : Option Addr) (n1 c1 : Nat) (k : Int) (n o : Txt) (A2 : Option Addr) (n2 c2 : Nat) : ∀ u ∈ ([strV a, .slice A1 n1 c1, .int .i64 k, strV n, strV o, .slice A2 n2 c2] : List Value), u.oneCell' = true := by
  intro u hu
  simp only [List.mem_cons, List.not_mem_nil, or_false] at hu
  rcases hu with rfl | rfl | rfl | rfl | rfl | rfl <;> rfl
theorem rowRel : ∃ i z, RowT Try.prog 50 58 6 104 i z := by
  have hf : (Try.prog.info? 58).map (fun i => (i.zero, i.size, i.bytes)) = some (some (.agg #[.string ⟨#[]⟩, .slice none 0 0, .int .i64 0, .string ⟨#[]⟩, .string ⟨#[]⟩, .slice none 0 0]), 6, 104) := by kernel_rfl
  obtain ⟨i, hi, hz, hs, hb⟩ := info_parts hf
  exact ⟨i, _, Try.underlying50, hi, hz, hs, hb, rfl⟩
theorem TyAt.shape {W : World} {F : Nat → Prop} {x : Ty} {cs : List Value} (h : TyAt W F x cs) : ∃ a A1 n1 c1, cs = [strV a, .slice A1 n1 c1] := by
  obtain ⟨A, c, rfl, _, _⟩ := h
  exact ⟨_, _, _, _, rfl⟩
theorem ty_one (a : Txt) (A1 : Option Addr) (n1 c1 : Nat) : ∀ u ∈ ([strV a, .slice A1 n1 c1] : List Value), u.oneCell' = true := by
  intro u hu
  simp only [List.mem_cons, List.not_mem_nil, or_false] at hu
  rcases hu with rfl | rfl <;> rfl
theorem rowTy : ∃ i z, RowT Try.prog 22 52 2 40 i z := by
  have hf : (Try.prog.info? 52).map (fun i => (i.zero, i.size, i.bytes)) = some (some (.agg #[.string ⟨#[]⟩, .slice none 0 0]), 2, 40) := by kernel_rfl
  obtain ⟨i, hi, hz, hs, hb⟩ := info_parts hf
  exact ⟨i, _, Try.underlying22, hi, hz, hs, hb, rfl⟩
def ParsedAs (W : World) (R : Sc × Dg) (e : Ending) (w' : World) : Prop := ∃ A c, e = .returned (.tuple #[.agg #[.slice A R.1.length c], .agg #[.int .i64 (R.2.1 : Int), .int .i64 (R.2.2.1 : Int), .int .i64 (R.2.2.2 : Int)]]) ∧
  ScAt w' (fun b => b < W.heap.size) A R.1 ∧ (R.1.length ≤ 5000 ∧ R.1.length ≤ c) ∧ Below W.heap.size W w'
end Go.Proofs.Ytehabjiacgibpaa
namespace Go.Proofs.Ytehabjiacgibpaa
open Go.RowKit
def EAsk {α : Type} (n f : Nat) (Sh : List Value → Prop) (p : α → Bool) (W : World) (A : Option Addr) (l : List α) : Prop :=
  ∀ j (hj : j < l.length), ∃ b off cs, A = some ⟨b, off, none⟩ ∧ Sh cs ∧ (∀ W', Below W.heap.size W W' → ∀ i, i < n → W'.cell? ⟨b, off + j * n + i, none⟩ = cs[i]?) ∧
    ∀ W', Below W.heap.size W W' → Calls Try.prog f #[.agg cs.toArray] W' fun e w' => e = .returned (.bool (p l[j])) ∧ Below W'.heap.size W' w'
theorem EAsk.mono {α : Type} {n f : Nat} {Sh : List Value → Prop} {p : α → Bool} {W W1 : World} {A : Option Addr} {l : List α} (h : EAsk n f Sh p W A l) (hb : Below W.heap.size W W1) : EAsk n f Sh p W1 A l := by
  intro j hj
  obtain ⟨b, off, cs, h1, h2, h3, h4⟩ := h j hj
  exact ⟨b, off, cs, h1, h2, fun W' hW => h3 W' (hb.trans (hW.mono hb.size)), fun W' hW => h4 W' (hb.trans (hW.mono hb.size))⟩
def ShRef (cs : List Value) : Prop := ∃ (s0 s1 : Txt), cs = [strV s0, strV s1]
def ShRel (cs : List Value) : Prop := ∃ (s0 : Txt) (A1 : Option Addr) (n1 c1 : Nat) (k : Int) (s2 s3 : Txt) (A2 : Option Addr) (n2 c2 : Nat), cs = [strV s0, .slice A1 n1 c1, .int .i64 k, strV s2, strV s3, .slice A2 n2 c2]
def ShType (cs : List Value) : Prop := ∃ (s0 : Txt) (A1 : Option Addr) (n1 c1 : Nat), cs = [strV s0, .slice A1 n1 c1]
end Go.Proofs.Ytehabjiacgibpaa
