/-
  How high an expression is, by the program. Conditions: it is there; it is at most 1,000,000 high.
  The document's two, in the reader.
  Which operator the parser's token is: operator, the closure of operations, slices.IndexFunc over it. Conditions: how the parser lies in memory.
  Operations of some kinds behind one another, as a Lean function; terms and expressions are such. No program is named.
-/
import Derived.Test.YtpiaiibobjlipaaCLaSh
import Derived.Test.YtpiaiibobjlipaaCPaL
import Derived.Test.YtpiaiibobjlipaaCLpS
import Derived.Test.YtpiaiibobjlipaaCPaW
namespace Go.Proofs.Ytpiaiibobjlipaa
open Go.RowKit
set_option maxHeartbeats 1000000 in
theorem pheight_any : ∀ (e : Ex) (W : World) (F : Nat → Prop) (cs : List Value), ExAt W F e cs → heightE e ≤ 1000000 →
    Calls Try.prog 20 #[.agg cs.toArray] W fun e' w' => e' = .returned (.int .i64 (heightE e)) ∧ Below W.heap.size W w' := by
  intro e
  refine Ex.all (P := fun e => ∀ (W : World) (F : Nat → Prop) (cs : List Value), ExAt W F e cs → heightE e ≤ 1000000 →
    Calls Try.prog 20 #[.agg cs.toArray] W fun e' w' => e' = .returned (.int .i64 (heightE e)) ∧ Below W.heap.size W w') (fun k n o ks ih W F cs hE hm => ?_) e
  obtain ⟨A, c, rfl, ⟨_, _, _, hl⟩, hr⟩ := hE.row
  show Calls _ _ #[.agg #[.int .i64 k, strV n, strV o, .slice A ks.length c]] _ _
  obtain ⟨W1, hW⟩ : ∃ W1, W1 = W.alloc (.cells #[.int .i64 k, strV n, strV o, .slice A ks.length c] 35) := ⟨_, rfl⟩
  have HK0 : Hid (Blk W1 W.heap.size [.int .i64 k, strV n, strV o, .slice A ks.length c] 35) := by rw [hW]; exact Lib.hid (Blk.new W _ _)
  have HB0 : Hid (Below W.heap.size W W1) := by rw [hW]; exact Lib.hid ((Below.refl W.heap.size W).alloc (Nat.le_refl _) _)
  unfold heightE at hm ⊢
  obtain ⟨v, hv⟩ : ∃ v, v = heightL ks := ⟨_, rfl⟩
  have HMem := Lib.hid (fun x (hx : x ∈ ks) => Nat.le_trans (heightL_mem hx) (Nat.le_of_succ_le hm))
  rw [← hv] at hm ⊢
  have HR := Lib.hid hr
  have HI := Lib.hid ih
  have HW := Lib.hid hW
  have HV := Lib.hid hv
  have y3 := HK0.out.cell (i := 3) (by simp)
  simp only [List.getElem_cons_succ, List.getElem_cons_zero] at y3
  clear ih hr hE hW hv
  go_enter Try.func20, Try.ntmps20
  go_wp2_with fail
  rw [← HW.out]
  go_loopw [3, 9] (fun sn i wr => ∃ (j q : Nat), j ≤ ks.length ∧ i = .int .i64 j ∧ sn = .int .i64 q ∧ q ≤ 1000000 ∧ Hid (max q (heightL (ks.drop j)) = v) ∧ Hid (Below W1.heap.size W1 wr)) (fun _ i _ => ks.length - (intOf i).toNat)
  case atStart => exact ⟨0, 0, by omega, rfl, rfl, by omega, Lib.hid (by rw [Nat.zero_max]; exact HV.out.symm), Lib.hid (Below.refl _ _)⟩
  case round =>
    obtain ⟨j, q, hj, rfl, rfl, hq, HQ, BW⟩ := hrel
    by_cases hlt : j < ks.length
    · have HD := Lib.hid (List.drop_eq_getElem_cons hlt)
      obtain ⟨b, off, k', n', o', A', m', c', rfl, hE', hcells⟩ := HR.out.kid hlt
      obtain ⟨z0, z1, z2, z3⟩ := hcells wr (HB0.out.trans (BW.out.mono HB0.out.size))
      have hx := HMem.out ks[j] (List.getElem_mem hlt)
      obtain ⟨w1, hw1⟩ : ∃ w1, w1 = wr.alloc (.cells #[.int .i64 k', strV n', strV o', .slice A' m' c'] 35) := ⟨_, rfl⟩
      have BW1 : Hid (Below W1.heap.size W1 w1) := by rw [hw1]; exact Lib.hid (BW.out.alloc BW.out.size _)
      have HC := Lib.hid (HI.out ks[j] (List.getElem_mem hlt) w1 F _ (hE'.below (HB0.out.trans (BW1.out.mono HB0.out.size))) hx)
      obtain ⟨h, hh⟩ : ∃ h, h = heightE ks[j] := ⟨_, rfl⟩
      rw [← hh] at HC hx
      have HN : Hid (max q (max h (heightL (ks.drop (j + 1)))) = v) := by
        show _ = _
        rw [← HQ.out, HD.out, heightL, hh]
      have HW1 := Lib.hid hw1
      clear hE' hcells hh hw1
      go_wp2_with fail
      rw [← HW1.out]
      refine HC.out.mono ?_
      rintro e w2 ⟨rfl, hb2⟩
      go_wp2_with fail
      refine ⟨⟨j + 1, max q h, by omega, by go_num, ?_, by omega, Lib.hid (by rw [← HN.out]; omega), Lib.hid (hop BW1.out hb2)⟩, by simp [intOf]; omega⟩
      by_cases hqh : q < h
      · first
          | rw [if_pos hqh, Nat.max_eq_right (by omega)]
          | exact congrArg (Value.int .i64) (by omega)
      · first
          | rw [if_neg hqh, Nat.max_eq_left (by omega)]
          | exact congrArg (Value.int .i64) (by omega)
    · have HQ2 : Hid (q = v) := by
        show _ = _
        rw [← HQ.out, List.drop_of_length_le (by omega), heightL]; omega
      go_wp2_with fail
      go_ret
      exact ⟨by rw [← HQ2.out]; simp, HB0.out.trans (BW.out.mono HB0.out.size)⟩
end Go.Proofs.Ytpiaiibobjlipaa
namespace Go.Proofs.Ytpiaiibobjlipaa
open Go.RowKit
theorem ExAt.shape {W : World} {F : Nat → Prop} {e : Ex} {cs : List Value} (h : ExAt W F e cs) : ∃ k n o A m c, cs = [.int .i64 k, strV n, strV o, .slice A m c] := by
  obtain ⟨k, n, o, ks⟩ := e
  obtain ⟨A, c, rfl, _⟩ := h.row
  exact ⟨_, _, _, _, _, _, rfl⟩
theorem two_world {F : Nat → Prop} {W : World} {g : Nat} {Q : Option Addr × Nat} {L : List Tk} {k op : Nat} {d : Dg} (hF : ∀ i, F i → i < W.heap.size) (h : Rd W g Q L k op d) {K : Int} (hK : fitsI K) {a b : Ex} {k1 : Int} {n1 o1 : Txt} {A1 : Option Addr} {m1 c1 : Nat} {k2 : Int} {n2 o2 : Txt} {A2 : Option Addr} {m2 c2 : Nat} (ha : ExAt W F a [.int .i64 k1, strV n1, strV o1, .slice A1 m1 c1]) (hb : ExAt W F b [.int .i64 k2, strV n2, strV o2, .slice A2 m2 c2])
    {t1 : Txt} {t2 t3 : Nat} {R : Array Value} {W6 : World} (hW : W6 = ((((((W.alloc (.cells #[strV t1, .int .i64 (t2 : Int), .int .i64 (t3 : Int)] 64)).alloc (.cells #[.int .i64 k1, strV n1, strV o1, .slice A1 m1 c1] 35)).alloc (.cells #[.int .i64 k2, strV n2, strV o2, .slice A2 m2 c2] 35)).alloc (.cells R 35)).alloc (.cells #[.int .i64 k1, strV n1, strV o1, .slice A1 m1 c1, .int .i64 k2, strV n2, strV o2, .slice A2 m2 c2] 35)).alloc (.cells #[.int .i64 K, .string ⟨#[]⟩, .string ⟨#[]⟩, .slice (some ⟨W.heap.size + 1 + 1 + 1 + 1, 0, none⟩) 2 2] 35))) :
    Below W.heap.size W W6 ∧ Rd W6 g Q L k op d ∧ W6.heap.size = W.heap.size + 6 ∧ Blk W6 W.heap.size [strV t1, .int .i64 (t2 : Int), .int .i64 (t3 : Int)] 64 ∧ Blk W6 (W.heap.size + 1 + 1 + 1) R.toList 35 ∧
      Blk W6 (W.heap.size + 1 + 1 + 1 + 1 + 1) [.int .i64 K, .string ⟨#[]⟩, .string ⟨#[]⟩, .slice (some ⟨W.heap.size + 1 + 1 + 1 + 1, 0, none⟩) 2 2] 35 ∧ ExAt W6 (fun x => F x ∨ x = W.heap.size + 1 + 1 + 1) (.mk K [] [] [a, b]) [.int .i64 K, .string ⟨#[]⟩, .string ⟨#[]⟩, .slice (some ⟨W.heap.size + 1 + 1 + 1 + 1, 0, none⟩) 2 2] := by
  have hB6 : Below W.heap.size W W6 := by
    rw [hW]
    exact ((((((Below.refl W.heap.size W).alloc (Nat.le_refl _) _).alloc (by simp only [World.size_alloc]; omega) _).alloc (by simp only [World.size_alloc]; omega) _).alloc (by simp only [World.size_alloc]; omega) _).alloc (by simp only [World.size_alloc]; omega) _).alloc (by simp only [World.size_alloc]; omega) _
  have hr6 := h.below hB6
  have hsz : W6.heap.size = W.heap.size + 6 := by rw [hW]; simp
  have hbt : Blk W6 W.heap.size [strV t1, .int .i64 (t2 : Int), .int .i64 (t3 : Int)] 64 := by
    rw [hW]
    exact (((((Blk.new W _ _).alloc _).alloc _).alloc _).alloc _).alloc _
  have hbr : Blk W6 (W.heap.size + 1 + 1 + 1) R.toList 35 := by
    rw [hW]
    have := Blk.new (((W.alloc (.cells #[strV t1, .int .i64 (t2 : Int), .int .i64 (t3 : Int)] 64)).alloc (.cells #[.int .i64 k1, strV n1, strV o1, .slice A1 m1 c1] 35)).alloc (.cells #[.int .i64 k2, strV n2, strV o2, .slice A2 m2 c2] 35)) R.toList 35
    simp only [World.size_alloc] at this
    exact (this.alloc _).alloc _
  have hba : Blk W6 (W.heap.size + 1 + 1 + 1 + 1) [.int .i64 k1, strV n1, strV o1, .slice A1 m1 c1, .int .i64 k2, strV n2, strV o2, .slice A2 m2 c2] 35 := by
    rw [hW]
    have := Blk.new ((((W.alloc (.cells #[strV t1, .int .i64 (t2 : Int), .int .i64 (t3 : Int)] 64)).alloc (.cells #[.int .i64 k1, strV n1, strV o1, .slice A1 m1 c1] 35)).alloc (.cells #[.int .i64 k2, strV n2, strV o2, .slice A2 m2 c2] 35)).alloc (.cells R 35)) [.int .i64 k1, strV n1, strV o1, .slice A1 m1 c1, .int .i64 k2, strV n2, strV o2, .slice A2 m2 c2] 35
    simp only [World.size_alloc] at this
    exact this.alloc _
  have hbe : Blk W6 (W.heap.size + 1 + 1 + 1 + 1 + 1) [.int .i64 K, .string ⟨#[]⟩, .string ⟨#[]⟩, .slice (some ⟨W.heap.size + 1 + 1 + 1 + 1, 0, none⟩) 2 2] 35 := by
    rw [hW]
    have := Blk.new (((((W.alloc (.cells #[strV t1, .int .i64 (t2 : Int), .int .i64 (t3 : Int)] 64)).alloc (.cells #[.int .i64 k1, strV n1, strV o1, .slice A1 m1 c1] 35)).alloc (.cells #[.int .i64 k2, strV n2, strV o2, .slice A2 m2 c2] 35)).alloc (.cells R 35)).alloc (.cells #[.int .i64 k1, strV n1, strV o1, .slice A1 m1 c1, .int .i64 k2, strV n2, strV o2, .slice A2 m2 c2] 35)) [.int .i64 K, .string ⟨#[]⟩, .string ⟨#[]⟩, .slice (some ⟨W.heap.size + 1 + 1 + 1 + 1, 0, none⟩) 2 2] 35
    simp only [World.size_alloc] at this
    exact this
  have hlt := h.lt
  refine ⟨hB6, hr6, hsz, hbt, hbr, hbe, ?_⟩
  refine ExAt.of_row (n := []) (o := []) ⟨hK, Nat.zero_le _, Nat.zero_le _, by simp⟩ (.inr ⟨_, 0, rfl, by rw [hsz]; omega, by intro hc; rcases hc with hc | hc; have := hF _ hc; omega; omega, fun j hj => ?_⟩)
  have hw : ∀ {x : Ex} {cs : List Value}, ExAt W F x cs → ExAt W6 (fun x => F x ∨ x = W.heap.size + 1 + 1 + 1) x cs := fun h => ExAt.moved (Spared.of_below hB6 F) (fun i hi => by rcases hi with hi | hi; exact .inl hi; exact .inr (by omega)) _ _ h
  have hc : ∀ i, i < 8 → W6.cell? ⟨W.heap.size + 1 + 1 + 1 + 1, i, none⟩ = [.int .i64 k1, strV n1, strV o1, .slice A1 m1 c1, .int .i64 k2, strV n2, strV o2, .slice A2 m2 c2][i]? := fun i hi => by
    rw [hba.cell (by simpa using hi), List.getElem?_eq_getElem]
  match j, hj with
  | 0, _ => exact ⟨_, hw ha, fun i hi => by
      rw [show 0 + 0 * 4 + i = i by omega, hc i (by omega)]
      match i, hi with
      | 0, _ => rfl
      | 1, _ => rfl
      | 2, _ => rfl
      | 3, _ => rfl⟩
  | 1, _ => exact ⟨_, hw hb, fun i hi => by
      rw [show 0 + 1 * 4 + i = 4 + i by omega, hc _ (by omega)]
      match i, hi with
      | 0, _ => rfl
      | 1, _ => rfl
      | 2, _ => rfl
      | 3, _ => rfl⟩
abbrev Old (g : Nat) (W : World) : Nat → Prop := fun b => b = g ∨ b < W.heap.size
def ExOut (s : Nat) (P : List Tk → Rs Ex) (F : Nat → Prop) (W : World) (g : Nat) (Q : Option Addr × Nat) (L : List Tk) (k op : Nat) (d : Dg) (r : Ending) (w' : World) : Prop :=
  ∃ e cs k' op' d', r = .returned (.agg cs.toArray) ∧ ExAt w' F e cs ∧ ((d'.2.2 = 0 → heightE e ≤ 12 ∧ op' = op) ∧ op ≤ op' ∧ op' ≤ op + s) ∧ Goes P L k d e k' d' ∧ Rd w' g Q L k' op' d' ∧ Spared W w' (onG g)
set_option maxHeartbeats 1000000 in
theorem two_goes {F : Nat → Prop} {W : World} {g : Nat} {Q : Option Addr × Nat} {L : List Tk} {k op : Nat} {d : Dg} (hg : F g) (hF : ∀ i, F i → i < W.heap.size) (h : Rd W g Q L k op d) (hk : k < L.length) (K : Int) (hK : fitsI K) (t : Tk) {a b : Ex} {ca cb : List Value} (ha : ExAt W F a ca) (hb : ExAt W F b cb)
    (hm : d.2.2 = 0 → heightE a ≤ 12 ∧ heightE b ≤ 12) :
    Calls Try.prog 72 #[.pointer (some ⟨g, 0, none⟩), .int .i64 K, .agg #[strV t.1, .int .i64 (t.2.1 : Int), .int .i64 (t.2.2 : Int)], .agg ca.toArray, .agg cb.toArray] W (ExOut 0 (twoP K t a b) F W g Q L k op d) := by
  obtain ⟨k1, n1, o1, A1, m1, c1, rfl⟩ := ha.shape
  obtain ⟨k2, n2, o2, A2, m2, c2, rfl⟩ := hb.shape
  obtain ⟨t1, t2, t3⟩ := t
  dsimp only
  show Calls _ _ #[_, _, _, .agg #[.int .i64 k1, strV n1, strV o1, .slice A1 m1 c1], .agg #[.int .i64 k2, strV n2, strV o2, .slice A2 m2 c2]] _ _
  obtain ⟨W6, hW⟩ : ∃ W6, W6 = ((((((W.alloc (.cells #[strV t1, .int .i64 (t2 : Int), .int .i64 (t3 : Int)] 64)).alloc (.cells #[.int .i64 k1, strV n1, strV o1, .slice A1 m1 c1] 35)).alloc (.cells #[.int .i64 k2, strV n2, strV o2, .slice A2 m2 c2] 35)).alloc (.cells #[.int .i64 0, .string ⟨#[]⟩, .string ⟨#[]⟩, .slice none 0 0] 35)).alloc (.cells #[.int .i64 k1, strV n1, strV o1, .slice A1 m1 c1, .int .i64 k2, strV n2, strV o2, .slice A2 m2 c2] 35)).alloc (.cells #[.int .i64 K, .string ⟨#[]⟩, .string ⟨#[]⟩, .slice (some ⟨W.heap.size + 1 + 1 + 1 + 1, 0, none⟩) 2 2] 35)) := ⟨_, rfl⟩
  obtain ⟨WN, hN⟩ : ∃ WN, WN = ((((((W.alloc (.cells #[strV t1, .int .i64 (t2 : Int), .int .i64 (t3 : Int)] 64)).alloc (.cells #[.int .i64 k1, strV n1, strV o1, .slice A1 m1 c1] 35)).alloc (.cells #[.int .i64 k2, strV n2, strV o2, .slice A2 m2 c2] 35)).alloc (.cells #[.int .i64 K, .string ⟨#[]⟩, .string ⟨#[]⟩, .slice (some ⟨W.heap.size + 1 + 1 + 1 + 1, 0, none⟩) 2 2] 35)).alloc (.cells #[.int .i64 k1, strV n1, strV o1, .slice A1 m1 c1, .int .i64 k2, strV n2, strV o2, .slice A2 m2 c2] 35)).alloc (.cells #[.int .i64 K, .string ⟨#[]⟩, .string ⟨#[]⟩, .slice (some ⟨W.heap.size + 1 + 1 + 1 + 1, 0, none⟩) 2 2] 35)) := ⟨_, rfl⟩
  obtain ⟨hB6, hr6, hsz, hbt, hbr, hbe, hEW⟩ := two_world hF h hK ha hb hW
  obtain ⟨bB6, br6, bsz, bbt, bbr, bbe, bEW⟩ := two_world hF h hK ha hb hN
  have hE := ExAt.moved (G := F) (Spared.refl W6 _) (fun _ h => .inl (.inl h)) _ _ hEW
  have bE := ExAt.moved (G := F) (Spared.refl WN _) (fun _ h => .inl (.inl h)) _ _ bEW
  obtain ⟨P, hP⟩ : ∃ P, P = twoP K (t1, t2, t3) a b := ⟨_, rfl⟩
  obtain ⟨e, he⟩ : ∃ e, e = Ex.mk K [] [] [a, b] := ⟨_, rfl⟩
  have hh : d.2.2 = 0 → heightE e ≤ 13 := fun h0 => by
    obtain ⟨q1, q2⟩ := hm h0
    rw [he, heightE, heightL, heightL, heightL]
    omega
  have HP : Hid (∀ ts, P ts = if 12 < heightE e then .no (failT (t1, t2, t3) 9) else .ok e ts) := Lib.hid (fun ts => by rw [hP, he]; rfl)
  rw [← he] at hE bE hEW
  have HPE := Lib.hid hP
  have x5 := hr6.1.cell (i := 5) (by simp)
  simp only [List.getElem_cons_succ, List.getElem_cons_zero] at x5
  have HC : Hid (d.2.2 = 0 → Calls Try.prog 21 #[.agg #[.int .i64 K, .string ⟨#[]⟩, .string ⟨#[]⟩, .slice (some ⟨W.heap.size + 1 + 1 + 1 + 1, 0, none⟩) 2 2]] W6 fun e' w' => e' = .returned (.int .i64 (heightE e)) ∧ Below W6.heap.size W6 w') := Lib.hid (fun h0 => height_any e W6 _ _ hE (by have := hh h0; omega))
  have HT := Lib.hid hbt
  have HBR := Lib.hid hbr
  have HBE := Lib.hid hbe
  have HE := Lib.hid hE
  have HR6 := Lib.hid hr6
  have HR0 := Lib.hid h
  have HB6 := Lib.hid hB6
  have HW := Lib.hid hW
  have HNW := Lib.hid hN
  have HNB := Lib.hid bB6
  have HNR := Lib.hid br6
  have HNE := Lib.hid bE
  have HNX := Lib.hid bbr
  have HSZ := Lib.hid hsz
  have HHE : ∃ H, Hid (H = heightE e) := ⟨_, Lib.hid rfl⟩
  obtain ⟨H, HHE⟩ := HHE
  rw [← HHE.out] at HP HC hh
  have HH := Lib.hid hh
  rw [hW] at x5 HC
  have HME := Lib.hid hEW
  clear hEW bEW hP hbt hbr hbe hE hr6 h hB6 hW hh ha hb hm hsz hK he hN bB6 br6 bE bbr bbt bbe bsz
  by_cases h0 : d.2.2 = 0
  · have hd : ((d.2.2 : Int) == 0) = true := by rw [h0]; rfl
    have HL := HH.out h0
    have HC1 := Lib.hid (HC.out h0)
    have HD0 := Lib.hid h0
    have HGN := HR0.out.lt
    have HG3 : Hid (¬ onG g (W.heap.size + 1 + 1 + 1)) := Lib.hid (by show ¬ (_ = g); omega)
    have HG5 : Hid (¬ onG g (W.heap.size + 1 + 1 + 1 + 1 + 1)) := Lib.hid (by show ¬ (_ = g); omega)
    have HF : Hid (∀ w7, Rd w7 g Q L k op d → Calls Try.prog 30 #[.pointer (some ⟨g, 0, none⟩), .agg #[strV t1, .int .i64 (t2 : Int), .int .i64 (t3 : Int)], .int .i64 9] w7 fun r w' => r = .returned (.tuple #[]) ∧ Rd w' g Q L k op (failT (t1, t2, t3) 9) ∧ Spared w7 w' (onG g)) := Lib.hid (fun w7 h7 => (fail_any h7 hk (t1, t2, t3) 9).mono fun r w' q => by rwa [if_pos h0] at q)
    clear HGN
    rw [← HW.out] at HC1 x5
    by_cases h12 : 12 < H
    · have hx : decide ((12 : Int) < (H : Int)) = true := decide_eq_true (by omega)
      have HH12 := Lib.hid h12
      rw [HW.out] at x5
      clear h0 h12
      go_enter Try.func72, Try.ntmps72
      go_wp2_with (first
        | (go_at_call 21; rw [← HW.out]; with_reducible refine HC1.out.mono ?_; rintro r w7 ⟨rfl, hb7⟩; have HB7 := Lib.hid hb7; have HBR7 := Lib.hid (HBR.out.below hb7 HBR.out.lt); have HBE7 := Lib.hid (HBE.out.below hb7 HBE.out.lt); have hT7 := (HT.out.below hb7 HT.out.lt); have t0 := hT7.cell (i := 0) (by simp); have t1' := hT7.cell (i := 1) (by simp); have t2' := hT7.cell (i := 2) (by simp); simp only [List.getElem_cons_succ, List.getElem_cons_zero] at t0 t1' t2'; clear hT7 hb7)
        | (go_at_call 30; with_reducible refine (HF.out _ (HR6.out.below HB7.out)).mono ?_; rintro r w8 ⟨rfl, hr8, hs8⟩; have HR8 := Lib.hid hr8; have HS8 := Lib.hid hs8; have HBR8 := Lib.hid (hs8.blk HBR7.out HG3.out); have HBE8 := Lib.hid (hs8.blk HBE7.out HG5.out); clear hr8 hs8; have e0 := HBE8.out.cell (i := 0) (by simp); have e1 := HBE8.out.cell (i := 1) (by simp); have e2 := HBE8.out.cell (i := 2) (by simp); have e3 := HBE8.out.cell (i := 3) (by simp); have v0 := HBR8.out.cell (i := 0) (by simp); have v1 := HBR8.out.cell (i := 1) (by simp); have v2 := HBR8.out.cell (i := 2) (by simp); have v3 := HBR8.out.cell (i := 3) (by simp); simp only [List.getElem_cons_succ, List.getElem_cons_zero] at e0 e1 e2 e3 v0 v1 v2 v3; have f0 := HBR8.out.free 0; have f1 := HBR8.out.free 1; have f2 := HBR8.out.free 2; have f3 := HBR8.out.free 3))
      refine bodyPost_ret (v := .agg #[.int .i64 K, .string ⟨#[]⟩, .string ⟨#[]⟩, .slice (some ⟨W.heap.size + 1 + 1 + 1 + 1, 0, none⟩) 2 2]) (by simp [results, Try.results72, go_sem, v0, v1, v2, v3]) rfl ?_
      have GE : Hid (W.heap.size ≤ W.heap.size + 1 + 1 + 1) := Lib.hid (by omega)
      have S8 := sp_trans (Spared.of_below HB6.out (onG g)) (sp_trans (Spared.of_below HB7.out (onG g)) HS8.out)
      unfold ExOut
      refine ⟨e, _, k, op, failT (t1, t2, t3) 9, rfl, ?_, ⟨fun h => absurd h (fail9 _), Nat.le_refl _, Nat.le_refl _⟩, ?_, HR0.out.setNew (HR0.out.setNew (HR0.out.setNew (HR0.out.setNew HR8.out GE.out 0 _) GE.out 1 _) GE.out 2 _) GE.out 3 _, ((((S8).setNew GE.out 0 _).setNew GE.out 1 _).setNew GE.out 2 _).setNew GE.out 3 _⟩
      · exact ExAt.moved (G := F) (((((((Spared.of_below HB7.out (fun x => F x ∨ x = W.heap.size + 1 + 1 + 1)).trans (HS8.out.mono (fun _ h => .inl (h ▸ hg))) (fun _ h => .inl h))).setCell (g := W.heap.size + 1 + 1 + 1) (.inr rfl) 0 _).setCell (g := W.heap.size + 1 + 1 + 1) (.inr rfl) 1 _).setCell (g := W.heap.size + 1 + 1 + 1) (.inr rfl) 2 _).setCell (g := W.heap.size + 1 + 1 + 1) (.inr rfl) 3 _) (fun _ h => .inl (.inl h)) _ _ HME.out
      · rw [← HPE.out]
        refine Goes.fail e hk HD0.out (fail9 _) ?_
        rw [HP.out, if_pos HH12.out]
    · have hx : decide ((12 : Int) < (H : Int)) = false := decide_eq_false (by omega)
      have HH12 := Lib.hid h12
      rw [HW.out] at x5
      clear h0 h12
      go_enter Try.func72, Try.ntmps72
      go_wp2_with (first
        | (go_at_call 21; rw [← HW.out]; with_reducible refine HC1.out.mono ?_; rintro r w7 ⟨rfl, hb7⟩; have HB7 := Lib.hid hb7; have HBR7 := Lib.hid (HBR.out.below hb7 HBR.out.lt); have HBE7 := Lib.hid (HBE.out.below hb7 HBE.out.lt); have e0 := HBE7.out.cell (i := 0) (by simp); have e1 := HBE7.out.cell (i := 1) (by simp); have e2 := HBE7.out.cell (i := 2) (by simp); have e3 := HBE7.out.cell (i := 3) (by simp); have v0 := HBR7.out.cell (i := 0) (by simp); have v1 := HBR7.out.cell (i := 1) (by simp); have v2 := HBR7.out.cell (i := 2) (by simp); have v3 := HBR7.out.cell (i := 3) (by simp); simp only [List.getElem_cons_succ, List.getElem_cons_zero] at e0 e1 e2 e3 v0 v1 v2 v3; have f0 := HBR7.out.free 0; have f1 := HBR7.out.free 1; have f2 := HBR7.out.free 2; have f3 := HBR7.out.free 3; clear hb7))
      refine bodyPost_ret (v := .agg #[.int .i64 K, .string ⟨#[]⟩, .string ⟨#[]⟩, .slice (some ⟨W.heap.size + 1 + 1 + 1 + 1, 0, none⟩) 2 2]) (by simp [results, Try.results72, go_sem, v0, v1, v2, v3]) rfl ?_
      have GE : Hid (W.heap.size ≤ W.heap.size + 1 + 1 + 1) := Lib.hid (by omega)
      have S8 := sp_trans (Spared.of_below HB6.out (onG g)) (Spared.of_below HB7.out (onG g))
      unfold ExOut
      refine ⟨e, _, k, op, d, rfl, ?_, ⟨fun _ => ⟨by have := HH12.out; rw [← HHE.out]; omega, rfl⟩, Nat.le_refl _, Nat.le_refl _⟩, ?_, HR0.out.setNew (HR0.out.setNew (HR0.out.setNew (HR0.out.setNew (HR6.out.below HB7.out) GE.out 0 _) GE.out 1 _) GE.out 2 _) GE.out 3 _, ((((S8).setNew GE.out 0 _).setNew GE.out 1 _).setNew GE.out 2 _).setNew GE.out 3 _⟩
      · exact ExAt.moved (G := F) ((((((Spared.of_below HB7.out (fun x => F x ∨ x = W.heap.size + 1 + 1 + 1))).setCell (g := W.heap.size + 1 + 1 + 1) (.inr rfl) 0 _).setCell (g := W.heap.size + 1 + 1 + 1) (.inr rfl) 1 _).setCell (g := W.heap.size + 1 + 1 + 1) (.inr rfl) 2 _).setCell (g := W.heap.size + 1 + 1 + 1) (.inr rfl) 3 _) (fun _ h => .inl (.inl h)) _ _ HME.out
      · rw [← HPE.out]
        refine ⟨fun _ => .inl ⟨_, ?_, rfl, rfl⟩, fun _ => rfl, Nat.le_refl _, hk⟩
        rw [HP.out, if_neg HH12.out]
  · have hd : ((d.2.2 : Int) == 0) = false := beq_eq_false_iff_ne.2 (by omega)
    go_enter Try.func72, Try.ntmps72
    go_wp2_with fail
    rw [← HNW.out]
    have y0 := HNX.out.cell (i := 0) (by simp)
    have y1 := HNX.out.cell (i := 1) (by simp)
    have y2 := HNX.out.cell (i := 2) (by simp)
    have y3 := HNX.out.cell (i := 3) (by simp)
    simp only [List.getElem_cons_succ, List.getElem_cons_zero] at y0 y1 y2 y3
    refine bodyPost_ret (v := .agg #[.int .i64 K, .string ⟨#[]⟩, .string ⟨#[]⟩, .slice (some ⟨W.heap.size + 1 + 1 + 1 + 1, 0, none⟩) 2 2]) (by simp [results, Try.results72, go_sem, y0, y1, y2, y3]) rfl ?_
    exact ⟨e, _, k, op, d, rfl, HNE.out, ⟨fun h => absurd h h0, Nat.le_refl _, Nat.le_refl _⟩, Goes.dead h0 _ hk, HNR.out, Spared.of_below HNB.out _⟩
end Go.Proofs.Ytpiaiibobjlipaa
namespace Go.Proofs.Ytpiaiibobjlipaa
open Go.RowKit
def opS (k : Int) : Txt := if k = 2 then [43] else if k = 3 then [38] else if k = 4 then [45] else []
theorem operator_any (k : Int) (W : World) : Calls Try.prog 65 #[.int .i64 k] W fun e w' => e = .returned (strV (opS k)) ∧ w' = W := by
  have hc : (k = 2 ∨ k = 3 ∨ k = 4) ∨ (¬ k = 2 ∧ ¬ k = 3 ∧ ¬ k = 4) := by omega
  rcases hc with (rfl | rfl | rfl) | ⟨h2, h3, h4⟩
  · go_enter Try.func65, Try.ntmps65
    go_wp2_with fail
    go_ret
    exact ⟨rfl, rfl⟩
  · go_enter Try.func65, Try.ntmps65
    go_wp2_with fail
    go_ret
    exact ⟨rfl, rfl⟩
  · go_enter Try.func65, Try.ntmps65
    go_wp2_with fail
    go_ret
    exact ⟨rfl, rfl⟩
  · have hv : Hid (opS k = []) := Lib.hid (by unfold opS; rw [if_neg h2, if_neg h3, if_neg h4])
    have b2 : (k == 2) = false := beq_eq_false_iff_ne.2 h2
    have b3 : (k == 3) = false := beq_eq_false_iff_ne.2 h3
    have b4 : (k == 4) = false := beq_eq_false_iff_ne.2 h4
    go_enter Try.func65, Try.ntmps65
    go_wp2_with fail
    go_ret
    exact ⟨by rw [hv.out]; rfl, rfl⟩
set_option maxHeartbeats 1000000 in
theorem op1_any {W : World} {g pb : Nat} {s : ByteArray} {i op : Nat} (h : PAt W g s i op) (hp : W.cell? ⟨pb, 0, none⟩ = some (.pointer (some ⟨g, 0, none⟩))) (k : Int) :
    Calls Try.prog 102 #[.int .i64 k, .pointer (some ⟨pb, 0, none⟩)] W fun e w' => e = .returned (.bool (curT s.data.toList i == opS k)) ∧ Below W.heap.size W w' := by
  have HT := Lib.hid (token_any h)
  have HO := Lib.hid (fun w => operator_any k w)
  generalize curT s.data.toList i = t at *
  generalize opS k = u at *
  clear h
  go_enter Try.func102, Try.ntmps102
  go_wp2_with (first
    | (go_at_call 66; refine HT.out.mono ?_; rintro e w1 ⟨rfl, hb1⟩)
    | (go_at_call 65; refine (HO.out _).mono ?_; rintro e w2 ⟨rfl, rfl⟩))
  go_ret
  exact ⟨rfl, hb1⟩
def idxF (p : Int → Bool) : Nat → List Int → Int
  | _, [] => -1
  | j, a :: r => if p a then (j : Int) else idxF p (j + 1) r
abbrev idxI (p : Int → Bool) (l : List Int) : Int := idxF p 0 l
set_option maxHeartbeats 1000000 in
theorem pindex_any {W : World} {g pb : Nat} {s : ByteArray} {i op : Nat} (h : PAt W g s i op) (hp : pb < W.heap.size ∧ W.cell? ⟨pb, 0, none⟩ = some (.pointer (some ⟨g, 0, none⟩))) {A : Option Addr} {l : List Int} (c : Nat) (hl : Ints W A l) (hn : l.length ≤ 9223372036854775807) :
    Calls Try.prog 101 #[.slice A l.length c, .func (.func 102) #[] #[.pointer (some ⟨pb, 0, none⟩)]] W fun e w' => e = .returned (.int .i64 (idxI (fun k => curT s.data.toList i == opS k) l)) ∧ Below W.heap.size W w' := by
  have HC : Hid (∀ w k, Below W.heap.size W w → Calls Try.prog 102 #[.int .i64 k, .pointer (some ⟨pb, 0, none⟩)] w fun e w' => e = .returned (.bool (curT s.data.toList i == opS k)) ∧ Below w.heap.size w w') := Lib.hid (fun w k hb => op1_any (h.below hb) (by rw [hb.cell (p := ⟨pb, 0, none⟩) hp.1]; exact hp.2) k)
  have HI : Hid (∀ w, Below W.heap.size W w → Ints w A l) := Lib.hid (fun w hb => hl.below hb)
  clear h hp hl
  go_enter Try.func101, Try.ntmps101
  go_wp2_with fail
  obtain ⟨v, hv⟩ : ∃ v, v = idxF (fun k => curT s.data.toList i == opS k) 0 l := ⟨_, rfl⟩
  have HV := Lib.hid hv
  have hQ : Hid (idxI (fun k => curT s.data.toList i == opS k) l = v) := Lib.hid hv.symm
  clear hv
  go_loopw [8] (fun x wr => ∃ j : Nat, j ≤ l.length ∧ x = .int .i64 j ∧ Hid (v = idxF (fun k => curT s.data.toList i == opS k) j (l.drop j)) ∧ Hid (Below W.heap.size W wr)) (fun x _ => l.length - (intOf x).toNat)
  case atStart => exact ⟨0, by omega, rfl, HV, Lib.hid (Below.refl _ _)⟩
  case round =>
    obtain ⟨j, hj, rfl, H, BW⟩ := hrel
    by_cases hlt : j < l.length
    · have HD := Lib.hid (List.drop_eq_getElem_cons hlt)
      rcases HI.out _ BW.out with h0 | ⟨b, off, rfl, hbl, hc⟩
      · rw [h0] at hlt; simp at hlt
      · have x0 := hc j hlt
        have HCj := Lib.hid (HC.out wr l[j] BW.out)
        generalize l[j] = k at *
        obtain ⟨q, hq⟩ : ∃ q, (curT s.data.toList i == opS k) = q := ⟨_, rfl⟩
        rw [hq] at HCj
        have HQ := Lib.hid hq
        clear hc hq
        cases q
        · have HN : Hid (v = idxF (fun k => curT s.data.toList i == opS k) (j + 1) (l.drop (j + 1))) := Lib.hid (by rw [H.out, HD.out, idxF, if_neg (by rw [HQ.out]; decide)])
          go_wp2_with (go_at_call 102; refine HCj.out.mono ?_; rintro e w2 ⟨rfl, hb2⟩)
          go_roundw
          case rel => exact ⟨j + 1, by omega, by go_num, HN, Lib.hid (hop BW.out hb2)⟩
          case measure => simp [intOf]; omega
        · have HN : Hid (v = j) := Lib.hid (by rw [H.out, HD.out, idxF, if_pos HQ.out])
          go_wp2_with (go_at_call 102; refine HCj.out.mono ?_; rintro e w2 ⟨rfl, hb2⟩)
          go_ret
          exact ⟨by rw [hQ.out, HN.out]; rfl, hop BW.out hb2⟩
    · have HN : Hid (v = -1) := Lib.hid (by rw [H.out, List.drop_of_length_le (by omega)]; rfl)
      go_wp2_with fail
      go_ret
      exact ⟨by rw [hQ.out, HN.out]; rfl, BW.out⟩
end Go.Proofs.Ytpiaiibobjlipaa
namespace Go.Proofs.Ytpiaiibobjlipaa
open Go.RowKit
def opsLoop (ks : List Int) (opnd : List Tk → Rs Ex) : Nat → Ex → List Tk → Rs Ex
  | 0, a, ts => .ok a ts
  | n + 1, a, ts =>
    if idxI (fun k => (nx ts).1 == opS k) ks < 0 then .ok a ts
    else (opnd ts.tail).then fun b r => (twoP (ks.getD (idxI (fun k => (nx ts).1 == opS k) ks).toNat 0) (nx ts) a b r).then fun e r => opsLoop ks opnd n e r
def opsK (ks : List Int) (opnd : List Tk → Rs Ex) (ts : List Tk) : Rs Ex := (opnd ts).then fun a r => opsLoop ks opnd ts.length a r
theorem idx3 (t : Txt) : idxI (fun k => t == opS k) [3] = if t = [38] then 0 else -1 := by
  have h3 : opS 3 = [38] := rfl
  unfold idxI
  rw [idxF, idxF, h3]
  by_cases h : t = [38]
  · rw [if_pos h, if_pos (beq_iff_eq.2 h)]; rfl
  · rw [if_neg h, if_neg (by simpa using h)]
theorem idx24 (t : Txt) : idxI (fun k => t == opS k) [2, 4] = if t = [43] then 0 else if t = [45] then 1 else -1 := by
  have h2 : opS 2 = [43] := rfl
  have h4 : opS 4 = [45] := rfl
  unfold idxI
  rw [idxF, idxF, idxF, h2, h4]
  by_cases h : t = [43]
  · rw [if_pos h, if_pos (beq_iff_eq.2 h)]; rfl
  · rw [if_neg h, if_neg (by simpa using h)]
    by_cases h' : t = [45]
    · rw [if_pos h', if_pos (beq_iff_eq.2 h')]; rfl
    · rw [if_neg h', if_neg (by simpa using h')]
theorem term_ops (sub : Option (List Tk → Rs Ex)) : ∀ (n : Nat) (a : Ex) (ts : List Tk), termLoop sub n a ts = opsLoop [3] (atomK sub) n a ts
  | 0, a, ts => rfl
  | n + 1, a, ts => by
    rw [termLoop, opsLoop, idx3]
    by_cases h : (nx ts).1 = [38]
    · rw [if_pos h, if_pos h, if_neg (by decide)]
      simp only [term_ops sub n]
      rfl
    · rw [if_neg h, if_neg h, if_pos (by decide)]
theorem expr_ops (sub : Option (List Tk → Rs Ex)) : ∀ (n : Nat) (a : Ex) (ts : List Tk), exprLoop sub n a ts = opsLoop [2, 4] (termK sub) n a ts
  | 0, a, ts => rfl
  | n + 1, a, ts => by
    rw [exprLoop, opsLoop, idx24]
    by_cases h : (nx ts).1 = [43]
    · rw [if_pos (.inl h), if_pos h, if_neg (show ¬ ((0 : Int) < 0) by decide), if_neg (show ¬ (nx ts).1 = [45] by rw [h]; decide)]
      simp only [expr_ops sub n]
      rfl
    · by_cases h' : (nx ts).1 = [45]
      · rw [if_pos (.inr h'), if_neg h, if_pos h', if_pos h', if_neg (show ¬ ((1 : Int) < 0) by decide)]
        simp only [expr_ops sub n]
        rfl
      · rw [if_neg (fun e => e.elim h h'), if_neg h, if_neg h', if_pos (by decide)]
theorem termK_ops (sub : Option (List Tk → Rs Ex)) (ts : List Tk) : termK sub ts = opsK [3] (atomK sub) ts := by
  unfold termK opsK
  simp only [term_ops]
theorem exprK_ops (sub : Option (List Tk → Rs Ex)) (ts : List Tk) : exprK sub ts = opsK [2, 4] (termK sub) ts := by
  unfold exprK opsK
  simp only [expr_ops]
def Kinds (ks : List Int) : Prop := ∀ k ∈ ks, k = 2 ∨ k = 3 ∨ k = 4
theorem opS_good {k : Int} (h : k = 2 ∨ k = 3 ∨ k = 4) : Good (opS k) ∧ opS k ≠ [] := by
  rcases h with rfl | rfl | rfl
  · exact ⟨.inr (.inr ⟨43, by decide, rfl⟩), by decide⟩
  · exact ⟨.inr (.inr ⟨38, by decide, rfl⟩), by decide⟩
  · exact ⟨.inr (.inr ⟨45, by decide, rfl⟩), by decide⟩
theorem idxF_same {x t : Txt} (h : Tok x t) : ∀ (ks : List Int) (j : Nat), Kinds ks → idxF (fun k => x == opS k) j ks = idxF (fun k => t == opS k) j ks
  | [], j, _ => rfl
  | k :: r, j, hk => by
    have e : (x == opS k) = (t == opS k) := by
      have := h.eq (opS_good (hk k List.mem_cons_self)).1
      by_cases hx : x = opS k
      · rw [beq_iff_eq.2 hx, beq_iff_eq.2 (this.1 hx)]
      · rw [beq_eq_false_iff_ne.2 hx, beq_eq_false_iff_ne.2 (fun e => hx (this.2 e))]
    rw [idxF, idxF, e, idxF_same h r _ (fun k hk' => hk k (List.mem_cons_of_mem _ hk'))]
theorem idxF_at {t : Txt} : ∀ (ks : List Int) (j : Nat), idxF (fun k => t == opS k) j ks = -1 ∨ ∃ q, ∃ h : q < ks.length, idxF (fun k => t == opS k) j ks = ((j + q : Nat) : Int) ∧ t = opS ks[q]
  | [], j => .inl rfl
  | k :: r, j => by
    rw [idxF]
    by_cases hk : t = opS k
    · rw [if_pos (beq_iff_eq.2 hk)]
      exact .inr ⟨0, by simp, rfl, hk⟩
    · rw [if_neg (by simpa using hk)]
      rcases idxF_at r (j + 1) with h | ⟨q, hq, h1, h2⟩
      · exact .inl h
      · exact .inr ⟨q + 1, by simpa using hq, by rw [h1]; congr 1; omega, by simpa using h2⟩
end Go.Proofs.Ytpiaiibobjlipaa
