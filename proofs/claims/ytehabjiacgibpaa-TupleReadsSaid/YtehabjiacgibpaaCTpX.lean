/-
  What the program's read comes to: the tenant and the tuple of a key. Condition: the key is of at most 1,000,000 bytes.
  What the program's Read and ReadBack come to. Condition: the key is of at most 1,000,000 bytes.
  Plain mathematics: the order of bytes; what begins with a prefix lies from it up to the key behind. No program is named here.
  Keys sort as the lists of their parts do; one begins another just if its parts are the other one's first; what lies from a prefix up to the key behind all that begin with it. No program is named here.
  Tuples as arguments: their texts, are two the same, what their keys say. No condition.
-/
import Derived.Test.YtehabjiacgibpaaCText
import Derived.Test.YtehabjiacgibpaaCLpAt
import Derived.Test.YtehabjiacgibpaaCEnc
import Derived.Test.YtehabjiacgibpaaCFlat
namespace Go.Proofs.Ytehabjiacgibpaa
open Go.RowKit
def readO (fs : Txt) (mk : Txt → Txt → Txt → Txt → Txt → Txt → Tup) (b : List UInt8) : Option (Txt × Tup) :=
  match decL b [] [] with
  | some [f, tn, p0, p1, p2, p3, p4, p5] => if f = fs ∧ showT (mk p0 p1 p2 p3 p4 p5) ≠ [] then some (tn, mk p0 p1 p2 p3 p4 p5) else none
  | _ => none
def noTup : Txt × Tup := ([], ([], [], [], [], [], []))
def ReadP (W : World) (O : Option (Txt × Tup)) (e : Ending) (w' : World) : Prop := e = .returned (.tuple #[strV (O.getD noTup).1, .agg ((six (O.getD noTup).2).map strV).toArray, .bool O.isSome]) ∧ Below W.heap.size W w'
theorem readO_none {fs : Txt} {mk : Txt → Txt → Txt → Txt → Txt → Txt → Tup} {b : List UInt8} (h : decL b [] [] = none) : readO fs mk b = none := by unfold readO; rw [h]
theorem readO_len {fs : Txt} {mk : Txt → Txt → Txt → Txt → Txt → Txt → Tup} {b : List UInt8} {L : List Txt} (h : decL b [] [] = some L) (hn : L.length ≠ 8) : readO fs mk b = none := by
  unfold readO
  rw [h]
  match L, hn with
  | [], _ => rfl
  | [_], _ => rfl
  | [_, _], _ => rfl
  | [_, _, _], _ => rfl
  | [_, _, _, _], _ => rfl
  | [_, _, _, _, _], _ => rfl
  | [_, _, _, _, _, _], _ => rfl
  | [_, _, _, _, _, _, _], _ => rfl
  | [_, _, _, _, _, _, _, _], hn => exact absurd rfl hn
  | _ :: _ :: _ :: _ :: _ :: _ :: _ :: _ :: _ :: _, _ => rfl
theorem eight {L : List Txt} (h : L.length = 8) : ∃ f tn p0 p1 p2 p3 p4 p5, L = [f, tn, p0, p1, p2, p3, p4, p5] := by
  match L, h with
  | [a, b, c, d, e, f, g, i], _ => exact ⟨a, b, c, d, e, f, g, i, rfl⟩
def PartTo (ps : List Txt) (k : Nat) (M : List Value) : Prop := M.length = 6 ∧ ∀ j (h : j < ps.length), j < k → M[j]? = some (strV ps[j])
theorem PartTo.push {ps : List Txt} {k : Nat} {M : List Value} (h : PartTo ps k M) (hk : k < ps.length) (h6 : k < 6) : PartTo ps (k + 1) (M.set k (strV ps[k])) := by
  refine ⟨by simp [h.1], fun j hj hjk => ?_⟩
  rcases Nat.lt_or_ge j k with hlt | hge
  · rw [List.getElem?_set_ne (by omega)]; exact h.2 j hj hlt
  · obtain rfl : j = k := by omega
    rw [List.getElem?_set_self (by rw [h.1]; exact h6)]
theorem PartTo.all {ps : List Txt} {M : List Value} (h : PartTo ps 6 M) (hl : ps.length = 6) : M = ps.map strV := by
  apply List.ext_getElem?
  intro j
  rcases Nat.lt_or_ge j 6 with hj | hj
  · rw [h.2 j (by omega) hj, List.getElem?_map, List.getElem?_eq_getElem (by omega)]; rfl
  · rw [List.getElem?_eq_none (by rw [h.1]; exact hj), List.getElem?_eq_none (by simp; omega)]
theorem part_at {w : World} {B : Option Addr} {ps : List Piece} {L : List Txt} (h : SeenAll w B ps) (hb : bytesOf ps = L) (hne : L ≠ []) {g : Nat} {M : List Value} {t : TypeId} (hg : Blk w g M t) (hs : ∀ v ∈ M, ∃ s, v = .string s) :
    ∃ b off, B = some ⟨b, off, none⟩ ∧ b < w.heap.size ∧ ∀ j (hj : j < L.length), ∃ A' c', ∀ w', w.grownBy w' (some g) → w'.cell? ⟨b, off + j, none⟩ = some (.slice A' L[j].length c') ∧ (convert 36 9 (.slice A' L[j].length c')).run Try.prog w' = .ok (strV L[j]) w' := by
  subst hb
  rcases h with rfl | ⟨b, off, rfl, hlt, hc⟩
  · exact absurd rfl hne
  refine ⟨b, off, rfl, hlt, fun j hj => ?_⟩
  rw [length_bytesOf] at hj
  obtain ⟨h1, h2, _, _⟩ := hc j hj
  have e : (bytesOf ps)[j]'(by rw [length_bytesOf]; exact hj) = ps[j].2.1 := by simp [bytesOf]
  rw [e]
  have hbg : b ≠ g := by
    rintro rfl
    obtain ⟨s, hs⟩ := strings_at hg hs h1
    cases hs
  refine ⟨ps[j].1, ps[j].2.2, fun w' hw => ⟨hw.cell h1 (by intro e; injection e with e; exact hbg e), ?_⟩⟩
  have hse : Seen w' ps[j].1 ps[j].2.1 := by
    rcases h2 with h0 | ⟨b', off', hA, hb', hc'⟩
    · exact .inl h0
    · by_cases hl : ps[j].2.1 = []
      · exact .inl hl
      refine .inr ⟨b', off', hA, Nat.lt_of_lt_of_le hb' hw.size, fun i hi => hw.cell (hc' i hi) ?_⟩
      intro e
      injection e with e
      change b' = g at e
      subst e
      obtain ⟨s, hs⟩ := strings_at hg hs (hc' i hi)
      cases hs
  exact text_on hse _ _ rfl w' (Below.refl _ _)
set_option maxRecDepth 100000 in
set_option maxHeartbeats 4000000 in
theorem read_any (fs : Txt) (g : Nat) (mk : Txt → Txt → Txt → Txt → Txt → Txt → Tup) (eg : ∀ args w, (callFunc g args).run Try.prog w = .ok (.enter g args) w)
    (hof : ∀ p0 p1 p2 p3 p4 p5 w, Calls Try.prog g #[.agg #[strV p0, strV p1, strV p2, strV p3, strV p4, strV p5]] w fun e w' => e = .returned (.agg ((six (mk p0 p1 p2 p3 p4 p5)).map strV).toArray) ∧ Below w.heap.size w w')
    (hmk : ∀ p0 p1 p2 p3 p4 p5, ∀ x ∈ six (mk p0 p1 p2 p3 p4 p5), x ∈ [p0, p1, p2, p3, p4, p5])
    (b : List UInt8) (A : Option Addr) (c : Nat) (W : World) (hs : Seen W A b) (hb : b.length ≤ 1000000) :
    Calls Try.prog 32 #[.slice A b.length c, strV fs, .func (.func g) #[] #[]] W (ReadP W (readO fs mk b)) := by
  unfold ReadP
  obtain ⟨O, hO⟩ : ∃ O, O = readO fs mk b := ⟨_, rfl⟩
  rw [← hO]
  obtain ⟨W1, hW⟩ : ∃ W1, W1 = (W.alloc (.cells #[.string ⟨#[]⟩, .string ⟨#[]⟩, .string ⟨#[]⟩, .string ⟨#[]⟩, .string ⟨#[]⟩, .string ⟨#[]⟩] 30)).alloc (.cells #[.string ⟨#[]⟩, .string ⟨#[]⟩, .string ⟨#[]⟩, .string ⟨#[]⟩, .string ⟨#[]⟩, .string ⟨#[]⟩] 74) := ⟨_, rfl⟩
  have hZ : Blk W1 W.heap.size [.string ⟨#[]⟩, .string ⟨#[]⟩, .string ⟨#[]⟩, .string ⟨#[]⟩, .string ⟨#[]⟩, .string ⟨#[]⟩] 30 := by rw [hW]; exact (Blk.new W [.string ⟨#[]⟩, .string ⟨#[]⟩, .string ⟨#[]⟩, .string ⟨#[]⟩, .string ⟨#[]⟩, .string ⟨#[]⟩] 30).alloc _
  have hY : Blk W1 (W.heap.size + 1) [.string ⟨#[]⟩, .string ⟨#[]⟩, .string ⟨#[]⟩, .string ⟨#[]⟩, .string ⟨#[]⟩, .string ⟨#[]⟩] 74 := by
    have h := Blk.new (W.alloc (.cells #[.string ⟨#[]⟩, .string ⟨#[]⟩, .string ⟨#[]⟩, .string ⟨#[]⟩, .string ⟨#[]⟩, .string ⟨#[]⟩] 30)) [.string ⟨#[]⟩, .string ⟨#[]⟩, .string ⟨#[]⟩, .string ⟨#[]⟩, .string ⟨#[]⟩, .string ⟨#[]⟩] 74
    rw [hW]
    simpa using h
  have hb0 : Below W.heap.size W W1 := by rw [hW]; exact ((Below.refl _ _).alloc (Nat.le_refl _) _).alloc (by simp) _
  have HZ := Lib.hid hZ
  have HY := Lib.hid hY
  have HB0 := Lib.hid hb0
  have HW := Lib.hid hW
  have HD := Lib.hid (decode_any A b c W1 (hs.below hb0) (by omega))
  have hlen := dec_length b [] []
  unfold DecOut at HD
  have HON := Lib.hid (fun h : decL b [] [] = none => hO.trans (readO_none h))
  have HOL := Lib.hid (fun L (h : decL b [] [] = some L) (hn : L.length ≠ 8) => hO.trans (readO_len h hn))
  have HO8 : Hid (∀ f tn p0 p1 p2 p3 p4 p5, decL b [] [] = some [f, tn, p0, p1, p2, p3, p4, p5] → O = if f = fs ∧ showT (mk p0 p1 p2 p3 p4 p5) ≠ [] then some (tn, mk p0 p1 p2 p3 p4 p5) else none) := Lib.hid (fun f tn p0 p1 p2 p3 p4 p5 h => by rw [hO]; unfold readO; rw [h])
  generalize decL b [] [] = D at *
  clear hZ hY hb0 hW hO hs
  cases D with
  | none =>
    have HO2 := Lib.hid (HON.out rfl)
    clear HON HOL HO8 hlen
    go_enter Try.func32, Try.ntmps32
    go_wp2_with (go_at_call 57; rw [← HW.out]; refine HD.out.mono ?_; rintro e w2 ⟨B, ps, n, d, rfl, hn, _, _, hb2⟩; have HB2 := Lib.hid (HB0.out.trans (hb2.mono HB0.out.size)); have HZ2 := Lib.hid (HZ.out.below hb2 HZ.out.lt); obtain ⟨⟨z0, z1, z2, z3, z4, z5⟩, f0, f1, f2, f3, f4, f5⟩ := zeros_at w2 W.heap.size 30 HZ2.out; have he : errOf none = 3 := rfl; clear hb2 hn)
    refine bodyPost_ret (v := .tuple #[.string ⟨#[]⟩, .agg #[.string ⟨#[]⟩, .string ⟨#[]⟩, .string ⟨#[]⟩, .string ⟨#[]⟩, .string ⟨#[]⟩, .string ⟨#[]⟩], .bool false]) (by simp [results, Try.results32, go_sem, z0, z1, z2, z3, z4, z5]) rfl ?_
    rw [HO2.out]
    exact ⟨rfl, (((((HB2.out.setCell (p := ⟨W.heap.size, 0, none⟩) (Nat.le_refl _) _).setCell (p := ⟨W.heap.size, 1, none⟩) (Nat.le_refl _) _).setCell (p := ⟨W.heap.size, 2, none⟩) (Nat.le_refl _) _).setCell (p := ⟨W.heap.size, 3, none⟩) (Nat.le_refl _) _).setCell (p := ⟨W.heap.size, 4, none⟩) (Nat.le_refl _) _).setCell (p := ⟨W.heap.size, 5, none⟩) (Nat.le_refl _) _⟩
  | some L =>
    have hlenL := hlen L rfl
    clear hlen HON
    by_cases h8 : L.length = 8
    case neg =>
      have HO2 := Lib.hid (HOL.out L rfl h8)
      have HN8 := Lib.hid h8
      clear HOL HO8 hlenL h8
      go_enter Try.func32, Try.ntmps32
      go_wp2_with (go_at_call 57; rw [← HW.out]; refine HD.out.mono ?_; rintro e w2 ⟨B, ps, n, d, rfl, hn, _, hby, hb2⟩; have HB2 := Lib.hid (HB0.out.trans (hb2.mono HB0.out.size)); have HZ2 := Lib.hid (HZ.out.below hb2 HZ.out.lt); obtain ⟨⟨z0, z1, z2, z3, z4, z5⟩, f0, f1, f2, f3, f4, f5⟩ := zeros_at w2 W.heap.size 30 HZ2.out; have he : errOf (some L) = 0 := rfl; have hne : ¬ ((n : Int) = 8) := (by intro h; apply HN8.out; have := congrArg List.length hby; rw [length_bytesOf] at this; simp at this; omega); clear hb2 hn hby)
      refine bodyPost_ret (v := .tuple #[.string ⟨#[]⟩, .agg #[.string ⟨#[]⟩, .string ⟨#[]⟩, .string ⟨#[]⟩, .string ⟨#[]⟩, .string ⟨#[]⟩, .string ⟨#[]⟩], .bool false]) (by simp [results, Try.results32, go_sem, z0, z1, z2, z3, z4, z5]) rfl ?_
      rw [HO2.out]
      exact ⟨rfl, (((((HB2.out.setCell (p := ⟨W.heap.size, 0, none⟩) (Nat.le_refl _) _).setCell (p := ⟨W.heap.size, 1, none⟩) (Nat.le_refl _) _).setCell (p := ⟨W.heap.size, 2, none⟩) (Nat.le_refl _) _).setCell (p := ⟨W.heap.size, 3, none⟩) (Nat.le_refl _) _).setCell (p := ⟨W.heap.size, 4, none⟩) (Nat.le_refl _) _).setCell (p := ⟨W.heap.size, 5, none⟩) (Nat.le_refl _) _⟩
    case pos =>
      obtain ⟨f, tn, p0, p1, p2, p3, p4, p5, rfl⟩ := eight h8
      have HOX := Lib.hid (HO8.out f tn p0 p1 p2 p3 p4 p5 rfl)
      clear HOL HO8 h8
      have hsm : ∀ x ∈ [f, tn, p0, p1, p2, p3, p4, p5], x.length ≤ 1000000 := fun x hx => (hlenL.2 1000000 (fun q hq => by simp at hq) (by simpa using hb)) x hx
      clear hlenL
      have HSM := Lib.hid hsm
      clear hsm
      have h2 : ∀ (w2 : World) (B : Option Addr) (ps : List Piece), SeenAll w2 B ps → bytesOf ps = [f, tn, p0, p1, p2, p3, p4, p5] → Below W1.heap.size W1 w2 → ∃ b off, B = some ⟨b, off, none⟩ ∧ b < w2.heap.size ∧ ∀ j (hj : j < [f, tn, p0, p1, p2, p3, p4, p5].length), ∃ A' c', ∀ w', w2.grownBy w' (some (W.heap.size + 1)) → w'.cell? ⟨b, off + j, none⟩ = some (.slice A' [f, tn, p0, p1, p2, p3, p4, p5][j].length c') ∧ (convert 36 9 (.slice A' [f, tn, p0, p1, p2, p3, p4, p5][j].length c')).run Try.prog w' = .ok (strV [f, tn, p0, p1, p2, p3, p4, p5][j]) w' := fun w2 B ps hse hby hb2 =>
        part_at hse hby (by simp) (HY.out.below hb2 HY.out.lt) (by intro v hv; simp at hv; exact ⟨_, hv⟩)
      have HP := Lib.hid h2
      clear h2
      have DEC : Hid (Calls Try.prog 57 #[.slice A b.length c] W1 fun e w2 => ∃ (bb off d : Nat), e = .returned (.tuple #[.slice (some ⟨bb, off, none⟩) 8 d, .int .i64 0]) ∧ Hid (Below W1.heap.size W1 w2) ∧ Hid (bb < w2.heap.size) ∧ Hid (∀ j (hj : j < [f, tn, p0, p1, p2, p3, p4, p5].length), ∃ A' c', ∀ w', w2.grownBy w' (some (W.heap.size + 1)) → w'.cell? ⟨bb, off + j, none⟩ = some (.slice A' [f, tn, p0, p1, p2, p3, p4, p5][j].length c') ∧ (convert 36 9 (.slice A' [f, tn, p0, p1, p2, p3, p4, p5][j].length c')).run Try.prog w' = .ok (strV [f, tn, p0, p1, p2, p3, p4, p5][j]) w')) := Lib.hid (HD.out.mono (by
        rintro e w2 ⟨B, ps, n, d, rfl, hn, hse, hby, hb2⟩
        obtain ⟨bb, off, rfl, h3, h4⟩ := HP.out w2 B ps hse hby hb2
        have hn8 : n = 8 := by rw [← hn, ← length_bytesOf, hby]; rfl
        subst hn8
        exact ⟨bb, off, d, rfl, hb2, h3, h4⟩))
      clear HD HP
      by_cases hf : f = fs
      case neg =>
        have HO2 : Hid (O = none) := Lib.hid (by rw [HOX.out, if_neg (fun h => hf h.1)])
        have hf2 : (f == fs) = false := beq_eq_false_iff_ne.2 hf
        clear HOX
        go_enter Try.func32, Try.ntmps32
        go_wp2_with (go_at_call 57; rw [← HW.out]; refine DEC.out.mono ?_; rintro e w2 ⟨bb, off, d, rfl, hb2, hb3, hpt⟩; have HB2 := Lib.hid (HB0.out.trans (hb2.out.mono HB0.out.size)); have HZ2 := Lib.hid (HZ.out.below hb2.out HZ.out.lt); obtain ⟨⟨z0, z1, z2, z3, z4, z5⟩, f0, f1, f2, f3, f4, f5⟩ := zeros_at w2 W.heap.size 30 HZ2.out; obtain ⟨A0, c0, h0⟩ := hpt.out 0 (by simp); obtain ⟨y0, x0⟩ := h0 w2 (World.grownBy.refl w2 _); simp only [List.getElem_cons_zero, Nat.add_zero] at y0 x0; clear h0)
        refine bodyPost_ret (v := .tuple #[.string ⟨#[]⟩, .agg #[.string ⟨#[]⟩, .string ⟨#[]⟩, .string ⟨#[]⟩, .string ⟨#[]⟩, .string ⟨#[]⟩, .string ⟨#[]⟩], .bool false]) (by simp [results, Try.results32, go_sem, z0, z1, z2, z3, z4, z5]) rfl ?_
        rw [HO2.out]
        exact ⟨rfl, (((((HB2.out.setCell (p := ⟨W.heap.size, 0, none⟩) (Nat.le_refl _) _).setCell (p := ⟨W.heap.size, 1, none⟩) (Nat.le_refl _) _).setCell (p := ⟨W.heap.size, 2, none⟩) (Nat.le_refl _) _).setCell (p := ⟨W.heap.size, 3, none⟩) (Nat.le_refl _) _).setCell (p := ⟨W.heap.size, 4, none⟩) (Nat.le_refl _) _).setCell (p := ⟨W.heap.size, 5, none⟩) (Nat.le_refl _) _⟩
      case pos =>
        subst hf
        have HO3 : Hid (O = if showT (mk p0 p1 p2 p3 p4 p5) ≠ [] then some (tn, mk p0 p1 p2 p3 p4 p5) else none) := Lib.hid (by
          rw [HOX.out]
          by_cases h : showT (mk p0 p1 p2 p3 p4 p5) ≠ []
          · rw [if_pos ⟨rfl, h⟩, if_pos h]
          · rw [if_neg (fun k => h k.2), if_neg h])
        clear HOX
        have HOF := Lib.hid (fun w => hof p0 p1 p2 p3 p4 p5 w)
        have hsx : ∀ x ∈ six (mk p0 p1 p2 p3 p4 p5), x.length ≤ 9223372036854775807 := fun x hx => by
          have h1 := hmk p0 p1 p2 p3 p4 p5 x hx
          exact Nat.le_trans (HSM.out x (List.mem_cons_of_mem _ (List.mem_cons_of_mem _ h1))) (by decide)
        have HIT := Lib.hid (fun w => isTuple_any (mk p0 p1 p2 p3 p4 p5) w hsx)
        obtain ⟨q0, q1, q2, q3, q4, q5, hq, hmkq⟩ := six_of (mk p0 p1 p2 p3 p4 p5)
        rw [hq] at HOF HIT
        rw [hmkq] at HIT HO3
        clear hof hmk hsx hq hmkq HSM
        go_enter Try.func32, Try.ntmps32
        go_wp2_with (go_at_call 57; rw [← HW.out]; refine DEC.out.mono ?_; rintro e w2 ⟨bb, off, d, rfl, hb2, hb3, hpt⟩; obtain ⟨A0, c0, h0⟩ := hpt.out 0 (by simp); obtain ⟨y0, x0⟩ := h0 w2 (World.grownBy.refl w2 _); simp only [List.getElem_cons_zero, Nat.add_zero] at y0 x0; clear h0)
        clear y0 x0
        go_loopw [35] (fun i wr => ∃ (k : Nat) (M : List Value), i = .int .i64 (k : Int) ∧ k ≤ 6 ∧ Hid (Blk wr (W.heap.size + 1) M 74) ∧ Hid (PartTo [p0, p1, p2, p3, p4, p5] k M) ∧ Hid (w2.grownBy wr (some (W.heap.size + 1)))) (fun i _ => 6 - (intOf i).toNat)
        case atStart => exact ⟨0, [.string ⟨#[]⟩, .string ⟨#[]⟩, .string ⟨#[]⟩, .string ⟨#[]⟩, .string ⟨#[]⟩, .string ⟨#[]⟩], rfl, by omega, HY.out.below hb2.out HY.out.lt, ⟨rfl, fun j _ h => absurd h (Nat.not_lt_zero _)⟩, World.grownBy.refl w2 _⟩
        case round =>
          obtain ⟨k, M, rfl, hk, HK, HD, HG⟩ := hrel
          by_cases hlt : k < 6
          · obtain ⟨A1, c1, h1⟩ := hpt.out (2 + k) (by simp; omega)
            obtain ⟨y1, x1⟩ := h1 wr HG.out
            have hg2 : [f, tn, p0, p1, p2, p3, p4, p5][2 + k]'(by simp; omega) = [p0, p1, p2, p3, p4, p5][k]'(by simp; omega) := by
              simp only [Nat.add_comm 2 k, List.getElem_cons_succ]
            rw [hg2] at y1 x1
            have HD2 := Lib.hid (HD.out.push (k := k) (by simp; omega) hlt)
            have HK2 := Lib.hid (HK.out.set k (strV ([p0, p1, p2, p3, p4, p5][k]'(by simp; omega))))
            have HG2 := Lib.hid (only_setCell HG.out k (strV ([p0, p1, p2, p3, p4, p5][k]'(by simp; omega))))
            have z := HK.out.cell (i := k) (by rw [HD.out.1]; exact hlt)
            have fz := HK.out.free k
            generalize M[k]'(by rw [HD.out.1]; exact hlt) = mz at z
            generalize [p0, p1, p2, p3, p4, p5][k]'(by simp; omega) = pk at *
            clear h1 hg2
            go_wp2_with fail
            go_roundw
            case rel => exact ⟨k + 1, _, by go_num, by omega, HK2, HD2, HG2⟩
            case measure => simp [intOf]; omega
          · obtain rfl : k = 6 := by omega
            have hM : M = [p0, p1, p2, p3, p4, p5].map strV := HD.out.all rfl
            subst hM
            have k0 := HK.out.cell (i := 0) (by simp)
            have k1 := HK.out.cell (i := 1) (by simp)
            have k2 := HK.out.cell (i := 2) (by simp)
            have k3 := HK.out.cell (i := 3) (by simp)
            have k4 := HK.out.cell (i := 4) (by simp)
            have k5 := HK.out.cell (i := 5) (by simp)
            simp only [List.map_cons, List.map_nil, List.getElem_cons_succ, List.getElem_cons_zero] at k0 k1 k2 k3 k4 k5
            have HZ2 := Lib.hid (HZ.out.below hb2.out HZ.out.lt)
            obtain ⟨A1, c1, h1⟩ := hpt.out 1 (by simp)
            have HPT : Hid (∀ w', w2.grownBy w' (some (W.heap.size + 1)) → w'.cell? ⟨bb, off + 1, none⟩ = some (.slice A1 tn.length c1) ∧ (convert 36 9 (.slice A1 tn.length c1)).run Try.prog w' = .ok (strV tn) w') := Lib.hid h1
            have HB2 := Lib.hid (HB0.out.trans (hb2.out.mono HB0.out.size))
            have HLT : Hid (W.heap.size + 1 < w2.heap.size) := Lib.hid (Nat.lt_of_lt_of_le HY.out.lt hb2.out.size)
            clear h1 hpt DEC HD
            by_cases hsh : showT (q0, q1, q2, q3, q4, q5) = []
            · have HO2 : Hid (O = none) := Lib.hid (by rw [HO3.out, if_neg (fun h => h hsh)])
              rw [decide_eq_false (fun h => h hsh)] at HIT
              clear HO3
              go_wp2_with (first
                | (go_at_fn g; refine (HOF.out _).mono ?_; rintro e w3 ⟨rfl, hb3'⟩; have HG3 := Lib.hid (only_below HG.out hb3'); have hlt3 : W.heap.size + 1 < w3.heap.size := Nat.lt_of_lt_of_le HLT.out HG3.out.size; have HX3 := Lib.hid (Blk.new w3 [strV q0, strV q1, strV q2, strV q3, strV q4, strV q5] 30); have HG4 := Lib.hid (only_below HG3.out ((Below.refl w3.heap.size w3).alloc (Nat.le_refl _) (.cells #[strV q0, strV q1, strV q2, strV q3, strV q4, strV q5] 30))); clear hb3')
                | (go_at_call 25; refine (HIT.out _).mono ?_; rintro e w5 ⟨rfl, hb5⟩; have HG5 := Lib.hid (only_below HG4.out hb5); have HX5 := Lib.hid (HX3.out.below hb5 HX3.out.lt); have HZ5 := Lib.hid (blk_grown HZ2.out HG5.out (by omega)); obtain ⟨⟨z0, z1, z2, z3, z4, z5⟩, f0, f1, f2, f3, f4, f5⟩ := zeros_at w5 W.heap.size 30 HZ5.out; have HB5 := Lib.hid (HB2.out.grown HG5.out HB2.out.size (fun i hi => by injection hi with hi; omega)); clear hb5))
              refine bodyPost_ret (v := .tuple #[.string ⟨#[]⟩, .agg #[.string ⟨#[]⟩, .string ⟨#[]⟩, .string ⟨#[]⟩, .string ⟨#[]⟩, .string ⟨#[]⟩, .string ⟨#[]⟩], .bool false]) (by simp [results, Try.results32, go_sem, z0, z1, z2, z3, z4, z5]) rfl ?_
              rw [HO2.out]
              exact ⟨rfl, (((((HB5.out.setCell (p := ⟨W.heap.size, 0, none⟩) (Nat.le_refl _) _).setCell (p := ⟨W.heap.size, 1, none⟩) (Nat.le_refl _) _).setCell (p := ⟨W.heap.size, 2, none⟩) (Nat.le_refl _) _).setCell (p := ⟨W.heap.size, 3, none⟩) (Nat.le_refl _) _).setCell (p := ⟨W.heap.size, 4, none⟩) (Nat.le_refl _) _).setCell (p := ⟨W.heap.size, 5, none⟩) (Nat.le_refl _) _⟩
            · have HO4 : Hid (O = some (tn, (q0, q1, q2, q3, q4, q5))) := Lib.hid (by rw [HO3.out, if_pos hsh])
              rw [decide_eq_true hsh] at HIT
              clear HO3
              go_wp2_with (first
                | (go_at_fn g; refine (HOF.out _).mono ?_; rintro e w3 ⟨rfl, hb3'⟩; have HG3 := Lib.hid (only_below HG.out hb3'); have hlt3 : W.heap.size + 1 < w3.heap.size := Nat.lt_of_lt_of_le HLT.out HG3.out.size; have HX3 := Lib.hid (Blk.new w3 [strV q0, strV q1, strV q2, strV q3, strV q4, strV q5] 30); have HG4 := Lib.hid (only_below HG3.out ((Below.refl w3.heap.size w3).alloc (Nat.le_refl _) (.cells #[strV q0, strV q1, strV q2, strV q3, strV q4, strV q5] 30))); clear hb3')
                | (go_at_call 25; refine (HIT.out _).mono ?_; rintro e w5 ⟨rfl, hb5⟩; have HG5 := Lib.hid (only_below HG4.out hb5); have HX5 := Lib.hid (HX3.out.below hb5 HX3.out.lt); have HZ5 := Lib.hid (blk_grown HZ2.out HG5.out (by omega)); obtain ⟨⟨z0, z1, z2, z3, z4, z5⟩, f0, f1, f2, f3, f4, f5⟩ := zeros_at w5 W.heap.size 30 HZ5.out; have HB5 := Lib.hid (HB2.out.grown HG5.out HB2.out.size (fun i hi => by injection hi with hi; omega)); clear hb5))
              have hS5 : w5.drew.cell? ⟨bb, off + 1, none⟩ = some (.slice A1 tn.length c1) ∧ w5.drew.cell? ⟨w3.heap.size, 0, none⟩ = some (strV q0) ∧ w5.drew.cell? ⟨w3.heap.size, 1, none⟩ = some (strV q1) ∧ w5.drew.cell? ⟨w3.heap.size, 2, none⟩ = some (strV q2) ∧ w5.drew.cell? ⟨w3.heap.size, 3, none⟩ = some (strV q3) ∧ w5.drew.cell? ⟨w3.heap.size, 4, none⟩ = some (strV q4) ∧ w5.drew.cell? ⟨w3.heap.size, 5, none⟩ = some (strV q5) := ⟨(HPT.out _ (only_drew HG5.out)).1, HX5.out.cell (i := 0) (by simp), HX5.out.cell (i := 1) (by simp), HX5.out.cell (i := 2) (by simp), HX5.out.cell (i := 3) (by simp), HX5.out.cell (i := 4) (by simp), HX5.out.cell (i := 5) (by simp)⟩
              have x1 := (HPT.out _ (only_drew HG5.out)).2
              have hbb : bb ≠ W.heap.size := by
                rintro rfl
                obtain ⟨s, hs⟩ := strings_at HZ5.out (by intro v hv; simp at hv; exact ⟨_, hv⟩) (HPT.out _ HG5.out).1
                cases hs
              have hw3 : w3.heap.size ≠ W.heap.size := by omega
              have HE0 := Lib.hid (HPT.out _ HG5.out).1
              have HBB := Lib.hid hbb
              have HW3 := Lib.hid hw3
              clear hbb hw3
              go_region_held_law (fun w' => w'.cell? ⟨bb, off + 1, none⟩ = some (.slice A1 tn.length c1) ∧ w'.cell? ⟨w3.heap.size, 0, none⟩ = some (strV q0) ∧ w'.cell? ⟨w3.heap.size, 1, none⟩ = some (strV q1) ∧ w'.cell? ⟨w3.heap.size, 2, none⟩ = some (strV q2) ∧ w'.cell? ⟨w3.heap.size, 3, none⟩ = some (strV q3) ∧ w'.cell? ⟨w3.heap.size, 4, none⟩ = some (strV q4) ∧ w'.cell? ⟨w3.heap.size, 5, none⟩ = some (strV q5))
                (first | with_reducible assumption | exact ⟨(six_other _ HBB.out _ _ _ _ _ _ _).trans HE0.out, (six_other _ HW3.out _ _ _ _ _ _ _).trans (HX5.out.cell (i := 0) (by simp)), (six_other _ HW3.out _ _ _ _ _ _ _).trans (HX5.out.cell (i := 1) (by simp)), (six_other _ HW3.out _ _ _ _ _ _ _).trans (HX5.out.cell (i := 2) (by simp)), (six_other _ HW3.out _ _ _ _ _ _ _).trans (HX5.out.cell (i := 3) (by simp)), (six_other _ HW3.out _ _ _ _ _ _ _).trans (HX5.out.cell (i := 4) (by simp)), (six_other _ HW3.out _ _ _ _ _ _ _).trans (HX5.out.cell (i := 5) (by simp))⟩)
                (first | fail)
              have HK9 := Lib.hid (((((((HZ5.out.set 0 (strV q0)).set 1 (strV q1)).set 2 (strV q2)).set 3 (strV q3)).set 4 (strV q4)).set 5 (strV q5)).drew)
              have HB9 : Hid (Below W.heap.size W ((((((w5.setCell ⟨W.heap.size, 0, none⟩ (strV q0)).setCell ⟨W.heap.size, 1, none⟩ (strV q1)).setCell ⟨W.heap.size, 2, none⟩ (strV q2)).setCell ⟨W.heap.size, 3, none⟩ (strV q3)).setCell ⟨W.heap.size, 4, none⟩ (strV q4)).setCell ⟨W.heap.size, 5, none⟩ (strV q5)).drew) := Lib.hid (Below.drew ((((((HB5.out.setCell (p := ⟨W.heap.size, 0, none⟩) (Nat.le_refl _) _).setCell (p := ⟨W.heap.size, 1, none⟩) (Nat.le_refl _) _).setCell (p := ⟨W.heap.size, 2, none⟩) (Nat.le_refl _) _).setCell (p := ⟨W.heap.size, 3, none⟩) (Nat.le_refl _) _).setCell (p := ⟨W.heap.size, 4, none⟩) (Nat.le_refl _) _).setCell (p := ⟨W.heap.size, 5, none⟩) (Nat.le_refl _) _))
              clear z0 z1 z2 z3 z4 z5 f0 f1 f2 f3 f4 f5 hS5 HE0
              generalize ((((((w5.setCell ⟨W.heap.size, 0, none⟩ (strV q0)).setCell ⟨W.heap.size, 1, none⟩ (strV q1)).setCell ⟨W.heap.size, 2, none⟩ (strV q2)).setCell ⟨W.heap.size, 3, none⟩ (strV q3)).setCell ⟨W.heap.size, 4, none⟩ (strV q4)).setCell ⟨W.heap.size, 5, none⟩ (strV q5)).drew = w9 at *
              simp only [List.set_cons_zero, List.set_cons_succ] at HK9
              have z0 := HK9.out.cell (i := 0) (by simp)
              have z1 := HK9.out.cell (i := 1) (by simp)
              have z2 := HK9.out.cell (i := 2) (by simp)
              have z3 := HK9.out.cell (i := 3) (by simp)
              have z4 := HK9.out.cell (i := 4) (by simp)
              have z5 := HK9.out.cell (i := 5) (by simp)
              simp only [List.getElem_cons_succ, List.getElem_cons_zero] at z0 z1 z2 z3 z4 z5
              clear HX5 HZ5 HG5 HG4 HG3 HX3 HPT
              go_wp2_with fail
              refine bodyPost_ret (v := .tuple #[strV tn, .agg #[strV q0, strV q1, strV q2, strV q3, strV q4, strV q5], .bool true]) (by simp [results, Try.results32, go_sem, z0, z1, z2, z3, z4, z5]) rfl ?_
              rw [HO4.out]
              exact ⟨rfl, HB9.out⟩
end Go.Proofs.Ytehabjiacgibpaa
namespace Go.Proofs.Ytehabjiacgibpaa
open Go.RowKit
def mkF (p0 p1 p2 p3 p4 p5 : Txt) : Tup := (p0, p1, p2, p3, p4, p5)
def mkR (p0 p1 p2 p3 p4 p5 : Txt) : Tup := (p3, p4, p5, p0, p1, p2)
set_option maxRecDepth 100000 in
theorem enter_readF (args : Array Value) (w : World) : (callFunc 33 args).run Try.prog w = .ok (.enter 33 args) w := rfl
set_option maxRecDepth 100000 in
theorem enter_readR (args : Array Value) (w : World) : (callFunc 37 args).run Try.prog w = .ok (.enter 37 args) w := rfl
set_option maxRecDepth 100000 in
set_option maxHeartbeats 2000000 in
theorem pread_any (b : List UInt8) (A : Option Addr) (c : Nat) (W : World) (hs : Seen W A b) (hb : b.length ≤ 1000000) :
    Calls Try.prog 16 #[.slice A b.length c] W (ReadP W (readO [102] mkF b)) := by
  have hb0 := (Below.refl W.heap.size W).alloc (Nat.le_refl _) (.cells #[.string ⟨#[]⟩, .string ⟨#[]⟩, .string ⟨#[]⟩, .string ⟨#[]⟩, .string ⟨#[]⟩, .string ⟨#[]⟩] 30)
  have HB0 := Lib.hid hb0
  have HZ := Lib.hid (Blk.new W [.string ⟨#[]⟩, .string ⟨#[]⟩, .string ⟨#[]⟩, .string ⟨#[]⟩, .string ⟨#[]⟩, .string ⟨#[]⟩] 30)
  have H := Lib.hid (read_any [102] 33 mkF enter_readF (fun p0 p1 p2 p3 p4 p5 w => readF_any p0 p1 p2 p3 p4 p5 w) (fun p0 p1 p2 p3 p4 p5 x hx => by simp only [six, mkF, List.mem_cons, List.not_mem_nil, or_false] at hx ⊢; rcases hx with rfl | rfl | rfl | rfl | rfl | rfl <;> simp) b A c _ (hs.below hb0) hb)
  unfold ReadP at H ⊢
  obtain ⟨tn, htn⟩ : ∃ tn, tn = ((readO [102] mkF b).getD noTup).1 := ⟨_, rfl⟩
  obtain ⟨q0, q1, q2, q3, q4, q5, hq, _⟩ := six_of ((readO [102] mkF b).getD noTup).2
  rw [← htn, hq] at H ⊢
  generalize (readO [102] mkF b).isSome = ok at *
  clear htn hq hs hb0
  go_enter Try.func16, Try.ntmps16
  go_wp2_with (go_at_call 32; refine H.out.mono ?_; rintro e w2 ⟨rfl, hb2⟩; have HB2 := Lib.hid (HB0.out.trans (hb2.mono HB0.out.size)); have HZ2 := Lib.hid (HZ.out.below hb2 HZ.out.lt); obtain ⟨⟨z0, z1, z2, z3, z4, z5⟩, f0, f1, f2, f3, f4, f5⟩ := zeros_at w2 W.heap.size 30 HZ2.out; clear hb2)
  refine bodyPost_ret (v := .tuple #[strV tn, .agg #[strV q0, strV q1, strV q2, strV q3, strV q4, strV q5], .bool ok]) (by simp [results, Try.results16, go_sem, z0, z1, z2, z3, z4, z5]) rfl ?_
  exact ⟨rfl, (((((HB2.out.setCell (p := ⟨W.heap.size, 0, none⟩) (Nat.le_refl _) _).setCell (p := ⟨W.heap.size, 1, none⟩) (Nat.le_refl _) _).setCell (p := ⟨W.heap.size, 2, none⟩) (Nat.le_refl _) _).setCell (p := ⟨W.heap.size, 3, none⟩) (Nat.le_refl _) _).setCell (p := ⟨W.heap.size, 4, none⟩) (Nat.le_refl _) _).setCell (p := ⟨W.heap.size, 5, none⟩) (Nat.le_refl _) _⟩
set_option maxRecDepth 100000 in
set_option maxHeartbeats 2000000 in
theorem preadBack_any (b : List UInt8) (A : Option Addr) (c : Nat) (W : World) (hs : Seen W A b) (hb : b.length ≤ 1000000) :
    Calls Try.prog 18 #[.slice A b.length c] W (ReadP W (readO [114] mkR b)) := by
  have hb0 := (Below.refl W.heap.size W).alloc (Nat.le_refl _) (.cells #[.string ⟨#[]⟩, .string ⟨#[]⟩, .string ⟨#[]⟩, .string ⟨#[]⟩, .string ⟨#[]⟩, .string ⟨#[]⟩] 30)
  have HB0 := Lib.hid hb0
  have HZ := Lib.hid (Blk.new W [.string ⟨#[]⟩, .string ⟨#[]⟩, .string ⟨#[]⟩, .string ⟨#[]⟩, .string ⟨#[]⟩, .string ⟨#[]⟩] 30)
  have H := Lib.hid (read_any [114] 37 mkR enter_readR (fun p0 p1 p2 p3 p4 p5 w => readR_any p0 p1 p2 p3 p4 p5 w) (fun p0 p1 p2 p3 p4 p5 x hx => by simp only [six, mkR, List.mem_cons, List.not_mem_nil, or_false] at hx ⊢; rcases hx with rfl | rfl | rfl | rfl | rfl | rfl <;> simp) b A c _ (hs.below hb0) hb)
  unfold ReadP at H ⊢
  obtain ⟨tn, htn⟩ : ∃ tn, tn = ((readO [114] mkR b).getD noTup).1 := ⟨_, rfl⟩
  obtain ⟨q0, q1, q2, q3, q4, q5, hq, _⟩ := six_of ((readO [114] mkR b).getD noTup).2
  rw [← htn, hq] at H ⊢
  generalize (readO [114] mkR b).isSome = ok at *
  clear htn hq hs hb0
  go_enter Try.func18, Try.ntmps18
  go_wp2_with (go_at_call 32; refine H.out.mono ?_; rintro e w2 ⟨rfl, hb2⟩; have HB2 := Lib.hid (HB0.out.trans (hb2.mono HB0.out.size)); have HZ2 := Lib.hid (HZ.out.below hb2 HZ.out.lt); obtain ⟨⟨z0, z1, z2, z3, z4, z5⟩, f0, f1, f2, f3, f4, f5⟩ := zeros_at w2 W.heap.size 30 HZ2.out; clear hb2)
  refine bodyPost_ret (v := .tuple #[strV tn, .agg #[strV q0, strV q1, strV q2, strV q3, strV q4, strV q5], .bool ok]) (by simp [results, Try.results18, go_sem, z0, z1, z2, z3, z4, z5]) rfl ?_
  exact ⟨rfl, (((((HB2.out.setCell (p := ⟨W.heap.size, 0, none⟩) (Nat.le_refl _) _).setCell (p := ⟨W.heap.size, 1, none⟩) (Nat.le_refl _) _).setCell (p := ⟨W.heap.size, 2, none⟩) (Nat.le_refl _) _).setCell (p := ⟨W.heap.size, 3, none⟩) (Nat.le_refl _) _).setCell (p := ⟨W.heap.size, 4, none⟩) (Nat.le_refl _) _).setCell (p := ⟨W.heap.size, 5, none⟩) (Nat.le_refl _) _⟩
end Go.Proofs.Ytehabjiacgibpaa
namespace Go.Proofs.Ytehabjiacgibpaa
open Go.RowKit
theorem less_nil (a : List UInt8) : Op.bytesLess a [] = false := by cases a <;> rfl
theorem less_start (c : UInt8) (r : List UInt8) : Op.bytesLess [] (c :: r) = true := rfl
theorem less_cons (x y : UInt8) (a b : List UInt8) : Op.bytesLess (x :: a) (y :: b) = (decide (x < y) || (x == y && Op.bytesLess a b)) := rfl
theorem less_same (x : UInt8) (a b : List UInt8) : Op.bytesLess (x :: a) (x :: b) = Op.bytesLess a b := by
  rw [less_cons]; simp [UInt8.lt_irrefl]
theorem less_append (c a b : List UInt8) : Op.bytesLess (c ++ a) (c ++ b) = Op.bytesLess a b := by
  induction c with
  | nil => rfl
  | cons x c ih => rw [List.cons_append, List.cons_append, less_same, ih]
theorem less_first {x y : UInt8} (h : x ≠ y) (a b : List UInt8) : Op.bytesLess (x :: a) (y :: b) = decide (x < y) := by
  rw [less_cons]; simp [h]
end Go.Proofs.Ytehabjiacgibpaa
namespace Go.Proofs.Ytehabjiacgibpaa
def lessL : List (List UInt8) → List (List UInt8) → Bool
  | _, [] => false
  | [], _ :: _ => true
  | x :: a, y :: b => if x = y then lessL a b else Op.bytesLess x y
theorem pos_of_ne {c : UInt8} (h : c ≠ 0) : 0 < c := by
  rw [UInt8.lt_iff_toNat_lt]
  have : c.toNat ≠ 0 := fun e => h (UInt8.toNat_inj.1 e)
  show 0 < c.toNat
  omega
theorem less_part (x y r s : List UInt8) (h : x ≠ y) : Op.bytesLess (escL x ++ (0 :: 1 :: r)) (escL y ++ (0 :: 1 :: s)) = Op.bytesLess x y := by
  induction x generalizing y with
  | nil =>
    cases y with
    | nil => exact absurd rfl h
    | cons d y =>
      rw [escL_cons, less_start]
      by_cases hd : d = 0
      · subst hd
        rw [if_pos rfl]
        show Op.bytesLess (0 :: 1 :: r) (0 :: 255 :: (escL y ++ _)) = true
        rw [less_same, less_cons]
        rfl
      · rw [if_neg hd]
        show Op.bytesLess (0 :: 1 :: r) (d :: (escL y ++ _)) = true
        rw [less_first (fun e => hd e.symm)]
        exact decide_eq_true (pos_of_ne hd)
  | cons c x ih =>
    cases y with
    | nil =>
      rw [escL_cons, less_nil]
      by_cases hc : c = 0
      · subst hc
        rw [if_pos rfl]
        show Op.bytesLess (0 :: 255 :: (escL x ++ _)) (0 :: 1 :: s) = false
        rw [less_same, less_first (by decide)]
        rfl
      · rw [if_neg hc]
        show Op.bytesLess (c :: (escL x ++ _)) (0 :: 1 :: s) = false
        rw [less_first hc]
        exact decide_eq_false (by rw [UInt8.lt_iff_toNat_lt]; exact Nat.not_lt_zero _)
    | cons d y =>
      rw [escL_cons, escL_cons]
      by_cases hcd : c = d
      · subst hcd
        rw [less_same, List.append_assoc, List.append_assoc, less_append]
        exact ih y (fun e => h (by rw [e]))
      · rw [less_first hcd]
        by_cases hc : c = 0
        · subst hc
          rw [if_pos rfl, if_neg (fun e => hcd e.symm)]
          show Op.bytesLess (0 :: 255 :: (escL x ++ _)) (d :: (escL y ++ _)) = _
          rw [less_first hcd]
        · rw [if_neg hc]
          by_cases hd : d = 0
          · subst hd
            rw [if_pos rfl]
            show Op.bytesLess (c :: (escL x ++ _)) (0 :: 255 :: (escL y ++ _)) = _
            rw [less_first hcd]
          · rw [if_neg hd]
            show Op.bytesLess (c :: (escL x ++ _)) (d :: (escL y ++ _)) = _
            rw [less_first hcd]
theorem less_enc (a b : List (List UInt8)) : Op.bytesLess (encL a) (encL b) = lessL a b := by
  induction a generalizing b with
  | nil =>
    cases b with
    | nil => rfl
    | cons y b =>
      rw [encL_cons, partL]
      cases hy : escL y with
      | nil => rfl
      | cons c r => rfl
  | cons x a ih =>
    cases b with
    | nil => rw [show encL [] = [] from rfl, less_nil]; rfl
    | cons y b =>
      rw [encL_cons, encL_cons, lessL]
      by_cases h : x = y
      · subst h
        rw [if_pos rfl, less_append, ih]
      · rw [if_neg h, partL, partL, List.append_assoc, List.append_assoc]
        exact less_part x y _ _ h
end Go.Proofs.Ytehabjiacgibpaa
namespace Go.Proofs.Ytehabjiacgibpaa
open Go.RowKit
theorem six_le {a b r d f g : Txt} (m1 : a.length ≤ 9223372036854775807) (m2 : b.length ≤ 9223372036854775807) (m3 : r.length ≤ 9223372036854775807) (m4 : d.length ≤ 9223372036854775807) (m5 : f.length ≤ 9223372036854775807) (m6 : g.length ≤ 9223372036854775807) :
    ∀ x ∈ six (a, b, r, d, f, g), x.length ≤ 9223372036854775807 := by
  intro x hx
  simp only [six, List.mem_cons, List.not_mem_nil, or_false] at hx
  rcases hx with rfl | rfl | rfl | rfl | rfl | rfl <;> assumption
theorem tup_eql (a b c d e f a' b' c' d' e' f' : Txt) (w : World) : (binOp .eql 30 (.agg #[strV a, strV b, strV c, strV d, strV e, strV f]) (.agg #[strV a', strV b', strV c', strV d', strV e', strV f'])).run Try.prog w = .ok (.bool (decide ((a, b, c, d, e, f) = (a', b', c', d', e', f')))) w := by
  simp [go_sem]
  by_cases h1 : a = a'
  · by_cases h2 : b = b'
    · by_cases h3 : c = c'
      · by_cases h4 : d = d'
        · by_cases h5 : e = e'
          · by_cases h6 : f = f' <;> simp [h1, h2, h3, h4, h5, h6]
          · simp [h1, h2, h3, h4, h5]
        · simp [h1, h2, h3, h4]
      · simp [h1, h2, h3]
    · simp [h1, h2]
  · simp [h1]
theorem key_read {tn : Txt} {t : Tup} (h : showT t ≠ []) : readO [102] mkF (keyT tn t) = some (tn, t) := by
  obtain ⟨a, b, c, d, e, f⟩ := t
  unfold readO keyT
  rw [if_neg h, dec_enc]
  simp only [six, mkF]
  rw [if_pos ⟨trivial, h⟩]
theorem back_read {tn : Txt} {t : Tup} (h : showT t ≠ []) : readO [114] mkR (backT tn t) = some (tn, t) := by
  obtain ⟨a, b, c, d, e, f⟩ := t
  unfold readO backT
  rw [if_neg h, dec_enc]
  simp only [backS, mkR]
  rw [if_pos ⟨trivial, h⟩]
theorem less_six : ∀ (X Y : List Txt), X.length = Y.length → lessL X Y = lessF X Y
  | [], [], _ => rfl
  | [], _ :: _, h => by simp at h
  | _ :: _, [], h => by simp at h
  | x :: xs, y :: ys, h => by
    rw [lessL, lessF]
    split
    · exact less_six xs ys (by simpa using h)
    · rfl
theorem key_less {tn : Txt} {t u : Tup} (h : showT t ≠ []) (h' : showT u ≠ []) : Op.bytesLess (keyT tn t) (keyT tn u) = lessF (six t) (six u) := by
  unfold keyT
  rw [if_neg h, if_neg h', less_enc, less_six _ _ (by simp [six]), lessF, if_pos rfl, lessF, if_pos rfl]
theorem enc_inj {a b : List Txt} (h : encL a = encL b) : a = b := by
  have h1 := dec_enc a
  rw [h, dec_enc] at h1
  injection h1 with h1
  exact h1.symm
theorem key_eq {tn tn' : Txt} {t u : Tup} (h : showT t ≠ []) (h' : showT u ≠ []) : keyT tn t = keyT tn' u ↔ tn = tn' ∧ t = u := by
  unfold keyT
  rw [if_neg h, if_neg h']
  constructor
  · intro e
    have e := enc_inj e
    simp only [List.cons.injEq, true_and] at e
    refine ⟨e.1, ?_⟩
    have e := e.2
    obtain ⟨a, b, c, d, x, f⟩ := t
    obtain ⟨a', b', c', d', x', f'⟩ := u
    simp only [six, List.cons.injEq, and_true] at e
    obtain ⟨rfl, rfl, rfl, rfl, rfl, rfl⟩ := e
    rfl
  · rintro ⟨rfl, rfl⟩; rfl
theorem key_most {tn : Txt} {t : Tup} (h : tn.length ≤ 100) : (keyT tn t).length ≤ 2000 ∧ (backT tn t).length ≤ 2000 := by
  have key : ∀ (k : UInt8) (ts : List Txt), ts.length = 6 → (∀ x ∈ ts, x.length ≤ 24) → (encL ([k] :: tn :: ts)).length ≤ 2000 := fun k ts hl ht => by
    have := length_encL (m := 100) ([k] :: tn :: ts) (fun x hx => by
      rcases List.mem_cons.1 hx with rfl | hx
      · simp
      rcases List.mem_cons.1 hx with rfl | hx
      · exact h
      · exact Nat.le_trans (ht x hx) (by decide))
    simp only [List.length_cons, hl] at this
    omega
  unfold keyT backT
  by_cases h0 : showT t = []
  · rw [if_pos h0, if_pos h0]; simp
  · rw [if_neg h0, if_neg h0]
    exact ⟨key 102 (six t) rfl (show_len h0), key 114 (backS t) rfl (back_len h0)⟩
def BytesN (W : World) (L : List UInt8) (m : Nat) (e : Ending) (w' : World) : Prop := ∃ (A : Option Addr) (c : Nat), e = .returned (.slice A m c) ∧ Seen w' A L ∧ Below W.heap.size W w'
theorem BytesP.n {W : World} {L : List UInt8} {e : Ending} {w' : World} (h : BytesP W L e w') : BytesN W L L.length e w' := by
  obtain ⟨A, n, c, rfl, rfl, hs, hb⟩ := h
  exact ⟨A, c, rfl, hs, hb⟩
theorem as_txt (s : ByteArray) : ∃ T : Txt, s = ⟨T.toArray⟩ ∧ T.length = s.size := ⟨s.data.toList, by rw [Array.toArray_toList], Array.length_toList⟩
def BoxT (g : Nat) (q0 q1 q2 q3 q4 q5 : Txt) (w : World) : Prop := w.cell? ⟨g, 0, none⟩ = some (strV q0) ∧ w.cell? ⟨g, 1, none⟩ = some (strV q1) ∧ w.cell? ⟨g, 2, none⟩ = some (strV q2) ∧ w.cell? ⟨g, 3, none⟩ = some (strV q3) ∧ w.cell? ⟨g, 4, none⟩ = some (strV q4) ∧ w.cell? ⟨g, 5, none⟩ = some (strV q5)
theorem box_of {w : World} {g : Nat} {q0 q1 q2 q3 q4 q5 : Txt} {t : TypeId} (h2 : Blk w g [strV q0, strV q1, strV q2, strV q3, strV q4, strV q5] t) : BoxT g q0 q1 q2 q3 q4 q5 w :=
  ⟨h2.cell (i := 0) (by simp), h2.cell (i := 1) (by simp), h2.cell (i := 2) (by simp), h2.cell (i := 3) (by simp), h2.cell (i := 4) (by simp), h2.cell (i := 5) (by simp)⟩
end Go.Proofs.Ytehabjiacgibpaa
