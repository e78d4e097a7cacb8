/-
  The tokens of a text (conciergeref11's Tokens). Condition: it has at most 5,000 bytes.
  The document's reader of tokens, as it lies, and its small methods (next, fail, is, must, name). Conditions: it is there, at a token.
-/
import Derived.Test.YtehabjiacgibpaaGreatCLpW
import Derived.Test.YtehabjiacgibpaaGreatCNmSub
import Derived.Test.YtehabjiacgibpaaGreatCTuE
import Derived.Deep.RegionHeldLaw
namespace Go.Proofs.YtehabjiacgibpaaGreat
open Go.RowKit
def tkC (t : Tk) : List Value := [strV t.1, .int .i64 (t.2.1 : Int), .int .i64 (t.2.2 : Int)]
theorem rowTok : ∃ i z, RowT Tryz.prog 57 75 3 32 i z := by
  have hf : (Tryz.prog.info? 75).map (fun i => (i.zero, i.size, i.bytes)) = some (some (.agg #[.string ⟨#[]⟩, .int .i64 0, .int .i64 0]), 3, 32) := by kernel_rfl
  obtain ⟨i, hi, hz, hs, hb⟩ := info_parts hf
  exact ⟨i, _, Tryz.underlying57, hi, hz, hs, hb, rfl⟩
theorem tk_one (t : Tk) : ∀ u ∈ tkC t, u.oneCell' = true := by
  intro u hu
  simp only [tkC, List.mem_cons, List.not_mem_nil, or_false] at hu
  rcases hu with rfl | rfl | rfl <;> rfl
theorem drop_at (s : ByteArray) (k : Nat) (h : k < s.size) : s.data.toList.drop k = s[k] :: s.data.toList.drop (k + 1) :=
  List.drop_eq_getElem_cons (by rw [size_list]; exact h)
set_option maxHeartbeats 2000000 in
theorem tokens_any (s : ByteArray) (w : World) (hm : s.size ≤ 5000) :
    Calls Tryz.prog 29 #[.string s] w fun e w' => ∃ A n c, e = .returned (.slice A n c) ∧ n = (tokL s.data.toList 1 1).length ∧ n ≤ 5001 ∧
      w'.ownsRow w.heap.size 75 3 (.slice A n c) n ((tokL s.data.toList 1 1).map tkC).flatten ∧ Below w.heap.size w w' := by
  obtain ⟨V, hV⟩ : ∃ V, V = tokL s.data.toList 1 1 := ⟨_, rfl⟩
  rw [← hV]
  have HV := Lib.hid hV
  obtain ⟨i0, z0, hR⟩ := rowTok
  have HR := Lib.hid hR
  clear hV hR
  go_enter Tryz.func29, Tryz.ntmps29
  go_wp2_with fail
  go_loopw [3, 4, 5, 6] (fun so sl sc i wr => ∃ (k line col n c : Nat) (A : Option Addr) (ts : List Tk), k ≤ s.size ∧ i = .int .i64 k ∧ sl = .int .i64 line ∧ sc = .int .i64 col ∧ so = .slice A n c ∧ (line ≤ k + 1 ∧ col ≤ k + 1 ∧ n ≤ k) ∧ ts.length = n ∧
      Hid (ts ++ tokL (s.data.toList.drop k) line col = V) ∧ Hid (wr.ownsRow w.heap.size 75 3 (.slice A n c) n (ts.map tkC).flatten) ∧ Hid (Below w.heap.size w wr)) (fun _ _ _ i _ => s.size - (intOf i).toNat)
  case atStart => exact ⟨0, 1, 1, 0, 0, none, [], by omega, rfl, rfl, rfl, rfl, by omega, rfl, Lib.hid HV.out.symm, Lib.hid (World.ownsRow_nil _ _ _ _), Lib.hid (Below.refl _ _)⟩
  case round =>
    obtain ⟨k, line, col, n, c, A, ts, hk, rfl, rfl, rfl, rfl, ⟨b1, b2, b3⟩, hlen, HQ, HO, BW⟩ := hrel
    by_cases hlt : k < s.size
    · have hx := s[k].toNat_lt
      have HD : Hid (tokL (s.data.toList.drop k) line col = tokL (s[k] :: s.data.toList.drop (k + 1)) line col) := Lib.hid (by rw [drop_at s k hlt])
      by_cases h10 : s[k].toNat = 10
      · have e10 : (s[k].toNat : Int) = 10 := by omega
        have HN : Hid (ts ++ tokL (s.data.toList.drop (k + 1)) (line + 1) 1 = V) := by
          show _ = _
          rw [← HQ.out, HD.out, tokL, if_pos (UInt8.toNat_inj.1 (by rw [h10]; rfl))]
        clear h10
        go_wp2_with fail
        go_roundw
        case rel => exact ⟨k + 1, line + 1, 1, n, c, A, ts, by omega, by go_num, by go_num, rfl, rfl, by omega, hlen, HN, HO, BW⟩
        case measure => simp [intOf]; omega
      · by_cases h32 : s[k].toNat = 32 ∨ s[k].toNat = 9
        · have HN : Hid (ts ++ tokL (s.data.toList.drop (k + 1)) line (col + 1) = V) := by
            show _ = _
            rw [← HQ.out, HD.out, tokL, if_neg (fun e => h10 (by rw [e]; rfl)), if_pos (h32.elim (fun h => .inl (UInt8.toNat_inj.1 (by rw [h]; rfl))) (fun h => .inr (UInt8.toNat_inj.1 (by rw [h]; rfl))))]
          clear h10
          rcases h32 with h | h
          all_goals have e32 : (s[k].toNat : Int) = (s[k].toNat : Int) := rfl
          · have e1 : (s[k].toNat : Int) = 32 := by omega
            clear h e32
            go_wp2_with fail
            go_roundw
            case rel => exact ⟨k + 1, line, col + 1, n, c, A, ts, by omega, by go_num, rfl, by go_num, rfl, by omega, hlen, HN, HO, BW⟩
            case measure => simp [intOf]; omega
          · have e1 : (s[k].toNat : Int) = 9 := by omega
            clear h e32
            go_wp2_with fail
            go_roundw
            case rel => exact ⟨k + 1, line, col + 1, n, c, A, ts, by omega, by go_num, rfl, by go_num, rfl, by omega, hlen, HN, HO, BW⟩
            case measure => simp [intOf]; omega
        · have a1 : ¬ (s[k].toNat : Int) = 10 := by omega
          have a2 : ¬ (s[k].toNat : Int) = 32 := by omega
          have a3 : ¬ (s[k].toNat : Int) = 9 := by omega
          have d1 : ((s[k].toNat : Int) == 10) = false := beq_eq_false_iff_ne.2 a1
          have d2 : ((s[k].toNat : Int) == 32) = false := beq_eq_false_iff_ne.2 a2
          have d3 : ((s[k].toNat : Int) == 9) = false := beq_eq_false_iff_ne.2 a3
          have c1 : (0 : Int) ≤ (k : Int) := by omega
          have c2 : (k : Int) ≤ (s.size : Int) := by omega
          obtain ⟨n0, hn0⟩ : ∃ n0, n0 = wordL (s.data.toList.drop k) := ⟨_, rfl⟩
          have hext : (s.extract k s.size).data.toList = s.data.toList.drop k := by
            rw [extract_list, List.take_of_length_le (by rw [size_list]; omega)]
          have hesz : (s.extract k s.size).size ≤ 9223372036854775807 := by rw [← size_list, hext, List.length_drop, size_list]; omega
          have hle := wordL_le (s.data.toList.drop k)
          rw [← hn0, List.length_drop, size_list] at hle
          have HW : Hid (∀ W, Calls Tryz.prog 50 #[.string (s.extract k s.size)] W fun e w' => e = .returned (.int .i64 n0) ∧ w' = W) := Lib.hid (fun W => by
            have h := word_of_any (s.extract k s.size) W hesz
            rw [hext, ← hn0] at h
            exact h)
          have HSG := Lib.hid (fun W => sign_any s[k] W)
          have c3 : (k : Int) ≤ (k : Int) + (n0 : Int) := by omega
          have c4 : (k : Int) + (n0 : Int) ≤ (s.size : Int) := by omega
          have HTok : Hid (∀ (h : ¬ s[k] = 10) (h2 : ¬ (s[k] = 32 ∨ s[k] = 9)), tokL (s.data.toList.drop k) line col = if n0 = 0 then (if signT s[k] = [63] then [([63], line, col)] else (signT s[k], line, col) :: tokL (s.data.toList.drop (k + 1)) line (col + 1))
              else ((s.data.toList.drop k).take n0, line, col) :: tokL (s.data.toList.drop (k + n0)) line (col + n0)) := Lib.hid (fun h h2 => by
            rw [drop_at s k hlt] at hn0
            rw [drop_at s k hlt, tokL, if_neg h, if_neg h2, ← hn0]
            by_cases h3 : n0 = 0
            · rw [dif_pos h3, if_pos h3]
            · rw [dif_neg h3, if_neg h3]
              congr 2
              rw [← drop_at s k hlt, List.drop_drop])
          have HT2 := Lib.hid (HTok.out (fun e => h10 (by rw [e]; rfl)) (fun e => h32 (e.elim (fun e => .inl (by rw [e]; rfl)) (fun e => .inr (by rw [e]; rfl)))))
          have HN0 := Lib.hid hn0
          clear hext hesz h10 h32 HD HTok hn0
          have hn5 : n ≤ 1000000 := by omega
          by_cases h3 : n0 = 0
          · subst h3
            have HT3 : Hid (tokL (s.data.toList.drop k) line col = if signT s[k] = [63] then [([63], line, col)] else (signT s[k], line, col) :: tokL (s.data.toList.drop (k + 1)) line (col + 1)) := by
              show _ = _
              rw [HT2.out, if_pos rfl]
            obtain ⟨g, hg⟩ : ∃ g, signT s[k] = g := ⟨_, rfl⟩
            rw [hg] at HSG HT3
            clear hg HT2
            by_cases h63 : g = [63]
            · have HN : Hid (V = ts ++ [([63], line, col)]) := by
                show _ = _
                rw [← HQ.out, HT3.out, if_pos h63]
              subst h63
              go_wp2_with fail
              with_reducible refine (HW.out _).mono ?_
              rintro e w2 ⟨rfl, hw2⟩
              obtain rfl := hw2.symm
              go_wp2_with fail
              with_reducible refine (HSG.out _).mono ?_
              rintro e w3 ⟨rfl, hw3⟩
              obtain rfl := hw3.symm
              go_wp2_with (at_builtin; refine wpList_append_struct wr rfl (.tmp 49) (.tmp 54) 57 rfl HR.out (by decide) (by decide) w A n c _ [strV [63], .int .i64 (line : Int), .int .i64 (col : Int)] rfl rfl (by simp [Act.eval]) BW.out HO.out (by intro u hu; simp only [List.mem_cons, List.not_mem_nil, or_false] at hu; rcases hu with rfl | rfl | rfl <;> rfl) hn5 ?_; intro A' c' w' hown hbel _ _)
              go_ret
              refine ⟨A', n + 1, c', rfl, ?_, by omega, ?_, hbel⟩
              · rw [HN.out, List.length_append, hlen]; rfl
              · rw [HN.out, List.map_append, List.flatten_append]; simpa [tkC] using hown
            · have hq : (g == [63]) = false := beq_eq_false_iff_ne.2 h63
              have HN : Hid ((ts ++ [(g, line, col)]) ++ tokL (s.data.toList.drop (k + 1)) line (col + 1) = V) := by
                show _ = _
                rw [← HQ.out, HT3.out, if_neg h63]; simp
              clear h63
              go_wp2_with fail
              with_reducible refine (HW.out _).mono ?_
              rintro e w2 ⟨rfl, hw2⟩
              obtain rfl := hw2.symm
              go_wp2_with fail
              with_reducible refine (HSG.out _).mono ?_
              rintro e w3 ⟨rfl, hw3⟩
              obtain rfl := hw3.symm
              go_wp2_with (at_builtin; refine wpList_append_struct wr rfl (.tmp 49) (.tmp 54) 57 rfl HR.out (by decide) (by decide) w A n c _ [strV g, .int .i64 (line : Int), .int .i64 (col : Int)] rfl rfl (by simp [Act.eval]) BW.out HO.out (by intro u hu; simp only [List.mem_cons, List.not_mem_nil, or_false] at hu; rcases hu with rfl | rfl | rfl <;> rfl) hn5 ?_; intro A' c' w' hown hbel _ _)
              go_roundw
              case rel => exact ⟨k + 1, line, col + 1, n + 1, c', A', ts ++ [(g, line, col)], by omega, by go_num, rfl, by go_num, rfl, by omega, by rw [List.length_append, hlen]; rfl, HN, Lib.hid (by rw [List.map_append, List.flatten_append]; simpa [tkC] using hown), Lib.hid hbel⟩
              case measure => simp [intOf]; omega
          · have hd : ((n0 : Int) == 0) = false := beq_eq_false_iff_ne.2 (by omega)
            have HX : Hid (s.extract k (k + n0) = ⟨((s.data.toList.drop k).take n0).toArray⟩) := Lib.hid (by
              rw [extract_list, List.take_drop])
            have h63 : ((s.extract k (k + n0)).toList == [63]) = false := by
              rw [HX.out, toList_data]
              refine beq_eq_false_iff_ne.2 (fun e => ?_)
              have h1 : s.data.toList.drop k = s[k] :: s.data.toList.drop (k + 1) := drop_at s k hlt
              have h2 := HN0.out
              rw [h1, wordL] at h2
              by_cases hl : lowB s[k] = true
              · have e2 : ((s.data.toList.drop k).take n0).head? = some 63 := by
                  have e3 : (s.data.toList.drop k).take n0 = [63] := e
                  rw [e3]; rfl
                obtain ⟨m, hm0⟩ : ∃ m, n0 = m + 1 := ⟨n0 - 1, by omega⟩
                rw [h1, hm0, List.take_succ_cons] at e2
                simp only [List.head?_cons, Option.some.injEq] at e2
                rw [e2] at hl; revert hl; decide
              · rw [if_neg hl] at h2; exact h3 h2
            have HN : Hid ((ts ++ [((s.data.toList.drop k).take n0, line, col)]) ++ tokL (s.data.toList.drop (k + n0)) line (col + n0) = V) := by
              show _ = _
              rw [← HQ.out, HT2.out, if_neg h3]; simp
            clear HT2
            go_wp2_with fail
            with_reducible refine (HW.out _).mono ?_
            rintro e w2 ⟨rfl, hw2⟩
            obtain rfl := hw2.symm
            go_wp2_with (at_builtin; refine wpList_append_struct wr rfl (.tmp 49) (.tmp 54) 57 rfl HR.out (by decide) (by decide) w A n c _ [.string (s.extract k (k + n0)), .int .i64 (line : Int), .int .i64 (col : Int)] rfl rfl (by simp [Act.eval]) BW.out HO.out (by intro u hu; simp only [List.mem_cons, List.not_mem_nil, or_false] at hu; rcases hu with rfl | rfl | rfl <;> rfl) hn5 ?_; intro A' c' w' hown hbel _ _)
            go_roundw
            case rel => exact ⟨k + n0, line, col + n0, n + 1, c', A', ts ++ [((s.data.toList.drop k).take n0, line, col)], by omega, by go_num, rfl, by go_num, rfl, by omega, by rw [List.length_append, hlen]; rfl, HN, Lib.hid (by rw [List.map_append, List.flatten_append]; rw [HX.out] at hown; simpa [tkC] using hown), Lib.hid hbel⟩
            case measure => simp [intOf]; omega
    · have HN : Hid (V = ts ++ [([], line, col)]) := by
        show _ = _
        rw [← HQ.out, List.drop_of_length_le (by rw [size_list]; omega), tokL]
      have hs : s.size ≤ 5000 := hm
      have hn5 : n ≤ 1000000 := by omega
      go_wp2_with (at_builtin; refine wpList_append_struct wr rfl (.tmp 65) (.tmp 69) 57 rfl HR.out (by decide) (by decide) w A n c _ (tkC ([], line, col)) rfl rfl (by simp [Act.eval]) BW.out HO.out (tk_one _) hn5 ?_; intro A' c' w' hown hbel _ _)
      go_ret
      refine ⟨A', n + 1, c', rfl, ?_, by omega, ?_, hbel⟩
      · rw [HN.out, List.length_append, hlen]; rfl
      · rw [HN.out, List.map_append, List.flatten_append]; simpa using hown
end Go.Proofs.YtehabjiacgibpaaGreat
namespace Go.Proofs.YtehabjiacgibpaaGreat
open Go.RowKit
def TkR (_ : World) (_ : Nat → Prop) (t : Tk) (cs : List Value) : Prop := cs = tkC t ∧ small t.1 ∧ t.2.1 ≤ 9223372036854775807 ∧ t.2.2 ≤ 9223372036854775807
abbrev onG (g : Nat) : Nat → Prop := fun b => b = g
def Rd (W : World) (g : Nat) (Q : Option Addr × Nat) (L : List Tk) (k op : Nat) (d : Dg) : Prop :=
  Blk W g [.slice Q.1 L.length Q.2, .int .i64 (k : Int), .int .i64 (op : Int), .int .i64 (d.1 : Int), .int .i64 (d.2.1 : Int), .int .i64 (d.2.2 : Int)] 60 ∧ RowAt 3 TkR W (onG g) Q.1 L ∧ L.length ≤ 1000000
theorem Rd.below {W W' : World} {g : Nat} {Q : Option Addr × Nat} {L : List Tk} {k op : Nat} {d : Dg} (h : Rd W g Q L k op d) (hb : Below W.heap.size W W') : Rd W' g Q L k op d := by
  obtain ⟨h1, h2, h3⟩ := h
  exact ⟨h1.below hb h1.lt, RowAt.moved (Spared.of_below hb (onG g)) (fun i hi => .inl hi) (fun _ _ _ h => h) h2, h3⟩
theorem Rd.lt {W : World} {g : Nat} {Q : Option Addr × Nat} {L : List Tk} {k op : Nat} {d : Dg} (h : Rd W g Q L k op d) : g < W.heap.size := by
  obtain ⟨h1, _⟩ := h
  exact h1.lt
theorem Rd.at_ {W : World} {g : Nat} {Q : Option Addr × Nat} {L : List Tk} {k op : Nat} {d : Dg} (h : Rd W g Q L k op d) (hk : k < L.length) :
    ∃ (b off c : Nat), b ≠ g ∧ (small L[k].1 ∧ L[k].2.1 ≤ 9223372036854775807 ∧ L[k].2.2 ≤ 9223372036854775807) ∧ L.length ≤ 1000000 ∧ Blk W g [.slice (some ⟨b, off, none⟩) L.length c, .int .i64 (k : Int), .int .i64 (op : Int), .int .i64 (d.1 : Int), .int .i64 (d.2.1 : Int), .int .i64 (d.2.2 : Int)] 60 ∧
      ∀ W', Spared W W' (onG g) → W'.cell? ⟨b, off + k * 3, none⟩ = some (strV L[k].1) ∧ W'.cell? ⟨b, off + k * 3 + 1, none⟩ = some (.int .i64 (L[k].2.1 : Int)) ∧ W'.cell? ⟨b, off + k * 3 + 2, none⟩ = some (.int .i64 (L[k].2.2 : Int)) := by
  obtain ⟨h1, h2, h3⟩ := h
  obtain ⟨A, c⟩ := Q
  rcases h2 with rfl | ⟨b, off, rfl, hb, hF, hc⟩
  · simp at hk
  · obtain ⟨cs, ⟨rfl, hs⟩, h4⟩ := hc k hk
    refine ⟨b, off, c, hF, hs, h3, h1, fun W' hW => ?_⟩
    have h5 : ∀ i, i < 3 → W'.cell? ⟨b, off + k * 3 + i, none⟩ = (tkC L[k])[i]? := fun i hi => (hW.cellOf hb hF _).trans (h4 i hi)
    exact ⟨h5 0 (by decide), h5 1 (by decide), h5 2 (by decide)⟩
theorem Rd.set {W W' : World} {g : Nat} {Q : Option Addr × Nat} {L : List Tk} {k op : Nat} {d : Dg} (h : Rd W g Q L k op d) (hs : Spared W W' (onG g)) {k' op' : Nat} {d' : Dg}
    (hb : Blk W g [.slice Q.1 L.length Q.2, .int .i64 (k : Int), .int .i64 (op : Int), .int .i64 (d.1 : Int), .int .i64 (d.2.1 : Int), .int .i64 (d.2.2 : Int)] 60 → Blk W' g [.slice Q.1 L.length Q.2, .int .i64 (k' : Int), .int .i64 (op' : Int), .int .i64 (d'.1 : Int), .int .i64 (d'.2.1 : Int), .int .i64 (d'.2.2 : Int)] 60) : Rd W' g Q L k' op' d' := by
  obtain ⟨h1, h2, h3⟩ := h
  exact ⟨hb h1, RowAt.moved hs (fun i hi => .inl hi) (fun _ _ _ h => h) h2, h3⟩
theorem Rd.setNew {W W' : World} {g : Nat} {Q : Option Addr × Nat} {L : List Tk} {k op k0 op0 : Nat} {d d0 : Dg} (h0 : Rd W g Q L k0 op0 d0) (h : Rd W' g Q L k op d) {b : Nat} (hb : W.heap.size ≤ b) (i : Nat) (u : Value) : Rd (W'.setCell ⟨b, i, none⟩ u) g Q L k op d := by
  have hl := h0.lt
  obtain ⟨h1, h2, h3⟩ := h
  obtain ⟨_, q2, _⟩ := h0
  obtain ⟨A, c⟩ := Q
  refine ⟨h1.other _ _ (by show g ≠ b; omega), ?_, h3⟩
  refine RowAt.moved (F := fun x => x = g ∨ x = b) (G := onG g) (((Spared.refl W' (fun x => x = g ∨ x = b)).setCell (.inr rfl) i u)) (fun i hi => .inl (.inl hi)) (fun _ _ _ h => h) ?_
  rcases h2 with h2 | ⟨b1, off, e1, hb1, hF, hc⟩
  · exact .inl h2
  · rcases q2 with q2 | ⟨b2, off2, e2, hb2, _⟩
    · exact .inl q2
    · rw [e1] at e2
      injection e2 with e2
      injection e2 with e2 _ _
      exact .inr ⟨b1, off, e1, hb1, fun h => h.elim hF (fun h => by omega), hc⟩
theorem Spared.setNew {W W' : World} {F : Nat → Prop} (h : Spared W W' F) {b : Nat} (hb : W.heap.size ≤ b) (i : Nat) (u : Value) : Spared W (W'.setCell ⟨b, i, none⟩ u) F :=
  ⟨h.os, h.tape, h.output, by simpa [World.setCell] using h.size, fun k hk hn => (heap_setCell_other W' ⟨b, i, none⟩ k u (by show k ≠ b; omega)).trans (h.block k hk hn)⟩
theorem Rd.set_at {W : World} {g : Nat} {Q : Option Addr × Nat} {L : List Tk} {k op : Nat} {d : Dg} (h : Rd W g Q L k op d) (k' : Nat) : Rd (W.setCell ⟨g, 1, none⟩ (.int .i64 ((k' : Int)))) g Q L k' op d :=
  h.set ((Spared.refl W (onG g)).setCell rfl 1 _) (fun hb => by simpa using hb.set 1 (.int .i64 (k' : Int)))
theorem Rd.set_open {W : World} {g : Nat} {Q : Option Addr × Nat} {L : List Tk} {k op : Nat} {d : Dg} (h : Rd W g Q L k op d) (op' : Nat) : Rd (W.setCell ⟨g, 2, none⟩ (.int .i64 (op' : Int))) g Q L k op' d :=
  h.set ((Spared.refl W (onG g)).setCell rfl 2 _) (fun hb => by simpa using hb.set 2 (.int .i64 (op' : Int)))
theorem Rd.set_diag {W : World} {g : Nat} {Q : Option Addr × Nat} {L : List Tk} {k op : Nat} {d : Dg} (h : Rd W g Q L k op d) (a b e : Nat) : Rd (((W.setCell ⟨g, 3, none⟩ (.int .i64 (a : Int))).setCell ⟨g, 4, none⟩ (.int .i64 (b : Int))).setCell ⟨g, 5, none⟩ (.int .i64 (e : Int))) g Q L k op (a, b, e) :=
  h.set ((((Spared.refl W (onG g)).setCell rfl 3 _).setCell rfl 4 _).setCell rfl 5 _) (fun hb => by simpa using ((hb.set 3 (.int .i64 (a : Int))).set 4 (.int .i64 (b : Int))).set 5 (.int .i64 (e : Int)))
set_option maxHeartbeats 1000000 in
theorem next_any {W : World} {g : Nat} {Q : Option Addr × Nat} {L : List Tk} {k op : Nat} {d : Dg} (h : Rd W g Q L k op d) (hk : k < L.length) :
    Calls Tryz.prog 33 #[.pointer (some ⟨g, 0, none⟩)] W fun e w' => e = .returned (.agg #[strV L[k].1, .int .i64 (L[k].2.1 : Int), .int .i64 (L[k].2.2 : Int)]) ∧ Below W.heap.size W w' := by
  obtain ⟨b, off, c, hne, hs, hl, hB, hc⟩ := h.at_ hk
  have hS : ∀ w', Below W.heap.size W w' → (w'.cell? ⟨g, 0, none⟩ = some (.slice (some ⟨b, off, none⟩) L.length c) ∧ w'.cell? ⟨g, 1, none⟩ = some (.int .i64 (k : Int))) ∧ w'.cell? ⟨b, off + k * 3, none⟩ = some (strV L[k].1) ∧ w'.cell? ⟨b, off + k * 3 + 1, none⟩ = some (.int .i64 (L[k].2.1 : Int)) ∧ w'.cell? ⟨b, off + k * 3 + 2, none⟩ = some (.int .i64 (L[k].2.2 : Int)) := fun w' hw => by
    have hb := hB.below hw hB.lt
    exact ⟨⟨hb.cell (i := 0) (by simp), hb.cell (i := 1) (by simp)⟩, hc w' (Spared.of_below hw _)⟩
  generalize L[k].1 = s at *
  generalize L[k].2.1 = l1 at *
  generalize L[k].2.2 = l2 at *
  have hS0 := hS _ (((Below.refl W.heap.size W).alloc (Nat.le_refl _) (.cells #[.string ⟨#[]⟩, .int .i64 0, .int .i64 0] 75)).drew)
  have hS1 := hS _ (((Below.refl W.heap.size W).alloc (Nat.le_refl _) (.cells #[strV s, .int .i64 (l1 : Int), .int .i64 (l2 : Int)] 75)).drew)
  clear hB hc h hS
  go_enter Tryz.func33, Tryz.ntmps33
  go_wp2_with fail
  go_region_held_law (fun w' => (w'.cell? ⟨g, 0, none⟩ = some (.slice (some ⟨b, off, none⟩) L.length c) ∧ w'.cell? ⟨g, 1, none⟩ = some (.int .i64 (k : Int))) ∧ w'.cell? ⟨b, off + k * 3, none⟩ = some (strV s) ∧ w'.cell? ⟨b, off + k * 3 + 1, none⟩ = some (.int .i64 (l1 : Int)) ∧ w'.cell? ⟨b, off + k * 3 + 2, none⟩ = some (.int .i64 (l2 : Int)))
    (with_reducible assumption)
    (first
      | fail)
  go_wp2_with fail
  refine bodyPost_ret (v := .agg #[strV s, .int .i64 (l1 : Int), .int .i64 (l2 : Int)]) (by simp [results, Tryz.results33, go_sem]) rfl ?_
  exact ⟨rfl, ((Below.refl W.heap.size W).alloc (Nat.le_refl _) _).drew⟩
set_option maxHeartbeats 1000000 in
theorem is_any {W : World} {g : Nat} {Q : Option Addr × Nat} {L : List Tk} {k op : Nat} {d : Dg} (h : Rd W g Q L k op d) (hk : k < L.length) (s : Txt) :
    Calls Tryz.prog 30 #[.pointer (some ⟨g, 0, none⟩), strV s] W fun e w' =>
      e = .returned (.bool (decide (d.2.2 = 0 ∧ L[k].1 = s))) ∧ Rd w' g Q L (if d.2.2 = 0 ∧ L[k].1 = s then k + 1 else k) op d ∧ Spared W w' (onG g) := by
  obtain ⟨b, off, c, hne, hs, hl, hB, hc⟩ := h.at_ hk
  obtain ⟨z0, z1, z2⟩ := hc W (Spared.refl _ _)
  have x0 := hB.cell (i := 0) (by simp)
  have x1 := hB.cell (i := 1) (by simp)
  have x5 := hB.cell (i := 5) (by simp)
  simp only [List.getElem_cons_succ, List.getElem_cons_zero] at x0 x1 x5
  have f1 := hB.free 1
  have HB := Lib.hid hB
  have HR := Lib.hid h
  generalize L[k].1 = t at *
  clear hB hc h
  by_cases h1 : d.2.2 = 0 ∧ t = s
  · rw [if_pos h1, decide_eq_true h1]
    obtain ⟨h2, h3⟩ := h1
    have hd : ((d.2.2 : Int) != 0) = false := by rw [h2]; rfl
    have hts : (t == s) = true := beq_iff_eq.2 h3
    clear h2 h3
    go_enter Tryz.func30, Tryz.ntmps30
    go_wp2_with fail
    go_quiet (fail)
    go_wp2_with fail
    go_ret
    exact ⟨rfl, (HR.out.below (below_drewN (Below.refl _ _) _)).set_at (k + 1), (Spared.of_below (below_drewN (Below.refl _ _) _) (onG g)).setCell rfl 1 _⟩
  · rw [if_neg h1, decide_eq_false h1]
    have h2 : ¬ d.2.2 = 0 ∨ (d.2.2 = 0 ∧ ¬ t = s) := by
      by_cases h3 : d.2.2 = 0
      · exact .inr ⟨h3, fun e => h1 ⟨h3, e⟩⟩
      · exact .inl h3
    clear h1
    rcases h2 with h2 | ⟨h2, h3⟩
    · have hd : ((d.2.2 : Int) != 0) = true := bne_iff_ne.2 (by omega)
      clear h2
      go_enter Tryz.func30, Tryz.ntmps30
      go_wp2_with fail
      go_quiet (fail)
      go_wp2_with fail
      go_ret
      exact ⟨rfl, HR.out.below (below_drewN (Below.refl _ _) _), Spared.of_below (below_drewN (Below.refl _ _) _) _⟩
    · have hd : ((d.2.2 : Int) != 0) = false := by rw [h2]; rfl
      have hts : (t == s) = false := beq_eq_false_iff_ne.2 h3
      clear h2 h3
      go_enter Tryz.func30, Tryz.ntmps30
      go_wp2_with fail
      go_quiet (fail)
      go_wp2_with fail
      go_ret
      exact ⟨rfl, HR.out.below (below_drewN (Below.refl _ _) _), Spared.of_below (below_drewN (Below.refl _ _) _) _⟩
set_option maxHeartbeats 1000000 in
theorem fail_any {W : World} {g : Nat} {Q : Option Addr × Nat} {L : List Tk} {k op : Nat} {d : Dg} (h : Rd W g Q L k op d) (hk : k < L.length) (t : Tk) (e : Nat) :
    Calls Tryz.prog 34 #[.pointer (some ⟨g, 0, none⟩), .agg #[strV t.1, .int .i64 (t.2.1 : Int), .int .i64 (t.2.2 : Int)], .int .i64 (e : Int)] W fun r w' =>
      r = .returned (.tuple #[]) ∧ Rd w' g Q L k op (if d.2.2 = 0 then failT t e else d) ∧ Spared W w' (onG g) := by
  obtain ⟨b, off, c, hne, hs, hl, hB, hc⟩ := h.at_ hk
  obtain ⟨t1, t2, t3⟩ := t
  have hS : ∀ o, (W.alloc o).cell? ⟨g, 5, none⟩ = some (.int .i64 (d.2.2 : Int)) := fun o => (hB.alloc o).cell (i := 5) (by simp)
  have y3 : ∀ o, (W.alloc o).cell? ⟨g, 3, none⟩ = some (.int .i64 (d.1 : Int)) := fun o => (hB.alloc o).cell (i := 3) (by simp)
  have y4 : ∀ o, (W.alloc o).cell? ⟨g, 4, none⟩ = some (.int .i64 (d.2.1 : Int)) := fun o => (hB.alloc o).cell (i := 4) (by simp)
  have f3 : ∀ o, (W.alloc o).frozen? ⟨g, 3, none⟩ = false := fun o => (hB.alloc o).free 3
  have f4 : ∀ o, (W.alloc o).frozen? ⟨g, 4, none⟩ = false := fun o => (hB.alloc o).free 4
  have f5 : ∀ o, (W.alloc o).frozen? ⟨g, 5, none⟩ = false := fun o => (hB.alloc o).free 5
  have HR := Lib.hid h
  clear hB hc h
  by_cases h0 : d.2.2 = 0
  · rw [if_pos h0]
    have hd : ((d.2.2 : Int) == 0) = true := by rw [h0]; rfl
    clear h0
    go_enter Tryz.func34, Tryz.ntmps34
    go_wp2_with fail
    go_end0
    exact ⟨rfl, (HR.out.below ((Below.refl W.heap.size W).alloc (Nat.le_refl _) _)).set_diag t2 t3 e, ((((Spared.of_below ((Below.refl W.heap.size W).alloc (Nat.le_refl _) _) (onG g)).setCell rfl 3 _).setCell rfl 4 _).setCell rfl 5 _)⟩
  · rw [if_neg h0]
    have hd : ((d.2.2 : Int) == 0) = false := beq_eq_false_iff_ne.2 (by omega)
    clear h0
    go_enter Tryz.func34, Tryz.ntmps34
    go_wp2_with fail
    go_end0
    exact ⟨rfl, HR.out.below ((Below.refl W.heap.size W).alloc (Nat.le_refl _) _), Spared.of_below ((Below.refl W.heap.size W).alloc (Nat.le_refl _) _) _⟩
def afterMust (L : List Tk) (k : Nat) (h : k < L.length) (d : Dg) (s : Txt) : Nat × Dg := if d.2.2 = 0 then (if L[k].1 = s then (k + 1, d) else (k, failT L[k] 8)) else (k, d)
theorem Rd.spare {W W' : World} {g : Nat} {Q : Option Addr × Nat} {L : List Tk} {k op : Nat} {d : Dg} (h : Rd W g Q L k op d) (hb : Below W.heap.size W W') : Rd W' g Q L k op d ∧ Spared W W' (onG g) := ⟨h.below hb, Spared.of_below hb _⟩
theorem sp_trans {W W1 W2 : World} {g : Nat} (h : Spared W W1 (onG g)) (k : Spared W1 W2 (onG g)) : Spared W W2 (onG g) := h.trans k (fun _ h => .inl h)
set_option maxHeartbeats 1000000 in
theorem must_any {W : World} {g : Nat} {Q : Option Addr × Nat} {L : List Tk} {k op : Nat} {d : Dg} (h : Rd W g Q L k op d) (hk : k < L.length) (s : Txt) :
    Calls Tryz.prog 53 #[.pointer (some ⟨g, 0, none⟩), strV s] W fun r w' =>
      r = .returned (.tuple #[]) ∧ Rd w' g Q L (afterMust L k hk d s).1 op (afterMust L k hk d s).2 ∧ Spared W w' (onG g) := by
  have HI := Lib.hid (is_any h hk s)
  have HNX : Hid (∀ W', Rd W' g Q L k op d → Calls Tryz.prog 33 #[.pointer (some ⟨g, 0, none⟩)] W' fun e w' => e = .returned (.agg #[strV L[k].1, .int .i64 (L[k].2.1 : Int), .int .i64 (L[k].2.2 : Int)]) ∧ Below W'.heap.size W' w') := Lib.hid (fun W' h => next_any h hk)
  have HF : Hid (∀ W', Rd W' g Q L k op d → Calls Tryz.prog 34 #[.pointer (some ⟨g, 0, none⟩), .agg #[strV L[k].1, .int .i64 (L[k].2.1 : Int), .int .i64 (L[k].2.2 : Int)], .int .i64 8] W' fun r w' =>
      r = .returned (.tuple #[]) ∧ Rd w' g Q L k op (if d.2.2 = 0 then failT L[k] 8 else d) ∧ Spared W' w' (onG g)) := Lib.hid (fun W' h => fail_any h hk L[k] 8)
  unfold afterMust
  by_cases h1 : d.2.2 = 0 ∧ L[k].1 = s
  · rw [if_pos h1.1, if_pos h1.2]
    rw [if_pos h1, decide_eq_true h1] at HI
    clear h1
    go_enter Tryz.func53, Tryz.ntmps53
    go_wp2_with (go_at_call 30; with_reducible refine HI.out.mono ?_; rintro e w2 ⟨rfl, hr2, hs2⟩)
    go_end0
    exact ⟨rfl, hr2, hs2⟩
  · rw [if_neg h1, decide_eq_false h1] at HI
    have hd : (if d.2.2 = 0 then (if L[k].1 = s then (k + 1, d) else (k, failT L[k] 8)) else (k, d)) = (k, if d.2.2 = 0 then failT L[k] 8 else d) := by
      by_cases h2 : d.2.2 = 0
      · rw [if_pos h2, if_pos h2, if_neg (fun e => h1 ⟨h2, e⟩)]
      · rw [if_neg h2, if_neg h2]
    rw [hd]
    clear h1 hd
    generalize (if d.2.2 = 0 then failT L[k] 8 else d) = D at *
    go_enter Tryz.func53, Tryz.ntmps53
    go_wp2_with (first
      | (go_at_call 30; with_reducible refine HI.out.mono ?_; rintro e w2 ⟨rfl, hr2, hs2⟩; have HR2 := Lib.hid hr2; have HS2 := Lib.hid hs2; clear hr2 hs2)
      | (go_at_call 33; with_reducible refine (HNX.out _ HR2.out).mono ?_; rintro e w3 ⟨rfl, hb3⟩; have HR3 := Lib.hid (HR2.out.below hb3); have HS3 := Lib.hid (sp_trans HS2.out (Spared.of_below hb3 _)); clear hb3)
      | (go_at_call 34; with_reducible refine (HF.out _ HR3.out).mono ?_; rintro e w4 ⟨rfl, hr4, hs4⟩))
    go_end0
    exact ⟨rfl, hr4, sp_trans HS3.out hs4⟩
def afterName (L : List Tk) (k : Nat) (h : k < L.length) (d : Dg) : Txt × Nat × Dg := if d.2.2 = 0 then (if nameL L[k].1 = true then (L[k].1, k + 1, d) else ([], k, failT L[k] 8)) else ([], k, d)
set_option maxHeartbeats 1000000 in
theorem rname_any {W : World} {g : Nat} {Q : Option Addr × Nat} {L : List Tk} {k op : Nat} {d : Dg} (h : Rd W g Q L k op d) (hk : k < L.length) :
    Calls Tryz.prog 31 #[.pointer (some ⟨g, 0, none⟩)] W fun r w' =>
      r = .returned (strV (afterName L k hk d).1) ∧ Rd w' g Q L (afterName L k hk d).2.1 op (afterName L k hk d).2.2 ∧ Spared W w' (onG g) := by
  have HNX := Lib.hid (next_any h hk)
  have HF : Hid (∀ W', Rd W' g Q L k op d → Calls Tryz.prog 34 #[.pointer (some ⟨g, 0, none⟩), .agg #[strV L[k].1, .int .i64 (L[k].2.1 : Int), .int .i64 (L[k].2.2 : Int)], .int .i64 8] W' fun r w' =>
      r = .returned (.tuple #[]) ∧ Rd w' g Q L k op (if d.2.2 = 0 then failT L[k] 8 else d) ∧ Spared W' w' (onG g)) := Lib.hid (fun W' h => fail_any h hk L[k] 8)
  obtain ⟨b, off, c, hne, hsm, hl, hB, hc⟩ := h.at_ hk
  have HN := Lib.hid (fun W => refName_txt L[k].1 W hsm.1)
  have HBK := Lib.hid hB
  have HR := Lib.hid h
  unfold afterName
  obtain ⟨T, hT⟩ : ∃ T, T = L[k] := ⟨_, rfl⟩
  simp only [← hT] at HNX HF HN ⊢
  obtain ⟨t, t2, t3⟩ := T
  dsimp only at HNX HF HN ⊢
  obtain ⟨q, hq⟩ : ∃ q, nameL t = q := ⟨_, rfl⟩
  rw [hq] at HN ⊢
  clear hB hc h hq hT hsm
  by_cases h0 : d.2.2 = 0
  · rw [if_pos h0]
    have hd : ((d.2.2 : Int) != 0) = false := by rw [h0]; rfl
    rw [if_pos h0] at HF
    clear h0
    cases q
    · rw [if_neg (by decide)]
      generalize failT (t, t2, t3) 8 = D at *
      go_enter Tryz.func31, Tryz.ntmps31
      go_wp2_with (first
        | (go_at_call 33; with_reducible refine HNX.out.mono ?_; rintro e w2 ⟨rfl, hb2⟩; have HR2 := Lib.hid (HR.out.below hb2); have HS2 := Lib.hid (Spared.of_below hb2 (onG g)); have hbk := (HBK.out.below hb2 HBK.out.lt); have x1o : ∀ o, (w2.alloc o).cell? ⟨g, 1, none⟩ = some (.int .i64 (k : Int)) := fun o => (hbk.alloc o).cell (i := 1) (by simp); have x5o : ∀ o, (w2.alloc o).cell? ⟨g, 5, none⟩ = some (.int .i64 (d.2.2 : Int)) := fun o => (hbk.alloc o).cell (i := 5) (by simp); have f1o : ∀ o, (w2.alloc o).frozen? ⟨g, 1, none⟩ = false := fun o => (hbk.alloc o).free 1; clear hbk hb2)
        | (go_at_call 52; with_reducible refine (HN.out _).mono ?_; rintro e w3 ⟨rfl, rfl⟩)
        | (go_at_call 34; with_reducible refine (HF.out _ (HR2.out.below ((Below.refl _ _).alloc (Nat.le_refl _) (.cells #[strV t, .int .i64 (t2 : Int), .int .i64 (t3 : Int)] 75)))).mono ?_; rintro e w4 ⟨rfl, hr4, hs4⟩))
      go_ret
      exact ⟨rfl, hr4, sp_trans (HS2.out.trans (Spared.of_below ((Below.refl _ _).alloc (Nat.le_refl _) _) (onG g)) (fun _ h => .inl h)) hs4⟩
    · rw [if_pos rfl]
      go_enter Tryz.func31, Tryz.ntmps31
      go_wp2_with (first
        | (go_at_call 33; with_reducible refine HNX.out.mono ?_; rintro e w2 ⟨rfl, hb2⟩; have HR2 := Lib.hid (HR.out.below hb2); have HS2 := Lib.hid (Spared.of_below hb2 (onG g)); have hbk := (HBK.out.below hb2 HBK.out.lt); have x1o : ∀ o, (w2.alloc o).cell? ⟨g, 1, none⟩ = some (.int .i64 (k : Int)) := fun o => (hbk.alloc o).cell (i := 1) (by simp); have x5o : ∀ o, (w2.alloc o).cell? ⟨g, 5, none⟩ = some (.int .i64 (d.2.2 : Int)) := fun o => (hbk.alloc o).cell (i := 5) (by simp); have f1o : ∀ o, (w2.alloc o).frozen? ⟨g, 1, none⟩ = false := fun o => (hbk.alloc o).free 1; clear hbk hb2)
        | (go_at_call 52; with_reducible refine (HN.out _).mono ?_; rintro e w3 ⟨rfl, rfl⟩))
      go_ret
      exact ⟨rfl, (HR2.out.below ((Below.refl _ _).alloc (Nat.le_refl _) (.cells #[strV t, .int .i64 (t2 : Int), .int .i64 (t3 : Int)] 75))).set_at (k + 1), (HS2.out.trans (Spared.of_below ((Below.refl _ _).alloc (Nat.le_refl _) _) (onG g)) (fun _ h => .inl h)).setCell rfl 1 _⟩
  · rw [if_neg h0]
    have hd : ((d.2.2 : Int) != 0) = true := bne_iff_ne.2 (by omega)
    rw [if_neg h0] at HF
    clear h0
    cases q
    · go_enter Tryz.func31, Tryz.ntmps31
      go_wp2_with (first
        | (go_at_call 33; with_reducible refine HNX.out.mono ?_; rintro e w2 ⟨rfl, hb2⟩; have HR2 := Lib.hid (HR.out.below hb2); have HS2 := Lib.hid (Spared.of_below hb2 (onG g)); have hbk := (HBK.out.below hb2 HBK.out.lt); have x1o : ∀ o, (w2.alloc o).cell? ⟨g, 1, none⟩ = some (.int .i64 (k : Int)) := fun o => (hbk.alloc o).cell (i := 1) (by simp); have x5o : ∀ o, (w2.alloc o).cell? ⟨g, 5, none⟩ = some (.int .i64 (d.2.2 : Int)) := fun o => (hbk.alloc o).cell (i := 5) (by simp); have f1o : ∀ o, (w2.alloc o).frozen? ⟨g, 1, none⟩ = false := fun o => (hbk.alloc o).free 1; clear hbk hb2)
        | (go_at_call 52; with_reducible refine (HN.out _).mono ?_; rintro e w3 ⟨rfl, rfl⟩)
        | (go_at_call 34; with_reducible refine (HF.out _ (HR2.out.below ((Below.refl _ _).alloc (Nat.le_refl _) (.cells #[strV t, .int .i64 (t2 : Int), .int .i64 (t3 : Int)] 75)))).mono ?_; rintro e w4 ⟨rfl, hr4, hs4⟩))
      go_ret
      exact ⟨rfl, hr4, sp_trans (HS2.out.trans (Spared.of_below ((Below.refl _ _).alloc (Nat.le_refl _) _) (onG g)) (fun _ h => .inl h)) hs4⟩
    · go_enter Tryz.func31, Tryz.ntmps31
      go_wp2_with (first
        | (go_at_call 33; with_reducible refine HNX.out.mono ?_; rintro e w2 ⟨rfl, hb2⟩; have HR2 := Lib.hid (HR.out.below hb2); have HS2 := Lib.hid (Spared.of_below hb2 (onG g)); have hbk := (HBK.out.below hb2 HBK.out.lt); have x1o : ∀ o, (w2.alloc o).cell? ⟨g, 1, none⟩ = some (.int .i64 (k : Int)) := fun o => (hbk.alloc o).cell (i := 1) (by simp); have x5o : ∀ o, (w2.alloc o).cell? ⟨g, 5, none⟩ = some (.int .i64 (d.2.2 : Int)) := fun o => (hbk.alloc o).cell (i := 5) (by simp); have f1o : ∀ o, (w2.alloc o).frozen? ⟨g, 1, none⟩ = false := fun o => (hbk.alloc o).free 1; clear hbk hb2)
        | (go_at_call 52; with_reducible refine (HN.out _).mono ?_; rintro e w3 ⟨rfl, rfl⟩)
        | (go_at_call 34; with_reducible refine (HF.out _ (HR2.out.below ((Below.refl _ _).alloc (Nat.le_refl _) (.cells #[strV t, .int .i64 (t2 : Int), .int .i64 (t3 : Int)] 75)))).mono ?_; rintro e w4 ⟨rfl, hr4, hs4⟩))
      go_ret
      exact ⟨rfl, hr4, sp_trans (HS2.out.trans (Spared.of_below ((Below.refl _ _).alloc (Nat.le_refl _) _) (onG g)) (fun _ h => .inl h)) hs4⟩
end Go.Proofs.YtehabjiacgibpaaGreat
