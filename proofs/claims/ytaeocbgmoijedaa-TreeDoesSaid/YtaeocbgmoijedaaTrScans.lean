/-
  The walk of the statement TreeScans: two scans, one behind the other, and one at once. No conditions but that lengths are ints.
-/
import Derived.Test.YtaeocbgmoijedaaTrCall
import Derived.Test.YtaeocbgmoijedaaTrPairs
import Derived.BigQuiet
import Derived.Laws.Cover1
import Derived.Deep.RegionHeldLaw
namespace Go.Proofs.Ytaeocbgmoijedaa
open Go.RowKit

/-- pairs in a row, as they lie -/
theorem kv_of {w : World} {F G : Nat → Prop} {A : Option Addr} {els : List (El 0)} (hc : Cells w F A (rowCells 0 els)) (ha : AllOk w G 0 els) : KvSeen w A (els.map kv0) := fun i hi => by
  rw [List.length_map] at hi
  obtain ⟨b, off, hA, hb, _, h0, h1⟩ := pair_cells hc i hi
  have he := ha els[i] (List.getElem_mem hi)
  have e : (els.map kv0)[i]'(by rw [List.length_map]; exact hi) = kv0 els[i] := by simp
  have s1 : Seen w (epiece 0 els[i]).1 (epiece 0 els[i]).2.1 := he.1.1.seen
  have s2 : Seen w (eval0 els[i]).1 (eval0 els[i]).2.1 := he.2.1.seen
  rw [e]
  exact ⟨b, off, _, _, _, _, hA, hb, h0, h1, s1, s2⟩
theorem ltK_gtr (a b : Key) : (!Op.bytesLess (⟨a.toArray⟩ : ByteArray).toList (⟨b.toArray⟩ : ByteArray).toList && !((⟨a.toArray⟩ : ByteArray).toList == (⟨b.toArray⟩ : ByteArray).toList)) = ltK b a := by
  rw [Lib.toList_data, Lib.toList_data]
  cases h : ltK b a
  · by_cases he : a = b
    · subst he; simp
    · have h1 : Op.bytesLess a b = true := ltK_of_ne (Ne.symm he) h
      simp [h1]
  · have h1 : Op.bytesLess a b = false := ltK_asymm h
    have h2 : ¬ a = b := fun e => ltK_ne h e.symm
    simp [h1, h2]
theorem kv_length {els : List (El 0)} {L : List Kv} (h : els.map kv0 = L) : els.length = L.length := by rw [← h, List.length_map]
theorem found_all {B0 : Nat} {W : World} {acc : List (El 0)} {v : Value} (h : Found B0 W acc v) : AllOk W (fun _ => False) 0 acc := fun q hq => (h.each q hq).mono (fun _ hb => hb.elim)
/-- a tree that has taken at most so many pairs -/
def AnyAt (w : World) (g : Nat) (room : Int) (wr : World) (L : List Kv) : Prop := Below w.heap.size w wr ∧ TreeAt wr (fun b => b = g) g room L

set_option maxHeartbeats 4000000 in
set_option maxRecDepth 100000 in
theorem treeScans_walk (A : Option Addr) (l : List TOp) (c : Nat) (FA : Option Addr) (fr : List UInt8) (fc : Nat) (MA : Option Addr) (mid : List UInt8) (mc : Nat) (TA : Option Addr) (to : List UInt8) (tc : Nat) (w : World) (hl : l.length ≤ 9223372036854775807) (hs : TsSeen w A l) (_hfl : fr.length ≤ 140737488351232) (hf : Seen w FA fr) (hml : mid.length ≤ 140737488351232) (hm : Seen w MA mid) (htl : to.length ≤ 140737488351232) (ht : Seen w TA to) :
    Calls Try.prog 6 #[.slice A l.length c, .slice FA fr.length fc, .slice MA mid.length mc, .slice TA to.length tc] w fun e w' => e = .returned (.bool true) ∧ Below w.heap.size w w' := by
  have HAW := Lib.hid (awake_any w)
  have HS := Lib.hid hs
  obtain ⟨n, hn⟩ : ∃ n, n = l.length := ⟨_, rfl⟩
  obtain ⟨nf, hnf⟩ : ∃ nf, nf = fr.length := ⟨_, rfl⟩
  obtain ⟨nm, hnm⟩ : ∃ nm, nm = mid.length := ⟨_, rfl⟩
  obtain ⟨nt, hnt⟩ : ∃ nt, nt = to.length := ⟨_, rfl⟩
  rw [← hn] at hl ⊢
  rw [← hnf]
  rw [← hnm] at hml ⊢
  rw [← hnt] at htl ⊢
  have HN := Lib.hid hn
  have HNF := Lib.hid hnf
  have HNM := Lib.hid hnm
  have HNT := Lib.hid hnt
  have cF := text_on hf nf fc hnf.symm
  have cM := text_on hm nm mc hnm.symm
  have cT := text_on ht nt tc hnt.symm
  have HCF := Lib.hid cF
  have HCM := Lib.hid cM
  have HCT := Lib.hid cT
  have SF := Lib.hid hf
  have SM := Lib.hid hm
  have ST := Lib.hid ht
  clear hs hn hnf hnm hnt hf hm ht cF cM cT
  go_enter Try.func6, Try.ntmps6
  go_wp2_with fail
  with_reducible refine HAW.out.mono ?_
  rintro e w1 ⟨rfl, hb1⟩
  have B1 := Lib.hid hb1
  have S1 : Hid (TsSeen w1 A l) := HS.out.below hb1
  clear hb1 HAW
  go_wp2_with fail
  with_reducible refine (few_any A l n c w1 S1.out HN.out.symm).mono ?_
  rintro e w1' ⟨rfl, rfl⟩
  obtain ⟨fb, hfb⟩ : ∃ fb, fb = fewB l := ⟨_, rfl⟩
  rw [← hfb]
  have HFW := Lib.hid hfb
  clear hfb
  go_wp2_with fail
  with_reducible refine (new_any w1 100000).mono ?_
  rintro e w2 ⟨rfl, hb2, hsz, ht2⟩
  have T2 := Lib.hid (ht2 (fun b => b = w1.heap.size) rfl)
  have B2 := Lib.hid (hop B1.out hb2)
  have HGW : Hid (w.heap.size ≤ w1.heap.size) := B1.out.size
  clear hsz ht2 hb2
  obtain ⟨g, hg⟩ : ∃ g, g = w1.heap.size := ⟨_, rfl⟩
  rw [← hg] at T2 HGW ⊢
  clear hg
  cases fb
  · go_wp2_with fail
    go_ret
    exact ⟨rfl, B2.out⟩
  have uF := HCF.out w2 B2.out
  have uM := HCM.out w2 B2.out
  have uT := HCT.out w2 B2.out
  have M2 : Hid (AnyAt w g 100000 w2 []) := ⟨B2.out, T2.out⟩
  have bF := ltK_gtr fr mid
  have bT := ltK_gtr mid to
  generalize (⟨fr.toArray⟩ : ByteArray) = tF at *
  generalize (⟨mid.toArray⟩ : ByteArray) = tM at *
  generalize (⟨to.toArray⟩ : ByteArray) = tT at *
  cases h1 : ltK mid fr
  case true =>
    rw [h1] at bF
    clear h1
    go_wp2_with fail
    go_ret
    exact ⟨rfl, B2.out⟩
  have HFM : Hid (ltK mid fr = false) := h1
  have hcase : (0 < nt ∧ ltK to mid = true) ∨ (0 < nt ∧ ltK to mid = false ∧ nm = 0) ∨ (nt = 0 ∧ nm = 0) ∨ (nt = 0 ∧ 0 < nm) ∨ (0 < nt ∧ ltK to mid = false ∧ 0 < nm) := by
    cases ltK to mid <;> simp <;> omega
  have HMT : Hid ((nt = 0 ∨ ltK to mid = false) → to = [] ∨ ltK to mid = false) := fun h => h.imp (fun h => List.eq_nil_of_length_eq_zero (by rw [← HNT.out]; exact h)) id
  rw [h1] at bF
  clear h1 T2 B1 S1
  rcases hcase with ⟨h2, h3⟩ | ⟨h2, h3, h4⟩ | ⟨h2, h4⟩ | ⟨h2, h4⟩ | ⟨h2, h3, h4⟩
  · rw [h3] at bT
    have hI : (0 : Int) < (nt : Int) := by omega
    clear h3
    go_wp2_with fail
    go_ret
    exact ⟨rfl, B2.out⟩
  · rw [h3] at bT
    have hI : (0 : Int) < (nt : Int) := by omega
    subst h4
    clear h3
    go_wp2_with fail
    go_ret
    exact ⟨rfl, B2.out⟩
  · subst h2 h4
    go_wp2_with fail
    go_ret
    exact ⟨rfl, B2.out⟩
  all_goals first
    | (rw [h3] at bT
       have hI : (0 : Int) < (nt : Int) := by omega
       have hJ : (nm == 0) = false := by rw [beq_eq_false_iff_ne]; omega
       have hJ2 : ((nm : Int) == 0) = false := by rw [beq_eq_false_iff_ne]; omega
       have HTO := Lib.hid (HMT.out (.inr h3))
       clear h3
       go_wp2_with fail)
    | (have hI : ¬ (0 : Int) < (nt : Int) := by omega
       have hI2 : decide ((0 : Int) < (nt : Int)) = false := decide_eq_false hI
       have hI3 : ¬ 0 < nt := by omega
       have hJ : (nm == 0) = false := by rw [beq_eq_false_iff_ne]; omega
       have hJ2 : ((nm : Int) == 0) = false := by rw [beq_eq_false_iff_ne]; omega
       have HTO := Lib.hid (HMT.out (.inl h2))
       clear h2
       go_wp2_with fail)
  all_goals
    have HMID : Hid (mid ≠ []) := by intro h; have h5 := HNM.out; rw [h] at h5; simp at h5; omega
    have hn3 : n ≤ 300 := by have := (few_at HFW.out.symm).1; have := HN.out; omega
    go_loopg [12] n (fun kx s wr => ∃ (k : Nat) (L : List Kv), k + kx = n ∧ s = .int .i64 (k : Int) ∧ L.length ≤ k ∧ AnyAt w g 100000 wr L)
    case atStart => exact ⟨0, [], by omega, rfl, Nat.le_refl _, M2.out⟩
    case round =>
      obtain ⟨k, L, hk, rfl, hll, hm⟩ := hrel
      have HK := Lib.hid hk
      have TT : Hid (TreeAt wr (fun b => b = g) g 100000 L) := hm.2
      have BR : Hid (Below w.heap.size w wr) := hm.1
      clear M2 hm
      by_cases hlt : k < n
      · have hkl : (k : Int) < (n : Int) := by omega
        have hkn : k < l.length := by have := HN.out; omega
        obtain ⟨b, off, m, z, K, V, ck, cv, y, x, kd, kn, rfl, e1, e2, e3, e4, hym, hxz, hm1, hz1, e5, e6, hsy, hsx, hcl⟩ := HS.out.call HFW.out.symm k hkn
        obtain ⟨o0, o1, o2, o3⟩ := hcl wr BR.out
        have HCL := Lib.hid hcl
        have HYM := Lib.hid hym
        have HXZ := Lib.hid hxz
        have SY := Lib.hid (hsy.below BR.out)
        have SX := Lib.hid (hsx.below BR.out)
        have hwi : IntKind.i64.wrap ((k : Int) + 1) = ((k + 1 : Nat) : Int) := by rw [IntKind.wrap_i64]; omega
        have HPUT : Hid (∀ W, Below wr.heap.size wr W → Calls Try.prog 13 #[.pointer (some ⟨g, 0, none⟩), .slice K m ck, .slice V z cv] W fun e w' => ∃ (r : Int) (L' : List Kv), e = .returned (.int .i64 r) ∧ TreeAt w' (fun b => b = g) g 100000 L' ∧ Spared W w' (fun b => b = g) ∧ PutR 100000 L y x r L') := fun W hW =>
          put_named W (fun b => b = g) (fun b hb => by subst hb; exact Nat.lt_of_lt_of_le TT.out.lt hW.size) g 100000 L K V y x m ck z cv (TT.out.below hW) (by omega) (SY.out.below hW) HYM.out (SX.out.below hW) HXZ.out (by omega) (by omega)
        have bd : Below wr.heap.size wr wr.drew := (Below.refl _ _).drew
        have HB : Hid (∀ W, Below w.heap.size w W → W.cell? ⟨b, off + k * 4 + 1, none⟩ = some (.slice K m ck) ∧ W.cell? ⟨b, off + k * 4 + 2, none⟩ = some (.slice V z cv)) := fun W hW => ⟨(HCL.out W hW).2.1, (HCL.out W hW).2.2.1⟩
        have B4D : Below w.heap.size w wr.drew := BR.out.drew
        clear hcl hym hxz hsy hsx e1 e2 e3 e4 e5 e6 hkn o0 o1 o2 o3
        go_upto_region 9 with fail
        go_region_held_law (fun W => W.cell? ⟨b, off + k * 4 + 1, none⟩ = some (.slice K m ck) ∧ W.cell? ⟨b, off + k * 4 + 2, none⟩ = some (.slice V z cv))
          (first | exact HB.out _ B4D | exact HB.out _ B7)
          ((go_at_call 13; (with_reducible refine (HPUT.out _ bd).mono ?_); rintro e w7 ⟨r, L2, rfl, ht7, hs7, hr7⟩; have T7 := Lib.hid ht7; have B7 : Below w.heap.size w w7 := hs7.below B4D (fun j hj => by have := HGW.out; omega); have HR := Lib.hid hr7; clear ht7 hs7 hr7))
        all_goals
          go_wp2_with fail
          go_roundg (n - (k + 1))
          case measure => have := HK.out; omega
          case rel => exact ⟨k + 1, L2, by have := HK.out; omega, rfl, by have := HR.out.length TT.out.srt; omega, B7, T7.out⟩
      · have hkl : ¬ (k : Int) < (n : Int) := by omega
        have hL3 : L.length ≤ 1000 := by omega
        go_wp2_with fail
        with_reducible refine (scan_any wr _ g 100000 L FA MA fr mid nf fc nm mc 1000 TT.out (SF.out.below BR.out) HNF.out.symm (SM.out.below BR.out) HNM.out.symm (by omega)).mono ?_
        rintro e w3 ⟨hb3, B03, acc3, v3, rfl, hB3, hf3, hacc3⟩
        obtain ⟨A3, c3, rfl⟩ := hf3.form
        have F3 := Lib.hid hf3
        have ACC3 := Lib.hid hacc3
        have T3 := Lib.hid (TT.out.below hb3)
        have B3 := Lib.hid (hop BR.out hb3)
        clear hf3 hacc3 hb3
        go_wp2_with fail
        with_reducible refine (scan_any w3 _ g 100000 L MA TA mid to nm mc nt tc 1000 T3.out (SM.out.below B3.out) HNM.out.symm (ST.out.below B3.out) HNT.out.symm (by omega)).mono ?_
        rintro e w4 ⟨hb4, B04, acc4, v4, rfl, hB4, hf4, hacc4⟩
        obtain ⟨A4, c4, rfl⟩ := hf4.form
        have F4 := Lib.hid hf4
        have ACC4 := Lib.hid hacc4
        have T4 := Lib.hid (T3.out.below hb4)
        have B4 := Lib.hid (hop B3.out hb4)
        have F34 := Lib.hid (F3.out.below hb4)
        clear hf4 hacc4 hb4
        go_wp2_with fail
        with_reducible refine (scan_any w4 _ g 100000 L FA TA fr to nf fc nt tc 1000 T4.out (SF.out.below B4.out) HNF.out.symm (ST.out.below B4.out) HNT.out.symm (by omega)).mono ?_
        rintro e w5 ⟨hb5, B05, acc5, v5, rfl, hB5, hf5, hacc5⟩
        obtain ⟨A5, c5, rfl⟩ := hf5.form
        have F5 := Lib.hid hf5
        have ACC5 := Lib.hid hacc5
        have B5 := Lib.hid (hop B4.out hb5)
        have F35 := Lib.hid (F34.out.below hb5)
        have F45 := Lib.hid (F4.out.below hb5)
        have HSRT := Lib.hid TT.out.srt
        have HALL : Hid (scanL fr mid 1000 L ++ scanL mid to 1000 L = scanL fr to 1000 L) := scan_parts fr mid to 1000 L TT.out.srt (by omega) (by omega) HFM.out HTO.out HMID.out
        clear hf5 hacc5 hb5
        have HLEN : Hid (0 + acc3.length + acc4.length = acc5.length) := by
          show _ = _
          rw [kv_length ACC5.out, ← HALL.out, List.length_append, kv_length ACC3.out, kv_length ACC4.out]; omega
        have HL5 : Hid (acc5.length ≤ 1000) := by
          show _ ≤ _
          rw [kv_length ACC5.out, scan_upTo fr to 1000 L HSRT.out (by omega) (by omega)]
          exact Nat.le_trans (List.length_filter_le _ _) hL3
        have hl5a : acc3.length ≤ 1000 := by have := HLEN.out; have := HL5.out; omega
        have hl5b : acc3.length + acc4.length ≤ 1000 := by have := HLEN.out; have := HL5.out; omega
        obtain ⟨i0, z0, R⟩ := rowP
        have HR := Lib.hid R
        clear R
        go_wp2_with (first
          | (refine wpList_append_cells HR.out rfl (.const (.slice none 0 0)) (.tmp 89) rfl (fun b => b < B03) w5.heap.size (.slice none 0 0) 0 [] (by rfl) (World.ownsRow_nil _ _ _ _) A3 (rowCells 0 acc3) acc3.length c3 (by rfl) (rowCells_length 0 acc3) (own_cells F35.out.row).1 (rowCells_one 0 acc3) (by omega) (by omega) (Nat.le_refl _) ?_
             intro v6 w6 ho6 hg6
             have O6 := Lib.hid ho6
             have B6 : Hid (Below w5.heap.size w5 w6) := below_grown (Below.refl _ _) (Nat.le_refl _) (World.ownsRow_nil w5 w5.heap.size 48 2) hg6
             clear ho6 hg6)
          | (refine wpList_append_cells HR.out rfl (.tmp 90) (.tmp 91) rfl (fun b => b < B04) w5.heap.size v6 (0 + acc3.length) ([] ++ rowCells 0 acc3) (by rfl) O6.out A4 (rowCells 0 acc4) acc4.length c4 (by rfl) (rowCells_length 0 acc4) (own_cells (F45.out.below B6.out).row).1 (rowCells_one 0 acc4) (by omega) (by omega) B6.out.size ?_
             intro v7 w7 ho7 hg7
             have B7 : Hid (Below w5.heap.size w5 w7) := below_grown B6.out B6.out.size O6.out hg7
             rw [HLEN.out, List.nil_append, ← rowCells_append] at ho7
             obtain ⟨A7, c7, rfl⟩ := own_shape ho7
             have O7 := Lib.hid ho7
             clear ho7 hg7))
        have KV7 : Hid (KvSeen w7 A7 (acc5.map kv0)) := by
          have h := kv_of (own_cells O7.out).1 (AllOk.append (found_all (F35.out.below B7.out)) (found_all (F45.out.below B7.out)))
          rw [List.map_append, ACC3.out, ACC4.out, HALL.out, ← ACC5.out] at h
          exact h
        have KV5 : Hid (KvSeen w7 A5 (acc5.map kv0)) := (F5.out.kv rfl).below B7.out
        have HLM : Hid ((acc5.map kv0).length = acc5.length) := List.length_map _
        have B7W := Lib.hid (hop B5.out B7.out)
        with_reducible refine (pairs_same w7 A7 A5 (acc5.map kv0) acc5.length c7 c5 HLM.out (Nat.le_trans HL5.out (by decide)) KV7.out KV5.out).mono ?_
        rintro e w8 ⟨rfl, hb8⟩
        have B8 := Lib.hid (hop B7W.out hb8)
        clear hb8
        go_wp2_with fail
        go_ret
        exact ⟨rfl, B8.out⟩
end Go.Proofs.Ytaeocbgmoijedaa
