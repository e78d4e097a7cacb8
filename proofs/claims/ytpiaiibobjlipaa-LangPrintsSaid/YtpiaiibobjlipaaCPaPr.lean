/-
  The text of a ref and of a relation that may be, by the program. Conditions: they are there; the text is at most 500,000 bytes long.
  The program's Print. Conditions: the schema is there; its text is at most 500,000 bytes long.
-/
import Derived.Test.YtpiaiibobjlipaaCPaEx
import Derived.Test.YtpiaiibobjlipaaCPaMy
import Derived.Test.YtpiaiibobjlipaaCAwL
import Derived.Test.YtpiaiibobjlipaaCRowS
import Derived.Test.YtpiaiibobjlipaaShelf
import Derived.Laws.OwnMore
import Derived.Deep.RegionHeldLaw
import Derived.Shelf.Strings.BuilderK
namespace Go.Proofs.Ytpiaiibobjlipaa
open Go.RowKit
set_option maxHeartbeats 1000000 in
theorem pshowRef_any (x : Rf) (W : World) (F : Nat → Prop) (cs : List Value) (h : RfAt W F x cs) (h1 : x.1.length ≤ 500000) (h2 : x.2.length ≤ 500000) :
    Calls Try.prog 57 #[.agg cs.toArray] W fun e w' => e = .returned (strV (rfT x)) ∧ Below W.heap.size W w' := by
  obtain ⟨rfl, _, _⟩ := h
  obtain ⟨t1, t2⟩ := x
  dsimp only at h1 h2
  show Calls _ _ #[.agg #[strV t1, strV t2]] _ _
  have hb := (Below.refl W.heap.size W).alloc (Nat.le_refl _) (.cells #[strV t1, strV t2] 78)
  have HB := Lib.hid hb
  clear hb
  by_cases ht2 : t2 = []
  · subst ht2
    have hr : rfT (t1, []) = t1 := by simp [rfT]
    rw [hr]
    clear hr
    go_enter Try.func57, Try.ntmps57
    go_wp2_with fail
    go_ret
    exact ⟨rfl, HB.out⟩
  · have he := nonempty ht2
    have hr : rfT (t1, t2) = t1 ++ [35] ++ t2 := by simp [rfT, ht2]
    rw [hr]
    obtain ⟨Y2, hY2⟩ : ∃ T, T = t1 ++ [35] := ⟨_, rfl⟩
    obtain ⟨Y3, hY3⟩ : ∃ T, T = Y2 ++ t2 := ⟨_, rfl⟩
    have J2 : ∀ W, (Op.stringOp .add ⟨t1.toArray⟩ ⟨#[35]⟩).run Try.prog W = .ok (strV Y2) W := fun W => by rw [hY2]; exact plus t1 [35] (by omega) (by simp) W
    have J3 : ∀ W, (Op.stringOp .add ⟨Y2.toArray⟩ ⟨t2.toArray⟩).run Try.prog W = .ok (strV Y3) W := fun W => by rw [hY3]; exact plus Y2 t2 (by rw [hY2]; simp; omega) (by omega) W
    rw [← hY2, ← hY3]
    clear hr hY2 hY3
    go_enter Try.func57, Try.ntmps57
    go_wp2_with fail
    go_ret
    exact ⟨rfl, HB.out⟩
theorem rfsT_lenF : ∀ l : List Rf, l.length ≤ (rfsT false l).length
  | [] => by simp
  | x :: r => by
    have := rfsT_lenF r
    simp [rfsT]; omega
theorem rfsT_len (l : List Rf) : l.length ≤ (rfsT true l).length + 1 := by
  cases l with
  | nil => simp
  | cons x r =>
    have := rfsT_lenF r
    simp [rfsT]; omega
theorem rfsT_mem : ∀ (b : Bool) (l : List Rf) (x : Rf), x ∈ l → (rfT x).length ≤ (rfsT b l).length
  | b, y :: r, x, h => by
    rcases List.mem_cons.1 h with rfl | h
    · simp [rfsT]; omega
    · have := rfsT_mem false r x h
      simp [rfsT]; omega
theorem rfT_one (x : Rf) : x.1.length ≤ (rfT x).length ∧ x.2.length ≤ (rfT x).length := by
  unfold rfT
  split
  · rename_i h
    rw [h]; simp
  · simp; omega
theorem rfsT_tail : ∀ l : List Rf, rfsT false l = Lib.joinTail [32, 124, 32] (l.map rfT)
  | [] => rfl
  | x :: r => by
    have := rfsT_tail r
    simp [rfsT, Lib.joinTail, this]
theorem rfsT_join (l : List Rf) (h : 0 < l.length) : rfsT true l = Lib.join (l.map rfT) [32, 124, 32] := by
  cases l with
  | nil => simp at h
  | cons x r => rw [List.map_cons, Lib.join_cons, ← rfsT_tail]; rfl
def relS (x : Rl) : Txt := if x.refs.length = 0 then [100, 101, 102, 105, 110, 101, 32] ++ (x.name ++ ([58, 32] ++ showE x.expr)) else [114, 101, 108, 97, 116, 105, 111, 110, 32] ++ (x.name ++ ([58, 32] ++ rfsT true x.refs))
theorem rlT_relS (x : Rl) : rlT x = [32, 32] ++ (relS x ++ [10]) := by
  unfold rlT relS
  split <;> simp [dfW, rlW]
theorem rowStr : ∃ i z, RowT Try.prog 94 9 1 16 i z := by
  have hf : (Try.prog.info? 9).map (fun i => (i.zero, i.size, i.bytes)) = some (some (.string ⟨#[]⟩), 1, 16) := by kernel_rfl
  obtain ⟨i, hi, hz, hs, hb⟩ := info_parts hf
  exact ⟨i, _, Try.underlying94, hi, hz, hs, hb, rfl⟩
def refS (x : Rf) : Value := strV (rfT x)
def refB (x : Rf) : ByteArray := ⟨(rfT x).toArray⟩
theorem own_strs {w : World} {base n c : Nat} {A : Option Addr} (rs : List Rf) (h : w.ownsRow base 9 1 (.slice A n c) n (rs.map refS)) (h0 : 0 < rs.length) :
    ∃ b, A = some ⟨b, 0, none⟩ ∧ b < w.heap.size ∧ rs.length ≤ c ∧ n = rs.length ∧ ∀ j x, (rs.map refB)[j]? = some x → w.cell? ⟨b, 0 + j, none⟩ = some (.string x) := by
  obtain ⟨hl, ho⟩ := h
  rw [List.length_map, Nat.mul_one] at hl
  subst hl
  rcases ho with ⟨_, h0'⟩ | ⟨b, cap, cur, hv, hb, hh, hnc, _, hsz, htake⟩
  · omega
  · injection hv with hA _ hc
    subst hc
    refine ⟨b, hA, ?_, hnc, rfl, fun j x hx => ?_⟩
    · rcases Nat.lt_or_ge b w.heap.size with hlt | hge
      · exact hlt
      · rw [Array.getElem?_eq_none hge] at hh; cases hh
    · obtain ⟨hj, rfl⟩ := List.getElem?_eq_some_iff.1 hx
      rw [List.length_map] at hj
      have h1 : (cur.toList.take (rs.length * 1))[j]? = (rs.map refS)[j]? := by rw [htake]
      rw [List.getElem?_take, if_pos (by omega), List.getElem?_map, List.getElem?_eq_getElem hj] at h1
      rw [Nat.zero_add, cell_of_row w b _ cur 9 (0, 0) hh]
      simp only [Array.getElem?_toList] at h1
      rw [h1]
      simp [refS, refB]
theorem refB_list (rs : List Rf) : (rs.map refB).map (·.data.toList) = rs.map rfT := by
  induction rs with
  | nil => rfl
  | cons r l ih => rw [List.map_cons, List.map_cons, List.map_cons, ih]; rfl
theorem strings_Join_at (bk o c : Nat) (xs : List ByteArray) (w : World) (hcells : ∀ (j : Nat) x, xs[j]? = some x → w.cell? ⟨bk, o + j, none⟩ = some (.string x)) (hbk : bk < w.heap.size) (hN : xs.length ≤ 140737488355328) (hcap : xs.length ≤ c) (hlen : (Lib.join (xs.map (·.data.toList)) [32, 124, 32]).length ≤ 140737488355328) :
    Calls Try.prog 58 #[.slice (some ⟨bk, o, none⟩) xs.length c, strV [32, 124, 32]] w fun e w' => e = .returned (strV (Lib.join (xs.map (·.data.toList)) [32, 124, 32])) ∧ Below w.heap.size w w' :=
  Try.strings_Join bk o c xs ⟨#[32, 124, 32]⟩ w hcells hbk hN hcap hlen
set_option maxRecDepth 100000 in
set_option maxHeartbeats 2000000 in
theorem pshowRel_any (x : Rl) (W : World) (F : Nat → Prop) (cs : List Value) (hx : RlAt W F x cs) (hmay : mayR x = true) (hlen : (relS x).length ≤ 500000) :
    Calls Try.prog 33 #[.agg cs.toArray] W fun r w' => r = .returned (strV (relS x)) ∧ Below W.heap.size W w' := by
  obtain ⟨A, c, k, n, o, E, m, d, rfl, ⟨hn, hl⟩, hr, he⟩ := hx.six
  obtain ⟨nr, rf, ex⟩ := x
  dsimp only at *
  show Calls _ _ #[.agg #[strV nr, .slice A rf.length c, .int .i64 k, strV n, strV o, .slice E m d]] _ _
  obtain ⟨W1, hW⟩ : ∃ W1, W1 = W.alloc (.cells #[strV nr, .slice A rf.length c, .int .i64 k, strV n, strV o, .slice E m d] 48) := ⟨_, rfl⟩
  have HK0 : Hid (Blk W1 W.heap.size [strV nr, .slice A rf.length c, .int .i64 k, strV n, strV o, .slice E m d] 48) := by rw [hW]; exact Lib.hid (Blk.new W _ _)
  have HB0 : Hid (Below W.heap.size W W1) := by rw [hW]; exact Lib.hid ((Below.refl W.heap.size W).alloc (Nat.le_refl _) _)
  have HW := Lib.hid hW
  unfold mayR at hmay
  simp only [Bool.and_eq_true] at hmay
  have hme : rf.length = 0 → mayE ex 12 = true := fun h => by
    have := hmay.2.2
    rw [h] at this
    simpa using this
  unfold relS at hlen ⊢
  dsimp only at hlen ⊢
  by_cases h0 : rf.length = 0
  · rw [if_pos h0] at hlen ⊢
    have hd : ((rf.length : Int) == 0) = true := beq_iff_eq.2 (by omega)
    have HSH := Lib.hid (pshow_any ex W1.drew F _ 12 (he.below HB0.out.drew) (hme h0) (by omega))
    have HSH : Hid (Calls Try.prog 41 #[.agg #[.int .i64 k, strV n, strV o, .slice E m d]] W1.drew fun e' w' => e' = .returned (strV (showE ex)) ∧ Below W1.drew.heap.size W1.drew w') := HSH
    generalize showE ex = sx at *
    have hO : nr.length + sx.length + 9 ≤ 500000 := by
      simp only [List.length_append, List.length_cons, List.length_nil] at hlen
      omega
    obtain ⟨U2, hU2⟩ : ∃ T, T = [100, 101, 102, 105, 110, 101, 32] ++ nr := ⟨_, rfl⟩
    obtain ⟨U3, hU3⟩ : ∃ T, T = U2 ++ [58, 32] := ⟨_, rfl⟩
    obtain ⟨U4, hU4⟩ : ∃ T, T = U3 ++ sx := ⟨_, rfl⟩
    have J2 : ∀ W, (Op.stringOp .add ⟨#[100, 101, 102, 105, 110, 101, 32]⟩ ⟨nr.toArray⟩).run Try.prog W = .ok (strV U2) W := fun W => by rw [hU2]; exact plus [100, 101, 102, 105, 110, 101, 32] nr (by simp) (by omega) W
    have J3 : ∀ W, (Op.stringOp .add ⟨U2.toArray⟩ ⟨#[58, 32]⟩).run Try.prog W = .ok (strV U3) W := fun W => by rw [hU3]; exact plus U2 [58, 32] (by rw [hU2]; simp; omega) (by simp) W
    have J4 : ∀ W, (Op.stringOp .add ⟨U3.toArray⟩ ⟨sx.toArray⟩).run Try.prog W = .ok (strV U4) W := fun W => by rw [hU4]; exact plus U3 sx (by rw [hU3, hU2]; simp; omega) (by omega) W
    have hN : [100, 101, 102, 105, 110, 101, 32] ++ (nr ++ ([58, 32] ++ sx)) = U4 := by rw [hU4, hU3, hU2]; simp
    rw [hN]
    clear hU2 hU3 hU4 hO hlen hme hN hmay h0 hr he hx hW
    have hS : ∀ w', Below W1.heap.size W1 w' → (w'.cell? ⟨W.heap.size, 0, none⟩ = some (strV nr) ∧ w'.cell? ⟨W.heap.size, 2, none⟩ = some (.int .i64 k) ∧ w'.cell? ⟨W.heap.size, 3, none⟩ = some (strV n) ∧ w'.cell? ⟨W.heap.size, 4, none⟩ = some (strV o) ∧ w'.cell? ⟨W.heap.size, 5, none⟩ = some (.slice E m d)) := fun w' hw => by
      have hb := HK0.out.below hw HK0.out.lt
      exact ⟨hb.cell (i := 0) (by simp), hb.cell (i := 2) (by simp), hb.cell (i := 3) (by simp), hb.cell (i := 4) (by simp), hb.cell (i := 5) (by simp)⟩
    have hS0 := hS _ (Below.refl W1.heap.size W1).drew
    have HSS := Lib.hid hS
    clear hS
    go_enter Try.func33, Try.ntmps33
    go_wp2_with fail
    rw [← HW.out]
    go_region_held_law (fun w' => (w'.cell? ⟨W.heap.size, 0, none⟩ = some (strV nr) ∧ w'.cell? ⟨W.heap.size, 2, none⟩ = some (.int .i64 k) ∧ w'.cell? ⟨W.heap.size, 3, none⟩ = some (strV n) ∧ w'.cell? ⟨W.heap.size, 4, none⟩ = some (strV o) ∧ w'.cell? ⟨W.heap.size, 5, none⟩ = some (.slice E m d)))
      (with_reducible assumption)
      (first
        | (go_at_call 41; with_reducible refine HSH.out.mono ?_; rintro e w5 ⟨rfl, hb5⟩; have HB6 := Lib.hid ((Below.refl W1.heap.size W1).drew.trans (hb5.mono (Below.refl W1.heap.size W1).drew.size)); have hS5 := HSS.out _ HB6.out; clear hb5))
    go_wp2_with fail
    go_ret
    exact ⟨rfl, HB0.out.trans (HB6.out.mono HB0.out.size)⟩
  · rw [if_neg h0] at hlen ⊢
    have hd : ((rf.length : Int) == 0) = false := beq_eq_false_iff_ne.2 (by omega)
    have hO : nr.length + (rfsT true rf).length + 11 ≤ 500000 := by
      simp only [List.length_append, List.length_cons, List.length_nil] at hlen
      omega
    have HR : Hid (RowAt 2 RfAt W F A rf) := Lib.hid hr
    have HM := Lib.hid (fun y hy => rfsT_mem true rf y hy)
    have HC := Lib.hid (rfsT_len rf)
    have HJ := Lib.hid (rfsT_join rf (by omega))
    obtain ⟨i0, z0, hRW⟩ := rowStr
    have HRW := Lib.hid hRW
    clear hlen hme hmay hr he hx hRW hW
    generalize rfsT true rf = J at *
    obtain ⟨U2, hU2⟩ : ∃ T, T = [114, 101, 108, 97, 116, 105, 111, 110, 32] ++ nr := ⟨_, rfl⟩
    obtain ⟨U3, hU3⟩ : ∃ T, T = U2 ++ [58, 32] := ⟨_, rfl⟩
    obtain ⟨U4, hU4⟩ : ∃ T, T = U3 ++ J := ⟨_, rfl⟩
    have J2 : ∀ W, (Op.stringOp .add ⟨#[114, 101, 108, 97, 116, 105, 111, 110, 32]⟩ ⟨nr.toArray⟩).run Try.prog W = .ok (strV U2) W := fun W => by rw [hU2]; exact plus [114, 101, 108, 97, 116, 105, 111, 110, 32] nr (by simp) (by omega) W
    have J3 : ∀ W, (Op.stringOp .add ⟨U2.toArray⟩ ⟨#[58, 32]⟩).run Try.prog W = .ok (strV U3) W := fun W => by rw [hU3]; exact plus U2 [58, 32] (by rw [hU2]; simp; omega) (by simp) W
    have J4 : ∀ W, (Op.stringOp .add ⟨U3.toArray⟩ ⟨J.toArray⟩).run Try.prog W = .ok (strV U4) W := fun W => by rw [hU4]; exact plus U3 J (by rw [hU3, hU2]; simp; omega) (by omega) W
    have hN : [114, 101, 108, 97, 116, 105, 111, 110, 32] ++ (nr ++ ([58, 32] ++ J)) = U4 := by rw [hU4, hU3, hU2]; simp
    rw [hN]
    clear hU2 hU3 hU4 hN
    go_enter Try.func33, Try.ntmps33
    go_wp2_with fail
    rw [← HW.out]
    go_loopw [3, 21] (fun v i wr => ∃ (n : Nat) (A' : Option Addr) (c' : Nat), n ≤ rf.length ∧ i = .int .i64 n ∧ v = .slice A' n c' ∧ Hid (wr.ownsRow W1.heap.size 9 1 (.slice A' n c') n ((rf.take n).map refS)) ∧ Hid (Below W1.heap.size W1 wr)) (fun _ i _ => rf.length - (intOf i).toNat)
    case atStart => exact ⟨0, none, 0, by omega, rfl, rfl, Lib.hid (World.ownsRow_nil _ _ _ _), Lib.hid (Below.refl _ _)⟩
    case round =>
      obtain ⟨p, A', c', hp, rfl, rfl, HO, BW⟩ := hrel
      by_cases hpl : p < rf.length
      · obtain ⟨b, off, rfl, hc⟩ := HR.out.pair hpl
        have hb2 := HB0.out.trans (BW.out.mono HB0.out.size)
        obtain ⟨z0, z1⟩ := hc wr hb2
        obtain ⟨s1, s2⟩ := HR.out.pairS hpl
        have ht : (rf.take (p + 1)).map refS = (rf.take p).map refS ++ [strV (rfT rf[p])] := by
          rw [List.take_succ_eq_append_getElem hpl, List.map_append]; rfl
        have HT := Lib.hid ht
        have hle := HM.out _ (List.getElem_mem hpl)
        have h3 := rfT_one rf[p]
        have HSR := Lib.hid (pshowRef_any rf[p] (wr.alloc (.cells #[strV rf[p].1, strV rf[p].2] 78)) F [strV rf[p].1, strV rf[p].2] ⟨rfl, s1, s2⟩ (by omega) (by omega))
        have HSR : Hid (Calls Try.prog 57 #[.agg #[strV rf[p].1, strV rf[p].2]] (wr.alloc (.cells #[strV rf[p].1, strV rf[p].2] 78)) fun e w' => e = .returned (strV (rfT rf[p])) ∧ Below (wr.alloc (.cells #[strV rf[p].1, strV rf[p].2] 78)).heap.size (wr.alloc (.cells #[strV rf[p].1, strV rf[p].2] 78)) w') := HSR
        generalize rfT rf[p] = T at *
        generalize rf[p].1 = t1 at *
        generalize rf[p].2 = t2 at *
        obtain ⟨W2, hW2⟩ : ∃ W2, W2 = wr.alloc (.cells #[strV t1, strV t2] 78) := ⟨_, rfl⟩
        have HB2 : Hid (Below wr.heap.size wr W2) := by rw [hW2]; exact Lib.hid ((Below.refl wr.heap.size wr).alloc (Nat.le_refl _) _)
        rw [← hW2] at HSR
        have HW2 := Lib.hid hW2
        have HN : Hid (p ≤ 1000000) := Lib.hid (by have := HC.out; omega)
        have HSZ : Hid (W1.heap.size ≤ wr.heap.size) := Lib.hid BW.out.size
        clear hc hb2 ht hle h3 s1 s2 hW2
        go_wp2_with (first
          | (go_at_call 57; rw [← HW2.out]; refine HSR.out.mono ?_; rintro e w3 ⟨rfl, hb3⟩; have HB3 := Lib.hid (HB2.out.trans (hb3.mono HB2.out.size)); have HO3 := Lib.hid (own_spared HO.out (Spared.of_below HB3.out (fun _ => False)) (fun k hk => hk.elim)); clear hb3)
          | (at_builtin; refine wpList_append_at w3 rfl (.tmp 25) (.tmp 28) 94 rfl HRW.out (by decide) (by decide) W1.heap.size A' p c' _ [strV T] rfl rfl rfl (Nat.le_trans HSZ.out HB3.out.size) HO3.out (fun u hu => by rw [List.mem_singleton.1 hu]; rfl) HN.out ?_; intro A2 c2 w5 hown hbel))
        go_roundw
        case rel => exact ⟨p + 1, A2, c2, by omega, by go_num, rfl, Lib.hid (by rw [HT.out]; exact hown), Lib.hid ((BW.out.trans (HB3.out.mono HSZ.out)).trans hbel)⟩
        case measure => simp [intOf]; omega
      · obtain rfl : p = rf.length := by omega
        have ho := HO.out
        rw [List.take_of_length_le (Nat.le_refl _)] at ho
        obtain ⟨bk, rfl, hbk, hcap, _, hcells⟩ := own_strs rf ho (by omega)
        have hj := strings_Join_at bk 0 c' (rf.map refB) wr.drew hcells hbk (by rw [List.length_map]; have := HC.out; omega) (by rw [List.length_map]; exact hcap) (by rw [refB_list, ← HJ.out]; omega)
        rw [refB_list, ← HJ.out, List.length_map] at hj
        have HJN := Lib.hid hj
        have HB1 := Lib.hid (HB0.out.trans (BW.out.mono HB0.out.size))
        have hS : ∀ w', Below wr.heap.size wr w' → w'.cell? ⟨W.heap.size, 0, none⟩ = some (strV nr) := fun w' hw => by
          have hb := HK0.out.below (hop BW.out hw) HK0.out.lt
          exact hb.cell (i := 0) (by simp)
        have hS0 := hS _ (Below.refl wr.heap.size wr).drew
        have HSS := Lib.hid hS
        clear hS hj ho hcells
        go_wp2_with fail
        go_region_held_law (fun w' => w'.cell? ⟨W.heap.size, 0, none⟩ = some (strV nr))
          (with_reducible assumption)
          (first
            | (go_at_call 58; with_reducible refine HJN.out.mono ?_; rintro e w5 ⟨rfl, hb5⟩; have HB6 := Lib.hid ((Below.refl wr.heap.size wr).drew.trans (hb5.mono (Below.refl wr.heap.size wr).drew.size)); have hS5 := HSS.out _ HB6.out; clear hb5))
        go_wp2_with fail
        go_ret
        exact ⟨rfl, hop HB1.out HB6.out⟩
end Go.Proofs.Ytpiaiibobjlipaa
namespace Go.Proofs.Ytpiaiibobjlipaa
open Go.RowKit
abbrev Bld (g : Nat) (O : Txt) (w : World) : Prop := Lib.IsBuilderF 71 5 g g (Lib.byteCells O) w
theorem bld_below {T e : TypeId} {B b : Nat} {p : Value} {bs : List Value} {w w' : World} (h : Lib.BuilderAtF T e B b p bs w) (hb : Below w.heap.size w w') : Lib.BuilderAtF T e B b p bs w' := by
  have hlt := h.lt
  obtain ⟨h1, v, h2, h3, h4⟩ := h
  exact ⟨h1, v, (hb.block _ hlt).trans h2, h3.kept (row := none) ⟨hb.os, hb.tape, hb.output, hb.size, fun k hk _ => hb.block k hk⟩ (Classical.em _), h4⟩
theorem Bld.below {g : Nat} {O : Txt} {w w' : World} (h : Bld g O w) (hb : Below w.heap.size w w') : Bld g O w' := h.imp (fun h => bld_below h hb) (fun h => bld_below h hb)
theorem Bld.lt {g : Nat} {O : Txt} {w : World} (h : Bld g O w) : g < w.heap.size := h.elim (fun h => h.lt) (fun h => h.lt)
theorem bld_new (w : World) : Bld w.heap.size [] (w.alloc (.cells #[.pointer none, .slice none 0 0] 71)) := Lib.IsBuilderF.of (Lib.fresh_isBuilder _ _ w)
theorem wstr_any {g : Nat} {O T : Txt} {w : World} (h : Bld g O w) (hl : O.length + T.length ≤ 1000000) :
    Calls Try.prog 32 #[.pointer (some ⟨g, 0, none⟩), strV T] w fun e w' => e = .returned (.tuple #[.int .i64 T.length, .nilIface]) ∧ Bld g (O ++ T) w' ∧ Below g w w' ∧ Lib.OthersKept 5 (some g) w w' := by
  refine (Any.Builder_WriteString_k (P := Try.prog) { Try.lays156 with } Try.Builder_Extra_156 g g (Lib.byteCells O) ⟨T.toArray⟩ w h (by rw [Lib.byteCells_length]; show O.length + T.toArray.size ≤ _; simp; omega) (Nat.le_of_lt h.lt)).mono ?_
  rintro e w' ⟨rfl, h2, hb, hk⟩
  refine ⟨rfl, .inr ?_, hb, hk⟩
  rw [Lib.byteCells_append]
  exact h2
theorem bstr_any {g : Nat} {O : Txt} {w : World} (h : Bld g O w) :
    Calls Try.prog 34 #[.pointer (some ⟨g, 0, none⟩)] w fun e w' => e = .returned (strV O) ∧ Below g w w' := by
  refine (Any.Builder_String_any_f (P := Try.prog) { Try.lays156 with } Try.Builder_Extra_156 g g O w h (Nat.le_of_lt h.lt)).mono ?_
  rintro e w' ⟨rfl, _, hb⟩
  exact ⟨rfl, hb⟩
theorem Blk.beside {w w' : World} {g b : Nat} {L : List Value} {t : TypeId} (h : Blk w b L t) (hk : Lib.OthersKept 5 (some g) w w') (hb : b ≠ g) (ht : t ≠ 5) : Blk w' b L t :=
  hk b _ h (fun e => hb (Option.some.inj e)) (fun c fz he => ht (by injection he))
def t5 : Txt := [116, 121, 112, 101, 32]
set_option maxRecDepth 100000 in
set_option maxHeartbeats 4000000 in
theorem pprint_any (s : Sc) (W : World) (F : Nat → Prop) (A : Option Addr) (c : Nat) (hs : ScAt W F A s) (hl : s.length ≤ 9223372036854775807) (hlen : (scT s).length ≤ 500000) :
    Calls Try.prog 14 #[.agg #[.slice A s.length c]] W fun r w' => r = .returned (strV (printT s)) ∧ Below W.heap.size W w' := by
  obtain ⟨W1, hW⟩ : ∃ W1, W1 = W.alloc (.cells #[.slice A s.length c] 25) := ⟨_, rfl⟩
  have HK0 : Hid (Blk W1 W.heap.size [.slice A s.length c] 25) := by rw [hW]; exact Lib.hid (Blk.new W _ _)
  have HB0 : Hid (Below W.heap.size W W1) := by rw [hW]; exact Lib.hid ((Below.refl W.heap.size W).alloc (Nat.le_refl _) _)
  have HS : Hid (RowAt 2 TyAt W F A s) := Lib.hid hs
  have HW := Lib.hid hW
  have HC1 := Lib.hid (pmay_any s W1 F A c (hs.below HB0.out) hl)
  have HMay : Hid (mayS s = true → ∀ t ∈ s, mayT t = true) := Lib.hid (fun h => List.all_eq_true.1 h)
  unfold printT
  generalize mayS s = q at *
  clear hs hW
  cases q
  · go_enter Try.func14, Try.ntmps14
    go_wp2_with (go_at_call 16; rw [← HW.out]; with_reducible refine HC1.out.mono ?_; rintro e w2 ⟨rfl, hb2⟩)
    go_ret
    exact ⟨rfl, HB0.out.trans (hb2.mono HB0.out.size)⟩
  · show Calls _ _ _ _ fun r w' => r = .returned (strV (scT s)) ∧ _
    obtain ⟨V, hV⟩ : ∃ V, V = scT s := ⟨_, rfl⟩
    rw [← hV] at hlen ⊢
    have HV := Lib.hid hV
    have HM := Lib.hid (HMay.out rfl)
    clear hV HMay
    go_enter Try.func14, Try.ntmps14
    go_wp2_with (go_at_call 16; rw [← HW.out]; with_reducible refine HC1.out.mono ?_; rintro e w2 ⟨rfl, hb2⟩; have HB2 := Lib.hid hb2; have x1 := (HK0.out.below (hb2.alloc hb2.size (.cells #[.pointer none, .slice none 0 0] 71)) HK0.out.lt).cell (i := 0) (by simp); simp only [List.getElem_cons_zero] at x1; clear hb2)
    obtain ⟨w3, hw3⟩ : ∃ w3, w3 = w2.alloc (.cells #[.pointer none, .slice none 0 0] 71) := ⟨_, rfl⟩
    have HBD : Hid (Bld w2.heap.size [] w3) := by rw [hw3]; exact Lib.hid (bld_new w2)
    have HBW := Lib.hid (HB0.out.trans (HB2.out.mono HB0.out.size))
    have HB3 : Hid (Below w2.heap.size w2 w3) := by rw [hw3]; exact Lib.hid ((Below.refl w2.heap.size w2).alloc (Nat.le_refl _) _)
    clear x1
    rw [← hw3]
    clear hw3
    go_loopw [14] (fun i wr => ∃ (j : Nat) (O : Txt), j ≤ s.length ∧ i = .int .i64 j ∧ Hid (O ++ scT (s.drop j) = V) ∧ Hid (Bld w2.heap.size O wr) ∧ Hid (Below w2.heap.size w2 wr)) (fun i _ => s.length - (intOf i).toNat)
    case atStart => exact ⟨0, [], by omega, rfl, Lib.hid HV.out.symm, HBD, HB3⟩
    case round =>
      obtain ⟨j, O, hj, rfl, HQ, HD0, BW⟩ := hrel
      by_cases hlt : j < s.length
      · obtain ⟨b, off, B, d, rfl, ⟨hsn, hrl⟩, hr, hc⟩ := HS.out.ty hlt
        have hbr := HBW.out.trans (BW.out.mono HBW.out.size)
        obtain ⟨z0, z1⟩ := hc wr hbr
        have HRL := Lib.hid hr
        have hmt : mayT s[j] = true := HM.out _ (List.getElem_mem hlt)
        unfold mayT at hmt
        rw [Bool.and_eq_true] at hmt
        have HMR := Lib.hid (List.all_eq_true.1 hmt.2)
        have HD : Hid (O ++ (tyW ++ (s[j].name ++ ([10] ++ (rlsT s[j].rels ++ scT (s.drop (j + 1)))))) = V) := by
          show _ = _
          rw [← HQ.out, List.drop_eq_getElem_cons hlt, scT, tyT]
          simp only [List.append_assoc]
        clear hc hr hmt hbr
        generalize s[j].name = nx at *
        generalize s[j].rels = rx at *
        have hO : O.length + nx.length + 6 ≤ 500000 := by
          have h1 := congrArg List.length HD.out
          simp only [List.length_append, List.length_cons, List.length_nil, tyW] at h1
          omega
        obtain ⟨T2, hT2⟩ : ∃ T, T = t5 ++ nx := ⟨_, rfl⟩
        obtain ⟨T3, hT3⟩ : ∃ T, T = T2 ++ [10] := ⟨_, rfl⟩
        have J2 : ∀ W, (Op.stringOp .add ⟨#[116, 121, 112, 101, 32]⟩ ⟨nx.toArray⟩).run Try.prog W = .ok (strV T2) W := fun W => by rw [hT2]; exact plus t5 nx (by simp [t5]) (by omega) W
        have J3 : ∀ W, (Op.stringOp .add ⟨T2.toArray⟩ ⟨#[10]⟩).run Try.prog W = .ok (strV T3) W := fun W => by rw [hT3]; exact plus T2 [10] (by rw [hT2]; simp [t5]; omega) (by simp) W
        have HT3 : Hid (T3.length ≤ 500000 ∧ O.length ≤ 500000) := Lib.hid ⟨by rw [hT3, hT2]; simp [t5]; omega, by omega⟩
        have HD3 : Hid ((O ++ T3) ++ (rlsT rx ++ scT (s.drop (j + 1))) = V) := by
          show _ = _
          rw [← HD.out, hT3, hT2]
          simp [tyW, t5]
        clear hT2 hT3 HD hO
        obtain ⟨w4, hw4⟩ : ∃ w4, w4 = wr.alloc (.cells #[strV nx, .slice B rx.length d] 45) := ⟨_, rfl⟩
        have HK4 : Hid (Blk w4 wr.heap.size [strV nx, .slice B rx.length d] 45) := by rw [hw4]; exact Lib.hid (Blk.new wr _ _)
        have HBW4 : Hid (Below w2.heap.size w2 w4) := by rw [hw4]; exact Lib.hid (BW.out.alloc BW.out.size _)
        have HD4 : Hid (Bld w2.heap.size O w4) := by rw [hw4]; exact Lib.hid (HD0.out.below ((Below.refl wr.heap.size wr).alloc (Nat.le_refl _) _))
        have HW4 := Lib.hid hw4
        clear hw4
        have HWS := Lib.hid (wstr_any (T := T3) HD4.out (by have := HT3.out; omega))
        have HNE : Hid (wr.heap.size ≠ w2.heap.size) := Lib.hid (fun e => by have := HD0.out.lt; omega)
        go_wp2_with (go_at_call 32; rw [← HW4.out]; with_reducible refine HWS.out.mono ?_; rintro e w5 ⟨rfl, hd5, hb5, hk5⟩; have HD5 := Lib.hid hd5; have HB5 := Lib.hid (HBW4.out.trans hb5); have hk := HK4.out.beside hk5 HNE.out (by decide); have y1 := hk.cell (i := 1) (by simp); simp only [List.getElem_cons_succ, List.getElem_cons_zero] at y1; clear hd5 hb5 hk5 hk)
        clear J2 J3 HWS HD4 HBW4 HK4 HW4 HD0 HQ BW
        go_loopw [26] (fun i w6 => ∃ (p : Nat) (O : Txt), p ≤ rx.length ∧ i = .int .i64 p ∧ Hid (O ++ (rlsT (rx.drop p) ++ scT (s.drop (j + 1))) = V) ∧ Hid (Bld w2.heap.size O w6) ∧ Hid (Below w2.heap.size w2 w6)) (fun i _ => rx.length - (intOf i).toNat)
        case atStart => exact ⟨0, O ++ T3, by omega, rfl, Lib.hid HD3.out, HD5, HB5⟩
        case round =>
          rename World => w6
          obtain ⟨p, O2, hp, rfl, HP, HD6, BW6⟩ := hrel
          have HB6 := Lib.hid (HBW.out.trans (BW6.out.mono HBW.out.size))
          by_cases hpl : p < rx.length
          · obtain ⟨g, og, n1, B1, m1, c1, k1, p1, q1, E1, m2, c2, rfl, hE, hcells⟩ := HRL.out.rel hpl
            obtain ⟨a0, a1, a2, a3, a4, a5⟩ := hcells w6 HB6.out
            have hmr : mayR rx[p] = true := HMR.out _ (List.getElem_mem hpl)
            have HD2 : Hid (O2 ++ ([32, 32] ++ (relS rx[p] ++ ([10] ++ (rlsT (rx.drop (p + 1)) ++ scT (s.drop (j + 1)))))) = V) := by
              show _ = _
              rw [← HP.out, List.drop_eq_getElem_cons hpl, rlsT, rlT_relS]
              simp only [List.append_assoc]
            have hO2 : O2.length + (relS rx[p]).length + 3 ≤ 500000 := by
              have h1 := congrArg List.length HD2.out
              simp only [List.length_append, List.length_cons, List.length_nil] at h1
              omega
            obtain ⟨w7, hw7⟩ : ∃ w7, w7 = w6.alloc (.cells #[strV n1, .slice B1 m1 c1, .int .i64 k1, strV p1, strV q1, .slice E1 m2 c2] 48) := ⟨_, rfl⟩
            have HB7 : Hid (Below w6.heap.size w6 w7) := by rw [hw7]; exact Lib.hid ((Below.refl w6.heap.size w6).alloc (Nat.le_refl _) _)
            have HSR := Lib.hid (pshowRel_any rx[p] w7 F _ (hE.below (HB6.out.trans (HB7.out.mono HB6.out.size))) hmr (by omega))
            generalize relS rx[p] = R at *
            have HW7 := Lib.hid hw7
            clear hcells hE hmr hw7
            obtain ⟨U1, hU1⟩ : ∃ T, T = [32, 32] ++ R := ⟨_, rfl⟩
            obtain ⟨U2, hU2⟩ : ∃ T, T = U1 ++ [10] := ⟨_, rfl⟩
            have J2 : ∀ W, (Op.stringOp .add ⟨#[32, 32]⟩ ⟨R.toArray⟩).run Try.prog W = .ok (strV U1) W := fun W => by rw [hU1]; exact plus [32, 32] R (by simp) (by omega) W
            have J3 : ∀ W, (Op.stringOp .add ⟨U1.toArray⟩ ⟨#[10]⟩).run Try.prog W = .ok (strV U2) W := fun W => by rw [hU2]; exact plus U1 [10] (by rw [hU1]; simp; omega) (by simp) W
            have HU : Hid (O2.length + U2.length ≤ 1000000) := Lib.hid (by rw [hU2, hU1]; simp; omega)
            have HN : Hid ((O2 ++ U2) ++ (rlsT (rx.drop (p + 1)) ++ scT (s.drop (j + 1))) = V) := by
              show _ = _
              rw [← HD2.out, hU2, hU1]
              simp
            clear hU1 hU2 hO2 HD2
            go_wp2_with (first
              | (go_at_call 33; rw [← HW7.out]; with_reducible refine HSR.out.mono ?_; rintro e w8 ⟨rfl, hb8⟩; have hb68 := hop HB7.out hb8; have HB8 := Lib.hid (BW6.out.trans (hb68.mono BW6.out.size)); have HWS := Lib.hid (wstr_any (T := U2) (HD6.out.below hb68) HU.out); clear hb8 hb68)
              | (go_at_call 32; with_reducible refine HWS.out.mono ?_; rintro e w9 ⟨rfl, hd9, hb9, hk9⟩; have HD9 := Lib.hid hd9; have HB9 := Lib.hid (HB8.out.trans hb9); clear hd9 hb9 hk9))
            go_roundw
            case rel => exact ⟨p + 1, O2 ++ U2, by omega, by go_num, HN, HD9, HB9⟩
            case measure => simp [intOf]; omega
          · have HN : Hid (O2 ++ scT (s.drop (j + 1)) = V) := by
              show _ = _
              rw [← HP.out, List.drop_of_length_le (l := rx) (i := p) (by omega)]; rfl
            go_wp2_with fail
            go_roundw
            case rel => exact ⟨j + 1, O2, by omega, by go_num, HN, HD6, BW6⟩
            case measure => simp [intOf]; omega
      · have hOV : O = V := by
          rw [← HQ.out, List.drop_of_length_le (by omega)]; exact (List.append_nil O).symm
        subst hOV
        have HST := Lib.hid (bstr_any HD0.out)
        go_wp2_with (go_at_call 34; with_reducible refine HST.out.mono ?_; rintro e w5 ⟨rfl, hb5⟩)
        go_ret
        have hb := BW.out.trans hb5
        exact ⟨rfl, HBW.out.trans (hb.mono HBW.out.size)⟩
end Go.Proofs.Ytpiaiibobjlipaa
